import PyProof.Rows.All
import Wide.All
import OpenK.AllK
import Wide.FinOn
import HandS.ForMost
import HandS.Walk
import HandS.Evl
import HandS.IsInst
import HandS.Exc
import HandS.TryOnly
import HandS.ExcOwn
import HandS.ExcInit
import HandS.ExcField
import HandS.WordsExc
import HandS.Defaults
import HandS.MakeKw
import HandS.MakeKwOnly
import HandS.Property
import KE.KExcIs
import HandS.ClsMeth
import HandS.Star
import PySem.Challenge.RW_unnamedlives_k03_signature_text
set_option Elab.async false
set_option linter.all false
set_option maxRecDepth 100000
/-! own: a list of draws as ONE unchanging thing of the abstract heap; small words -/
namespace UL
open PySem PySem.Spec PyProof.Rows L2 Evl TL

/-! ### draws -/
def Good (ns : List Int) : Prop := (∀ m ∈ ns, 0 ≤ m ∧ m < 1000003) ∧ ns.length ≤ 4000
def drObj (d : Addr) (h : Heap) : Prop := ∃ (ns : List Int) (its : List Value) (n : Nat), Good ns ∧ Vals (ns.map V.int) its ∧ h.get? d = some { cls := .type "list", data := .seq its.toArray n }
def DrO (d : Addr) : HO := .ext (drObj d)
theorem good_sz {ns : List Int} (g : Good ns) : (ns.map V.int).length ≤ sizeLine := by
  rw [List.length_map]
  exact Nat.le_trans g.2 (by decide)
section
variable {X : Cx} {pins : List (Addr × Obj)} {σ : L2.St} {H : Hp} {s : Shared} {d : Addr}
theorem inv_open (I : Inv X pins σ H s) (h : H d = some (DrO d)) : ∃ ns, Good ns ∧ Inv X pins σ (upd H d (.lst (ns.map V.int))) s := by
  obtain ⟨⟨ns, its, n, g, r, e⟩, _, _⟩ := I.hok d _ h
  exact ⟨ns, g, I.write (x := d) (e := d) (h' := s.heap) (t' := s.toks) (by rw [h]; trivial) (.inl rfl) (fun _ _ _ q => q) ⟨_, e⟩ ⟨good_sz g, its, n, r, e⟩⟩
theorem inv_close {ns : List Int} (I : Inv X pins σ H s) (h : H d = some (.lst (ns.map V.int))) (g : Good ns) : Inv X pins σ (upd H d (DrO d)) s := by
  obtain ⟨z, its, n, r, e⟩ := I.hok d _ h
  exact I.write (x := d) (e := d) (h' := s.heap) (t' := s.toks) (by rw [h]; trivial) (.inl rfl) (fun _ _ _ q => q) ⟨_, e⟩
    ⟨⟨ns, its, n, g, r, e⟩, ⟨_, e⟩, fun h1 h2 ⟨ns', its', n', g', r', e'⟩ k => ⟨ns', its', n', g', r', k _ e'⟩⟩
/-- the list of draws in slot i is opened ahead of the statements -/
def tOpen (i : Nat) (t : TS) : TS := fun D σ H => ∃ d, σ[i]? = some (some (.ref d)) ∧ H d = some (DrO d) ∧ ∀ ns, Good ns → t D σ (upd H d (.lst (ns.map V.int)))
theorem pss_open (i : Nat) {sts : List Stmt} {t : TS} (h : PSs X sts t) : PSs X sts (tOpen i t) := by
  refine ⟨fun pins s σ H D I q => ?_⟩
  obtain ⟨d, _, hd, k⟩ := q
  obtain ⟨ns, g, J⟩ := inv_open I hd
  exact h.run pins s σ _ D J (k ns g)
/-- .. and closed behind an expression -/
def tClose (t : TE) : TE := fun σ H Q => t σ H fun v H1 => ∃ d ns, H1 d = some (.lst (ns.map V.int)) ∧ Good ns ∧ Q v (upd H1 d (DrO d))
theorem pe_close {e : Expr} {t : TE} (h : PE X e t) : PE X e (tClose t) := by
  refine ⟨fun pins s σ H Q I q => ?_⟩
  refine thn (h.run pins s σ H _ I q) fun u s1 ⟨v, H1, I1, r, d, ns, hd, g, k⟩ => ?_
  exact ⟨v, _, inv_close I1 hd g, r, k⟩
end
theorem upd_back {H : Hp} {d : Addr} {o u : HO} (h : H d = some o) : upd (upd H d u) d o = H := by
  funext b
  unfold upd
  by_cases e : b = d
  · rw [if_pos e, e, h]
  · rw [if_neg e, if_neg e]
theorem upd_id {H : Hp} {d : Addr} {o : HO} (h : H d = some o) : upd H d o = H := by
  funext b
  unfold upd
  by_cases e : b = d
  · rw [if_pos e, e, h]
  · rw [if_neg e]
theorem same_upd {H : Hp} {p : Addr} {o : HO} (h : H p = none) : Same H (upd H p o) := fun b x e => by
  rw [upd_ne (ne_of_none e h)]
  exact e
theorem _root_.Evl.Ex.free' {H H' : Hp} {p : Addr} (e : Ex H H') (h : H' p = none) : H p = none := fresh_back e h
theorem good_tail {n : Int} {ns : List Int} (g : Good (n :: ns)) : 0 ≤ n ∧ n < 1000003 ∧ Good ns :=
  ⟨(g.1 n List.mem_cons_self).1, (g.1 n List.mem_cons_self).2, fun m hm => g.1 m (List.mem_cons_of_mem _ hm), Nat.le_trans (Nat.le_succ _) g.2⟩
theorem good_nil : Good [] := ⟨fun _ h => (nomatch h), by decide⟩
theorem good_add {ns : List Int} {n : Int} (g : ∀ m ∈ ns, 0 ≤ m ∧ m < 1000003) (h : 0 ≤ n ∧ n < 1000003) : ∀ m ∈ ns ++ [n], 0 ≤ m ∧ m < 1000003 := fun m hm => by
  rcases List.mem_append.mp hm with h1 | h1
  · exact g m h1
  · rw [List.mem_singleton.mp h1]
    exact h

/-! ### text * int -/
theorem op_mul_str {X : Cx} : OpR X (binaryOp .Mult) (fun x y H Q => ∃ (z : Str) (n : Int), x = .str z ∧ y = .int n ∧ MulOk z n ∧ Q (.str (Txt.mul z n)) H) := by
  intro pins s σ H x y v u Q I rx ry h
  obtain ⟨i, j, rfl, rfl, hz, q⟩ := h
  obtain ⟨t, rfl⟩ := rx
  obtain ⟨t', rfl⟩ := ry
  exact SB.mul hz (fun t' tk => ⟨.str (Txt.mul i j), H, I.tok _, ⟨_, rfl⟩, q⟩)
theorem mulOk_small {z : Str} {n : Int} (hz : z.length ≤ 64) (h0 : 0 ≤ n) (h1 : n ≤ 64) : MulOk z n := by
  refine ⟨?_, fun h2 _ => ?_, fun _ _ => ?_⟩
  · rw [decide_eq_false (by omega), decide_eq_false (by omega)]
    rfl
  · intro h
    have h3 : (64 : Int) ≤ (2 ^ 63 - 1) / n := (Int.le_ediv_iff_mul_le (by omega)).mpr (by omega)
    omega
  · unfold PySem.Builtin.Str.tooLong
    refine decide_eq_false ?_
    have h3 : z.length * n.toNat ≤ 64 * 64 := Nat.mul_le_mul hz (by omega)
    have h4 : (64 * 64 : Nat) ≤ sizeLine := by decide
    omega
theorem tl_reps (x : Array Nat) : ∀ (k : Nat) (a : Array Nat), ((List.replicate k x).foldl (· ++ ·) a).toList = a.toList ++ (List.replicate k x.toList).flatten
  | 0, a => by simp
  | k + 1, a => by
    rw [List.replicate_succ, List.foldl_cons, tl_reps x k (a ++ x), List.replicate_succ, List.flatten_cons, Array.toList_append, List.append_assoc]
theorem tl_mul (z : Str) (n : Int) : tl (Txt.mul z n) = (List.replicate n.toNat (tl z)).flatten := by
  unfold Txt.mul
  by_cases h1 : n < 1
  · rw [if_pos h1, show n.toNat = 0 by omega]
    rfl
  · rw [if_neg h1]
    by_cases h2 : (n == 1 || z.length == 0) = true
    · rw [if_pos h2]
      rcases Bool.or_eq_true _ _ ▸ h2 with h3 | h3
      · have : n = 1 := by simpa using h3
        subst this
        show tl z = (List.replicate 1 (tl z)).flatten
        simp
      · have h4 : (tl z) = [] := by
          have : z.length = 0 := by simpa using h3
          rw [len_tl] at this
          exact List.eq_nil_of_length_eq_zero this
        rw [h4]
        simp
    · rw [if_neg h2]
      show ((List.replicate n.toNat z.cps).foldl (· ++ ·) #[]).toList = _
      rw [tl_reps]
      rfl

theorem rel_of {x : V} {u : Value} (h : absV u = some x) : RelV x u := by
  cases u <;> first | (cases h; done) | (cases h; exact rfl) | (cases h; exact ⟨_, rfl⟩)
theorem vals_of : ∀ {xs : List V} {us : List Value}, us.map absV = xs.map some → Vals xs us
  | [], [], _ => .nil
  | [], _ :: _, h => (nomatch h)
  | _ :: _, [], h => (nomatch h)
  | x :: xs, u :: us, h => by
    rw [List.map_cons, List.map_cons] at h
    exact .cons (rel_of (List.cons.inj h).1) (vals_of (List.cons.inj h).2)
theorem dp_strs {K : PySem.W.Frag} {H : Hp} : ∀ zs : List Str, DpAll K H (zs.map V.str) (zs.map PyData.str)
  | [] => .nil
  | z :: r => .cons (.str z) (dp_strs r)
/-! ### loops -/
section
variable {D : Ends} {tb : TS} {j : Nat} {σ : L2.St} {H : Hp}
theorem forR1 {n : Int} (hn : -(2 ^ 62) ≤ n ∧ n < 2 ^ 62) (Pv : Nat → L2.St → Hp → Prop) (h0 : Pv 0 σ H)
    (hs : ∀ (i : Nat) σ' H', (i : Int) < n → Pv i σ' H' → tb { D with nx := Pv (i + 1), ct := Pv (i + 1), bk := D.nx } (σ'.set j (some (.int (i : Int)))) H') (hd : ∀ σ' H', Pv n.toNat σ' H' → D.nx σ' H') :
    -(2 ^ 62) ≤ n ∧ n < 2 ^ 62 ∧ ∃ W : Nat → Nat → L2.St → Hp → Prop, (∃ m, W 0 m σ H) ∧ ∀ i m σ H, W i m σ H →
      ((Itr 0 n.toNat).stop i H ∧ D.nx σ H) ∨ ((Itr 0 n.toNat).go i H ∧ ∃ N : L2.St → Hp → Prop, (∀ σ' H', N σ' H' → ∃ m', m' < m ∧ W (i + 1) m' σ' H') ∧ ∀ x H', (Itr 0 n.toNat).yld i H x H' → gName j x σ H' fun σ2 H2 => tb { D with nx := N, ct := N, bk := D.nx } σ2 H2) :=
  ⟨hn.1, hn.2, for_range (lo := 0) (n := n.toNat) Pv h0 (fun i σ' H' hi p => by
    have e0 : (0 : Int) + (i : Int) = (i : Int) := Int.zero_add _
    show tb { D with nx := Pv (i + 1), ct := Pv (i + 1), bk := D.nx } (σ'.set j (some (.int ((0 : Int) + (i : Int))))) H'
    rw [e0]
    exact hs i σ' H' (by omega) p) hd⟩
end
theorem seq0 (n : Nat) : seqIndex? 0 (n + 1) = some 0 := by
  unfold seqIndex?
  have h : (0 : Int) < ((n + 1 : Nat) : Int) := by omega
  have h2 : (0 ≤ (0 : Int) && decide ((0 : Int) < ((n + 1 : Nat) : Int))) = true := by
    rw [decide_eq_true h]
    rfl
  show (if (0 ≤ (0 : Int) && decide ((0 : Int) < ((n + 1 : Nat) : Int))) = true then some (0 : Int).toNat else none) = some 0
  rw [if_pos h2]
  rfl
theorem at_lt {α : Type} {xs : List α} {n : Int} (h0 : 0 ≤ n) (h1 : n < (xs.length : Int)) : ∃ c, atI xs n = some c := by
  obtain ⟨m, rfl⟩ := Int.eq_ofNat_of_zero_le h0
  have hm : m < xs.length := by omega
  exact ⟨xs[m], atI_nat (List.getElem?_eq_getElem hm)⟩
theorem at_in {α : Type} {xs : List α} {n : Int} (h0 : 0 ≤ n) (h1 : n < (xs.length : Int)) : ∃ c, atI xs n = some c ∧ c ∈ xs := by
  obtain ⟨m, rfl⟩ := Int.eq_ofNat_of_zero_le h0
  have hm : m < xs.length := by omega
  exact ⟨xs[m], atI_nat (List.getElem?_eq_getElem hm), List.getElem_mem hm⟩
theorem emod_in {a : Int} : 0 ≤ a % 1000003 ∧ a % 1000003 < 1000003 := ⟨Int.emod_nonneg _ (by decide), Int.emod_lt_of_pos _ (by decide)⟩
theorem int_get {ns : List Int} {i : Nat} (h : i < ns.length) : (ns.map V.int)[i]? = some (.int ns[i]) := by
  rw [List.getElem?_map, List.getElem?_eq_getElem h]
  rfl
/-! ### comprehensions over a text -/
theorem lc_str {z : Str} {f : Nat → V} {j : Nat} {te : TE} {vs : List Nat} {σ : L2.St} {H1 : Hp} {D : Addr} {Qd : Hp → Prop} (hz : z.length ≤ 100000) (hD : H1 D = none) (hw : ∀ x, wipe ((wipe σ vs).set j (some x)) vs = wipe σ vs)
    (he : ∀ (c : Nat) H', Ex H1 H' → ∀ Q : VK, Q (f c) H' → te ((wipe σ vs).set j (some (.str ⟨#[c]⟩))) H' Q) (hd : Qd (upd H1 D (.lst ((tl z).map f)))) :
    ∃ W : Nat → Nat → Hp → Prop, (∃ m, W 0 m (upd H1 D (.lst []))) ∧ ∀ i m H, W i m H →
      ((Its z).stop i H ∧ Qd H) ∨ ((Its z).go i H ∧ ∃ Nx : Hp → Prop, (∀ H', Nx H' → ∃ m', m' < m ∧ W (i + 1) m' H') ∧ ∀ x H', (Its z).yld i H x H' → gName j x (wipe σ vs) H' fun σ2 H2 => wipe σ2 vs = wipe σ vs ∧ tYes σ2 H2 fun b H3 =>
        if b = true then te σ2 H3 fun y H4 => ∃ acc, H4 D = some (.lst acc) ∧ acc.length < sizeLine ∧ Nx (upd H4 D (.lst (acc ++ [y]))) else Nx H3) := by
  refine lc_it walk_str (fun i H' => H' = upd H1 D (.lst (((tl z).take i).map f))) rfl (fun _ _ _ _ => trivial) ?_ ?_
  · rintro i x H H' hi rfl ⟨rfl, c, hc, rfl⟩
    refine ⟨hw _, ?_⟩
    show te _ _ _
    refine he c _ (Ex.new hD) _ ?_
    have hc' : (tl z)[i]? = some c := by rw [← hc]; exact Array.getElem?_toList
    refine ⟨_, upd_same, ?_, ?_⟩
    · rw [List.length_map, List.length_take]
      exact sz_lt (by have := len_tl z; have hs : i < z.length := hi; omega)
    · rw [upd_upd, List.take_add_one, hc', List.map_append]
      rfl
  · rintro H rfl
    have e : (tl z).take z.cps.size = tl z := List.take_of_length_le (by rw [← len_tl]; exact Nat.le_refl _)
    rw [e]
    exact hd
theorem for_str {z : Str} {j : Nat} {tb : TS} {D : Ends} {σ : L2.St} {H : Hp} (Pv : Nat → L2.St → Hp → Prop) (h0 : Pv 0 σ H)
    (hs : ∀ i c σ' H', (tl z)[i]? = some c → Pv i σ' H' → tb { D with nx := Pv (i + 1), ct := Pv (i + 1), bk := D.nx } (σ'.set j (some (.str ⟨#[c]⟩))) H') (hd : ∀ σ' H', Pv (tl z).length σ' H' → D.nx σ' H') :
    ∃ W : Nat → Nat → L2.St → Hp → Prop, (∃ m, W 0 m σ H) ∧ ∀ i m σ H, W i m σ H →
      ((Its z).stop i H ∧ D.nx σ H) ∨ ((Its z).go i H ∧ ∃ N : L2.St → Hp → Prop, (∀ σ' H', N σ' H' → ∃ m', m' < m ∧ W (i + 1) m' σ' H') ∧ ∀ x H', (Its z).yld i H x H' → gName j x σ H' fun σ2 H2 => tb { D with nx := N, ct := N, bk := D.nx } σ2 H2) := by
  refine for_it walk_str Pv h0 (fun _ _ _ _ _ => trivial) ?_ ?_
  · rintro i x σ' H1 H2 hi p ⟨rfl, c, hc, rfl⟩
    exact hs i c σ' _ (by rw [← hc]; exact Array.getElem?_toList) p
  · intro σ' H' p
    exact hd σ' H' p
/-- [te for _ in range(n)]: things of a kind that stays true, also when a list is written -/
theorem lc_n {G : Hp → V → Prop} {n : Int} {j : Nat} {te : TE} {vs : List Nat} {σ : L2.St} {H1 : Hp} {D : Addr} {Qd : Hp → Prop} (hn : 0 ≤ n ∧ n ≤ 100000) (hD : H1 D = none) (hG : ∀ H H' v, Ex H H' → G H v → G H' v)
    (hG2 : ∀ H xs ys v, H D = some (.lst xs) → G H v → G (upd H D (.lst ys)) v) (hw : ∀ x, wipe ((wipe σ vs).set j (some x)) vs = wipe σ vs)
    (he : ∀ (i : Nat) H', (i : Int) < n → Ex H1 H' → ∀ Q : VK, (∀ v H2, Ex H' H2 → G H2 v → Q v H2) → te ((wipe σ vs).set j (some (.int (i : Int)))) H' Q) (hd : ∀ H' xs, Ex H1 H' → H' D = some (.lst xs) → (xs.length : Int) = n → (∀ x ∈ xs, G H' x) → Qd H') :
    ∃ W : Nat → Nat → Hp → Prop, (∃ m, W 0 m (upd H1 D (.lst []))) ∧ ∀ i m H, W i m H →
      ((Itr 0 n.toNat).stop i H ∧ Qd H) ∨ ((Itr 0 n.toNat).go i H ∧ ∃ Nx : Hp → Prop, (∀ H', Nx H' → ∃ m', m' < m ∧ W (i + 1) m' H') ∧ ∀ x H', (Itr 0 n.toNat).yld i H x H' → gName j x (wipe σ vs) H' fun σ2 H2 => wipe σ2 vs = wipe σ vs ∧ tYes σ2 H2 fun b H3 =>
        if b = true then te σ2 H3 fun y H4 => ∃ acc, H4 D = some (.lst acc) ∧ acc.length < sizeLine ∧ Nx (upd H4 D (.lst (acc ++ [y]))) else Nx H3) := by
  refine lc_range (lo := 0) (n := n.toNat) (fun i H' => ∃ xs : List V, Ex H1 H' ∧ H' D = some (.lst xs) ∧ xs.length = i ∧ ∀ x ∈ xs, G H' x) ⟨[], Ex.new hD, upd_same, rfl, fun _ h => (nomatch h)⟩ ?_ ?_
  · rintro i H' hi ⟨xs, e1, hL, hl, hx⟩
    have e0 : (0 : Int) + (i : Int) = (i : Int) := Int.zero_add _
    show wipe ((wipe σ vs).set j (some (.int ((0 : Int) + (i : Int))))) vs = wipe σ vs ∧ _
    refine ⟨hw _, ?_⟩
    show te ((wipe σ vs).set j (some (.int ((0 : Int) + (i : Int))))) _ _
    rw [e0]
    refine he i H' (by omega) e1 _ fun v H2 e2 g => ⟨xs, e2 _ _ hL, sz_lt (by omega), xs ++ [v], (e1.trans e2).mut hD, upd_same, by rw [List.length_append, hl]; rfl, fun x hm => ?_⟩
    rcases List.mem_append.mp hm with h | h
    · exact hG2 _ _ _ _ (e2 _ _ hL) (hG _ _ _ e2 (hx x h))
    · rw [List.mem_singleton.mp h]
      exact hG2 _ _ _ _ (e2 _ _ hL) g
  · rintro H' ⟨xs, e1, hL, hl, hx⟩
    exact hd H' xs e1 hL (by omega) hx
end UL

set_option Elab.async false
set_option linter.all false
set_option maxRecDepth 100000
/-! own: one of two readings; objects made with keywords where an error may leave; own ==; isinstance of an error that has a dict -/
namespace UL
open PySem PySem.Spec PyProof.Rows L2 Evl TL

/-! ### one of two readings -/
section
variable {X : Cx} {e : Expr} {t1 t2 : TE} {op : CmpOp} {tg iter : Expr} {w1 w2 : TI}
def tAlt (t1 t2 : TE) : TE := fun σ H Q => t1 σ H Q ∨ t2 σ H Q
theorem pe_alt (h1 : PE X e t1) (h2 : PE X e t2) : PE X e (tAlt t1 t2) :=
  ⟨fun pins s σ H Q I h => h.elim (fun q => h1.run pins s σ H Q I q) (fun q => h2.run pins s σ H Q I q)⟩
def iAlt (w1 w2 : TI) : TI := fun σ H R => w1 σ H R ∨ w2 σ H R
theorem pi_alt (h1 : PI X tg iter w1) (h2 : PI X tg iter w2) : PI X tg iter (iAlt w1 w2) :=
  ⟨fun pins s σ H R I h => h.elim (fun q => h1.run pins s σ H R I q) (fun q => h2.run pins s σ H R I q)⟩
def rAlt (r1 r2 : R2) : R2 := fun x y H Q => r1 x y H Q ∨ r2 x y H Q
theorem op_alt {f : Value → Value → Sem Value} {r1 r2 : R2} (h1 : OpR X f r1) (h2 : OpR X f r2) : OpR X f (rAlt r1 r2) :=
  fun pins s σ H x y v u Q I rx ry h => h.elim (fun q => h1 pins s σ H x y v u Q I rx ry q) (fun q => h2 pins s σ H x y v u Q I rx ry q)
def cAlt (r1 r2 : List V → Hp → VK → Prop) : List V → Hp → VK → Prop := fun xs H Q => r1 xs H Q ∨ r2 xs H Q
theorem call_alt {f : Value} {r1 r2 : List V → Hp → VK → Prop} (h1 : CallR X f r1) (h2 : CallR X f r2) : CallR X f (cAlt r1 r2) :=
  fun pins s σ H xs us Q I r h => h.elim (fun q => h1 pins s σ H xs us Q I r q) (fun q => h2 pins s σ H xs us Q I r q)
end

/-! ### C(e, .., k = v, ..) where what is raised is wished for at the caller's slots -/
def tMakeS (C : Addr) (n m : Nat) (sp : Sp) (gV : List V → List V → List V) (E : L2.St → XK) (t tk : TA) : TE := fun σ H Q => t σ H fun vs H1 => tk σ H1 fun zs H2 => vs.length = n ∧ zs.length = m ∧
  ∀ x dx, H2 x = none → H2 dx = none → dx ≠ x → sp (gV (.ref x :: vs) zs) (upd (upd H2 dx (.own x)) x (.ins C dx [])) (fun v H3 => v = .non ∧ Q (.ref x) H3) (E σ)
section
variable {X : Cx} {CX : CXT} {k n : Nat} {f C : Addr} {fd : FuncData} {ps ks : List Str} {sp : Sp} {E : L2.St → XK} {x : Str} {p pos : Pos} {e : Expr} {es : List Expr} {kws : List Keyword} {t tk : TA} {g : List Value → List Value → List Value} {gV : List V → List V → List V}
theorem mk_run {pins : List (Addr × Obj)} {σ : L2.St} {H : Hp} {s : Shared} {Q : VK} {us ws : List Value} {vs zs : List V} (M : Mk X.K C f) (F : FnOk X.prog X.w X.K X.mg X.base CX k f fd ps sp) (hr : Room (k + 1) X.A)
    (hb : KBn X.K fd ps (n + 1) ks g gV) (hx : PassesAt CX X σ (E σ)) (I : Inv X pins σ H s) (r : Vals vs us) (rz : Vals zs ws) (l1 : vs.length = n) (l2 : zs.length = ks.length)
    (h : ∀ x dx, H x = none → H dx = none → dx ≠ x → sp (gV (.ref x :: vs) zs) (upd (upd H dx (.own x)) x (.ins C dx [])) (fun v H2 => v = .non ∧ Q (.ref x) H2) (E σ)) :
    wpAny (model X.prog X.w) X.A (call (.ref C) us (ks.zip ws)) (EP X pins σ Q) X.xe s := by
  let sz := s.heap.objs.size
  have J := Inv.made (C := C) I
  have q0 := h (sz + 1) sz (I.hok.fresh (Nat.le_succ _)) (I.hok.fresh (Nat.le_refl _)) (Nat.ne_of_lt (Nat.lt_succ_self _))
  have ra : Vals (V.ref (sz + 1) :: vs) (Value.ref (sz + 1) :: us) := .cons rfl r
  have na : (Value.ref (sz + 1) :: us).length = n + 1 := by rw [← ra.length, List.length_cons, l1]
  have run := F.run _ X.stack _ _ ⟨Value.ref (sz + 1) :: us, ks.zip ws⟩ (g (Value.ref (sz + 1) :: us) ws) _ _ (E σ) (hr.make C us (ks.zip ws)) (J.env0.make C us (ks.zip ws)) (hb.to _ (Value.ref (sz + 1) :: us) ws J.kIn na (rz.length.symm.trans l2)) (hb.rel ra rz) q0
  refine wpAny_call (make_map (f := f) I.kIn M.makes M.init (beq_iff_eq.mp M.fn) (codeAny_mono run fun rr s' z => ?_))
  match rr, z with
  | .error er, z => exact hx pins _ _ er s' J z
  | .ok (.ret u), z =>
    obtain ⟨v, H', J', rv, ev, q⟩ := J.after z
    subst ev
    exact ⟨rv, ⟨V.ref (sz + 1), H', J', rfl, q⟩⟩
  | .ok .next, z => exact False.elim z
  | .ok .brk, z => exact False.elim z
  | .ok .cont, z => exact False.elim z
theorem pe_makeS (M : Mk X.K C f) (F : FnOk X.prog X.w X.K X.mg X.base CX k f fd ps sp) (hr : Room (k + 1) X.A) (hg : Gl X x) (hm : X.mg x = some (.ref C)) (hb : KBn X.K fd ps (n + 1) ks g gV) (hx : ∀ σ, PassesAt CX X σ (E σ)) (ha : PA X (e :: es) t) (hkw : PK X kws tk)
    (a1 : (backToKw pos (keywordEach kws X.env)).all (·.1.isSome) = true := by rfl) (a2 : (backToKw pos (keywordEach kws X.env)).filterMap (·.1) = ks := by rfl) (a3 : (x == ("__debug__" : Str)) = false := by decide)
    (a4 : starEach (e :: es) X.env = (false, eval e X.env) :: starEach es X.env := by rfl) (a5 : ((backTo pos (starEach (e :: es) X.env)).any (·.1) || (backToKw pos (keywordEach kws X.env)).any (·.1.isNone)) = false := by rfl) :
    PE X (.Call (.Name x p) (e :: es) kws pos) (tMakeS C n ks.length sp gV E t tk) := by
  refine ⟨fun pins s σ H Q I h => wpAny_Call_Name_kw (ld_glob I hg hm ?_ a3)⟩
  refine PySem.W.callWith_KW (h₀ := X.base) I.ok.mod.kin M.kp a1 (thn (ha.run pos pins s σ H _ I h) fun us s1 hh => ?_) a5 a4
  obtain ⟨vs, H1, I1, r, q⟩ := hh
  refine thn (hkw.run pos pins s1 σ H1 _ I1 q) fun ws s2 hh => ?_
  obtain ⟨zs, H2, I2, rz, l1, l2, q2⟩ := hh
  exact ⟨I2.kIn, by rw [a2]; exact mk_run M F hr hb (hx σ) I2 r rz l1 l2 q2⟩
end
/-- what leaves a call is wished for wherever the slots stand -/
theorem passAny {X : Cx} {W : WX} (tk : Takes X W) : ∀ σ, PassesAt (L2.CX X.prog X.w) X σ (WE W σ) := fun σ => passAt tk σ
/-- .. in a def that lets it out: the wish E is the caller's -/
theorem passOut {X : Cx} {E : XK} (tk : Takes X fun cls d _ H => E cls d H) : ∀ σ, PassesAt (L2.CX X.prog X.w) X σ E := fun σ => passAt tk σ

/-! ### own == -/
/-- what may stand on the right of an own ==: of its class, or of a type beside it -/
def RSide (K : PySem.W.Frag) (C : Addr) (y : V) (H : Hp) : Prop := (∃ b dy gs, y = .ref b ∧ H b = some (.ins C dy gs)) ∨ (∃ z, y = .str z ∧ PySem.W.subIn K (.type "str") (.ref C) = some false) ∨ ∃ b ys, y = .ref b ∧ H b = some (.tup ys) ∧ PySem.W.subIn K (.type "tuple") (.ref C) = some false
def rOwnEq (K : PySem.W.Frag) (C : Addr) (sp : Sp) (E : XK) : R2 := fun x y H Q => ∃ a dx fs, x = .ref a ∧ H a = some (.ins C dx fs) ∧ RSide K C y H ∧ sp [.ref a, y] H (fun v H' => (∃ b, v = .bl b) ∧ Q v H') E
section
variable {X : Cx} {CX : CXT} {k : Nat} {f C : Addr} {fd : FuncData} {ps : List Str} {sp : Sp} {E : XK}
theorem op_ownEq (F : FnOk X.prog X.w X.K X.mg X.base CX k f fd ps sp) (hr : Room k X.A) (hs : PySem.W.findIn X.K (.ref C) "__eq__" = some (some (.ref f))) (hf : PySem.W.isFn X.K (.ref f) = true) (hb : L2.Binds X.K fd ps []) (hx : Passes CX X E) :
    OpR X (compareOp .Eq) (rOwnEq X.K C sp E) := by
  intro pins s σ H x y v u Q I rx ry h
  obtain ⟨a, dx, fs, rfl, ha, hy, q⟩ := h
  cases rx
  obtain ⟨mA, J, _⟩ := ins_get I.hok ha
  obtain ⟨od, J, _⟩ := J.look
  obtain ⟨m, hF⟩ := I.fr
  have side : ∃ tb, PySem.W.Looks (model X.prog X.w) s.heap (typeOf u) tb ∧ PySem.W.notFirst X.K C tb = true := by
    rcases hy with ⟨b, dy, gs, rfl, hb2⟩ | ⟨z, rfl, hn⟩ | ⟨b, ys, rfl, hb2, hn⟩
    · cases ry
      obtain ⟨mB, J', _⟩ := ins_get I.hok hb2
      obtain ⟨od', J', _⟩ := J'.look
      exact ⟨_, J'.type, by simp [PySem.W.notFirst]⟩
    · obtain ⟨t, rfl⟩ := ry
      exact ⟨.type "str", .now, by simp [PySem.W.notFirst, hn]⟩
    · cases ry
      obtain ⟨z, its, r, o, hg, hc, n, hd⟩ := I.hok b _ hb2
      exact ⟨.type "tuple", hc ▸ (PySem.W.Looks.ld hg).andThen .now, by simp [PySem.W.notFirst, hn]⟩
  obtain ⟨tb, ty, nf⟩ := side
  show wpAny _ _ (richCompare .Eq (.ref a) u) _ _ _
  refine PySem.W.cmp_K (op := .Eq) (tb := tb) hr.units0 hF I.ok.mod.kin J ty nf hs hf ?_
  have r2 : Vals [V.ref a, y] [Value.ref a, u] := .cons rfl (.cons ry .nil)
  have hl : [Value.ref a, u].length = ps.length := by rw [← r2.length]; exact F.len _ _ _ _ q
  have bd := hb s [Value.ref a, u] I.kIn (by rw [List.append_nil]; exact hl)
  rw [List.append_nil] at bd
  refine wpAny_call (codeAny_mono (F.run X.A X.stack s H ⟨[.ref a, u], []⟩ [.ref a, u] [.ref a, y] _ E hr I.env0 bd r2 q) fun rr s' z => ?_)
  match rr, z with
  | .error er, z => exact hx pins σ H s er s' I z
  | .ok (.ret w), z =>
    obtain ⟨v, H', I', rv, ⟨b, rfl⟩, q'⟩ := I.after z
    cases rv
    exact ⟨V.bl b, H', I', rfl, q'⟩
  | .ok .next, z => exact False.elim z
  | .ok .brk, z => exact False.elim z
  | .ok .cont, z => exact False.elim z
end

/-! ### isinstance of a caught error that has a dict -/
def rIsX (K : PySem.W.Frag) (D a : Addr) (cls : Value) (d : Option Addr) : List V → Hp → VK → Prop := fun xs H Q => ∃ (c : V) (cv : Value) (b : Bool) (dd : Addr) (fs : List (Str × V)), xs = [.ref a, c] ∧ cls = .ref D ∧ (∀ u, RelV c u → u = cv) ∧ d = some dd ∧ H dd = some (.xd fs) ∧ PySem.W.kitOne K (.ref D) cv = some b ∧ Q (.bl b) H
structure ExI (K : PySem.W.Frag) (D : Addr) : Prop where
  c1 : (PySem.W.clsIn K D).isSome = true
  c2 : PySem.W.findIn K (.ref D) "__getattribute__" = some (some (.builtin "BaseException.__getattribute__"))
  c3 : PySem.W.findIn K (.ref D) "__getattr__" = some none
  c4 : PySem.W.subIn K (.ref D) (.type "BaseException") = some true
  c5 : PySem.W.findIn K (.ref D) "__class__" = some (some (.builtin "object.__class__"))
  c6 : PySem.W.specialIn K (.builtin "object.__class__") "__get__" = some (some (.builtin "getset_descriptor.__get__"))
  c7 : PySem.W.takesIn K (.builtin "object.__class__") = some true
  c8 : PySem.W.mroIn K D (.type "object") = some true
theorem call_isX {X : Cx} {a D : Addr} {cls : Value} {d : Option Addr} {oe : Obj} {pn : List (Addr × Obj)} (T : ExI X.K D) (hz : Zc cls d oe) (hf : ∃ vs, oe.data = .fields vs) : CallR (X.suite a ((a, oe) :: pn)) (.builtin "isinstance") (rIsX X.K D a cls d) := by
  intro pins s σ H xs us Q I r h
  obtain ⟨c, cv, b, dd, fs, rfl, rfl, hcv, rfl, hd, ek, q⟩ := h
  obtain ⟨u1, w1, e1, r1, rr1⟩ : ∃ u1 w1, us = [u1, w1] ∧ RelV (.ref a) u1 ∧ RelV c w1 := by
    cases r with
    | cons q1 q2 =>
      cases q2 with
      | cons q3 q4 =>
        cases q4
        exact ⟨_, _, rfl, q1, q3⟩
  subst e1
  cases r1
  have e2 := hcv _ rr1
  subst e2
  obtain ⟨hget, _⟩ := I.pin (a, oe) (List.mem_append.mpr (.inl List.mem_cons_self))
  obtain ⟨vs, hv⟩ := hf
  have hx : ObjOk X.prog X.w H s.heap dd (.xd fs) := I.hok dd _ hd
  obtain ⟨mA, hns, _⟩ := hx
  obtain ⟨od, ho, _⟩ := lookIn_ns hns
  have J : PySem.W.InstAt s.heap a oe D (some od) := ⟨hget, hz.1, by unfold PySem.W.notCls; rw [hv] <;> rfl, by rw [hz.2]; exact ho⟩
  exact PySem.W.kia_one (PySem.W.kitx_exc T.c1 T.c2 T.c3 T.c4 T.c5 T.c6 T.c7 T.c8) I.kIn J ek (fun z => nomatch z) fun tk => ⟨.bl b, H, I.kept (t' := tk) fun _ _ z => z, rfl, q⟩
/-! ### what the written part says of a class -/
structure TyF (K : PySem.W.Frag) (C : Addr) : Prop where
  ha : PySem.W.findIn K (.ref C) "__class__" = some (some (.builtin "object.__class__"))
  hn : PySem.W.specialIn K (.builtin "object.__class__") "__get__" = some (some (.builtin "getset_descriptor.__get__"))
  ht : PySem.W.takesIn K (.builtin "object.__class__") = some true
  hm : PySem.W.mroIn K C (.type "object") = some true
theorem tyx_ins {K : PySem.W.Frag} {H : Hp} {a C dx : Addr} {fs : List (Str × V)} (e : H a = some (.ins C dx fs)) (c : Cls K C) (t : TyF K C) : TyX K H (.ref a) (.ref C) := .base (.ins e c t.ha t.hn t.ht t.hm)
structure ExF (K : PySem.W.Frag) (C I : Addr) : Prop where
  ox : OexC K C
  ii : PySem.W.findIn K (.ref C) "__init__" = some (some (.ref I))
  nw : PySem.W.findIn K (.ref C) "what" = some none
  xf : XfC K C

/-! ### errors that keep what they are made with -/
/-- the promise of the base class's __init__: self.what = what -/
def spWhat (K : PySem.W.Frag) : Sp := fun vs H Q _ => ∃ (a C : Addr) (v : V), vs = [.ref a, v] ∧ flatV v = true ∧ H a = some (exo a C none) ∧ OexC K C ∧ PySem.W.findIn K (.ref C) "what" = some none ∧
  ∀ dx, H dx = none → dx ≠ a → Q .non (upd (upd H dx (exd dx [("what", v)])) a (exo a C (some dx)))
theorem raise_what {K : PySem.W.Frag} {C I : Addr} {H : Hp} {v : V} {Q : XK} (F : ExF K C I) (hv : flatV v = true) (k : ∀ d H', Ex H H' → H' d = some (.xd [("what", v)]) → Q (.ref C) (some d) H') :
    ∀ a, H a = none → spWhat K [.ref a, v] (upd H a (exo a C none)) (fun u H2 => u = .non ∧ ∃ (d : Addr) (fs : List (Str × V)), H2 a = some (exo a C (some d)) ∧ H2 d = some (exd d fs) ∧ H d = none ∧ Q (.ref C) (some d) (upd (L2.del H2 a) d (.xd fs))) (fun _ _ _ => False) := by
  intro a ha
  refine ⟨a, C, v, rfl, hv, upd_same, F.ox, F.nw, fun dx hd hne => ⟨rfl, dx, [("what", v)], upd_same, ?_, ?_, ?_⟩⟩
  · rw [upd_ne hne, upd_same]
  · rw [upd_ne hne] at hd
    exact hd
  · have hd0 : H dx = none := by
      rw [upd_ne hne] at hd
      exact hd
    refine k dx _ (fun b o hb => ?_) upd_same
    have b1 : b ≠ a := ne_of_none hb ha
    have b2 : b ≠ dx := ne_of_none hb hd0
    rw [upd_ne b2]
    show (if b = a then none else _) = _
    rw [if_neg b1, upd_ne b1, upd_ne b2, upd_ne b1]
    exact hb
theorem flat_ty {K : PySem.W.Frag} {H : Hp} {v : V} (h : flatV v = true) : ∃ t, TyX K H v t ∧ PySem.W.kitOne K t (.type "list") = some false ∧ PySem.W.kitOne K t (.type "tuple") = some false ∧ PySem.W.kitOne K t (.type "dict") = some false := by
  cases v with
  | non => exact ⟨_, .base .non, kit_ty (r := false) (by decide +kernel), kit_ty (r := false) (by decide +kernel), kit_ty (r := false) (by decide +kernel)⟩
  | bl b => exact ⟨_, .base (.bl b), kit_ty (r := false) (by decide +kernel), kit_ty (r := false) (by decide +kernel), kit_ty (r := false) (by decide +kernel)⟩
  | int i => exact ⟨_, .base (.int i), kit_ty (r := false) (by decide +kernel), kit_ty (r := false) (by decide +kernel), kit_ty (r := false) (by decide +kernel)⟩
  | str z => exact ⟨_, .base (.str z), kit_ty (r := false) (by decide +kernel), kit_ty (r := false) (by decide +kernel), kit_ty (r := false) (by decide +kernel)⟩
  | _ => cases h

/-! ### sequences: a list or a tuple -/
section
variable {K : PySem.W.Frag} {H H' : Hp} {v : V} {xs : List V}
def SeqV (K : PySem.W.Frag) (H : Hp) (v : V) (xs : List V) : Prop := ∃ a, v = .ref a ∧ (H a = some (.lst xs) ∨ H a = some (.tup xs) ∨ (SqT K H a xs ∧ ∃ o, K.lookup a = some o ∧ o.cls = .type "tuple"))
theorem SeqV.mono (e : Ex H H') (h : SeqV K H v xs) : SeqV K H' v xs := by
  obtain ⟨a, rfl, h | h | ⟨h, o⟩⟩ := h
  · exact ⟨a, rfl, .inl (e _ _ h)⟩
  · exact ⟨a, rfl, .inr (.inl (e _ _ h))⟩
  · exact ⟨a, rfl, .inr (.inr ⟨ex_t e h, o⟩)⟩
theorem SeqV.ty (h : SeqV K H v xs) : ∃ t, TyX K H v t ∧ PySem.W.kitAny K t [.type "list", .type "tuple"] = some true := by
  obtain ⟨a, rfl, h | h | ⟨_, o, ho, hc⟩⟩ := h
  · exact ⟨_, .base (.lst h), rfl⟩
  · exact ⟨_, .base (.tup h), rfl⟩
  · exact ⟨_, .kTuple ho hc, rfl⟩
theorem SeqV.two (h : SeqV K H v xs) : ∃ a, v = .ref a ∧ (SqL K H a xs ∨ SqT K H a xs) := by
  obtain ⟨a, rfl, h | h | ⟨h, o⟩⟩ := h
  · exact ⟨a, rfl, .inl (SqL.of h)⟩
  · exact ⟨a, rfl, .inr (SqT.of h)⟩
  · exact ⟨a, rfl, .inr h⟩
def NSeq (H : Hp) (v : V) : Prop := v = .non ∨ (∃ b, v = .bl b) ∨ (∃ i, v = .int i) ∨ (∃ z, v = .str z) ∨ ∃ a kvs, v = .ref a ∧ H a = some (.dK kvs)
theorem NSeq.mono (e : Ex H H') (h : NSeq H v) : NSeq H' v := by
  rcases h with h | h | h | h | ⟨a, kvs, h, h1⟩
  · exact .inl h
  · exact .inr (.inl h)
  · exact .inr (.inr (.inl h))
  · exact .inr (.inr (.inr (.inl h)))
  · exact .inr (.inr (.inr (.inr ⟨a, kvs, h, e _ _ h1⟩)))
theorem NSeq.ty (h : NSeq H v) : ∃ t, TyX K H v t ∧ PySem.W.kitAny K t [.type "list", .type "tuple"] = some false := by
  rcases h with rfl | ⟨b, rfl⟩ | ⟨i, rfl⟩ | ⟨z, rfl⟩ | ⟨a, kvs, rfl, h⟩
  · exact ⟨_, .base .non, rfl⟩
  · exact ⟨_, .base (.bl b), rfl⟩
  · exact ⟨_, .base (.int i), rfl⟩
  · exact ⟨_, .base (.str z), rfl⟩
  · exact ⟨_, .base (.dK h), rfl⟩
theorem for_seq {a : Addr} {tl : TE} {g : TG} {tb : TS} {D : Ends} {σ : L2.St} (htl : ∀ Q : VK, Q (.ref a) H → tl σ H Q) (hx : SqL K H a xs ∨ SqT K H a xs) (Pv : Nat → L2.St → Hp → Prop) (h0 : Pv 0 σ H) (stay : ∀ i σ' H', Pv i σ' H' → Ex H H')
    (hs : ∀ i x σ' H', xs[i]? = some x → Pv i σ' H' → g x σ' H' fun σ2 H2 => tb { D with nx := Pv (i + 1), ct := Pv (i + 1), bk := D.nx } σ2 H2) (hd : ∀ σ' H', Pv xs.length σ' H' → D.nx σ' H') : tFor (iAlt (iList K tl) (iTup K tl)) g tb D σ H := by
  rcases hx with hx | hx
  · exact .inl (htl _ ⟨a, rfl, ⟨_, hx⟩, for_list Pv h0 (fun i σ' H' _ p => ex_l (stay i σ' H' p) hx) hs hd⟩)
  · exact .inr (htl _ ⟨a, rfl, ⟨_, hx⟩, for_tup Pv h0 (fun i σ' H' _ p => ex_t (stay i σ' H' p) hx) hs hd⟩)
end

theorem del_at {H : Hp} {x b : Addr} {o : HO} (h : H b = some o) (n : b ≠ x) : L2.del H x b = some o := by
  show (if b = x then none else H b) = _
  rw [if_neg n]
  exact h
theorem sqT_del {K : PySem.W.Frag} {H : Hp} {x a C dx : Addr} {fs : List (Str × V)} {xs : List V} (hx : H x = some (.ins C dx fs)) (h : SqT K H a xs) : SqT K (L2.del H x) a xs := by
  rcases h with (h | ⟨o, h⟩) | h
  · exact .inl (.inl (del_at h (ne_of h hx (by intro z; cases z))))
  · exact .inl (.inr ⟨o, del_at h (ne_of h hx (by intro z; cases z))⟩)
  · exact .inr h
/-- all but the object at x stands -/
theorem ex_del {H H1 H' : Hp} {x : Addr} (e : Ex H H1) (k : ∀ b o, b ≠ x → H1 b = some o → H' b = some o) : Ex (L2.del H x) H' := fun b o hb => by
  by_cases n : b = x
  · rw [show L2.del H x b = none from if_pos n] at hb
    cases hb
  · rw [show L2.del H x b = H b from if_neg n] at hb
    exact k b o n (e b o hb)

def rLen (K : PySem.W.Frag) : List V → Hp → VK → Prop := fun xs H Q => ∃ p ys, xs = [.ref p] ∧ (SqL K H p ys ∨ SqT K H p ys) ∧ Q (.int ys.length) H
theorem cutV_mem {xs : List V} {lo hi : Option Int} : (∀ x ∈ cutV xs lo hi, x ∈ xs) ∧ (cutV xs lo hi).length ≤ xs.length := by
  unfold cutV
  refine ⟨fun x hx => List.mem_of_mem_drop (List.mem_of_mem_take hx), ?_⟩
  rw [List.length_take, List.length_drop]
  omega

theorem made_in {H : Hp} {x dx C : Addr} (hx : H x = none) (hd : H dx = none) : Ex H (upd (upd H dx (.own x)) x (.ins C dx [])) := fun b o hb => by
  rw [upd_ne (ne_of_none hb hx), upd_ne (ne_of_none hb hd)]
  exact hb
theorem made_ex {H H' : Hp} {x dx C : Addr} (hx : H x = none) (hd : H dx = none) (e : Ex (L2.del (upd (upd H dx (.own x)) x (.ins C dx [])) x) H') : Ex H H' := fun b o hb =>
  e b o (del_at (made_in hx hd b o hb) (ne_of_none hb hx))
theorem sqT_ty {K : PySem.W.Frag} {H : Hp} {t : Addr} {xs : List V} (h : SqT K H t xs) : TyX K H (.ref t) (.type "tuple") := by
  rcases h with (h | ⟨o, h⟩) | ⟨o, its, n, ho, hc, _⟩
  · exact .base (.tup h)
  · exact .fTuple h
  · exact .kTuple ho hc

theorem SeqV.isl {K : PySem.W.Frag} {H : Hp} {v : V} {xs : List V} (h : SeqV K H v xs) : (∃ a, v = .ref a ∧ H a = some (.lst xs) ∧ TyX K H v (.type "list")) ∨ (∃ a, v = .ref a ∧ SqT K H a xs ∧ TyX K H v (.type "tuple")) := by
  obtain ⟨a, rfl, h | h | ⟨h, o, ho, hc⟩⟩ := h
  · exact .inl ⟨a, rfl, h, .base (.lst h)⟩
  · exact .inr ⟨a, rfl, SqT.of h, .base (.tup h)⟩
  · exact .inr ⟨a, rfl, h, .kTuple ho hc⟩

theorem cut_one (xs : List V) : cutV xs (some 1) none = xs.drop 1 := by
  unfold cutV
  rw [show HT.sIx xs.length 0 (some 1) = min 1 xs.length from HT.sIx_nat xs.length 0 1, HT.sIx_none]
  cases xs with
  | nil => rfl
  | cons x r =>
    rw [show min 1 (x :: r).length = 1 by rw [List.length_cons]; omega]
    exact List.take_of_length_le (by rw [List.length_drop]; omega)

section
variable {K : PySem.W.Frag} {C D : Addr} {T : String} {b : Bool}
theorem cls_some (h : PySem.W.hasDictIn K C = true) : (PySem.W.clsIn K C).isSome = true := by
  obtain ⟨cd, hc, _⟩ := PySem.W.any_some h
  rw [hc]
  rfl
theorem kit_own : PySem.W.kitOne K (.ref C) (.ref C) = some true := by
  unfold PySem.W.kitOne
  rw [if_pos (beq_self_eq_true _)]
theorem both_cls (h1 : PySem.W.hasDictIn K C = true) (h2 : PySem.W.typeIn K (.ref C) = some (.type "type")) : ((PySem.W.clsIn K C).isSome && PySem.W.typeIn K (.ref C) == some (.type "type")) = true := by
  rw [cls_some h1, h2] <;> rfl
theorem kit_type_ref (h1 : PySem.W.hasDictIn K C = true) (h2 : PySem.W.typeIn K (.ref C) = some (.type "type")) (h3 : PySem.W.subIn K (.type T) (.ref C) = some b) : PySem.W.kitOne K (.type T) (.ref C) = some b := by
  unfold PySem.W.kitOne
  rw [if_neg (by intro z; cases (beq_iff_eq.mp z))]
  exact (show PySem.W.kitCls K (.type T) (.ref C) = PySem.W.subIn K (.type T) (.ref C) from if_pos (both_cls h1 h2)).trans h3
theorem kit_ref_type (hm : PySem.W.kitMeta T = true) (h : PySem.W.subIn K (.ref D) (.type T) = some b) : PySem.W.kitOne K (.ref D) (.type T) = some b := by
  unfold PySem.W.kitOne
  rw [if_neg (by intro z; cases (beq_iff_eq.mp z))]
  exact (show PySem.W.kitCls K (.ref D) (.type T) = PySem.W.subIn K (.ref D) (.type T) from if_pos hm).trans h
theorem kit_ref_ref (ne : D ≠ C) (h1 : PySem.W.hasDictIn K C = true) (h2 : PySem.W.typeIn K (.ref C) = some (.type "type")) (h3 : PySem.W.subIn K (.ref D) (.ref C) = some b) : PySem.W.kitOne K (.ref D) (.ref C) = some b := by
  unfold PySem.W.kitOne
  rw [if_neg (by intro z; exact ne (Value.ref.inj (beq_iff_eq.mp z)))]
  exact (show PySem.W.kitCls K (.ref D) (.ref C) = PySem.W.subIn K (.ref D) (.ref C) from if_pos (both_cls h1 h2)).trans h3
theorem exm_cls (h0 : PySem.W.subIn K (.ref C) (.type "BaseException") = some true) (h1 : PySem.W.hasDictIn K C = true) (h2 : PySem.W.typeIn K (.ref C) = some (.type "type")) (h3 : PySem.W.subIn K (.ref D) (.ref C) = some b) : PySem.W.exmOne K (.ref D) (.ref C) = some b := by
  have e1 : (PySem.W.subIn K (.ref C) (.type "BaseException") == some true) = true := by rw [h0] <;> rfl
  show (if (PySem.W.subIn K (.ref C) (.type "BaseException") == some true) = true then (if ((PySem.W.clsIn K C).isSome && PySem.W.typeIn K (.ref C) == some (.type "type")) = true then PySem.W.subIn K (.ref D) (.ref C) else none) else none) = some b
  rw [if_pos e1, if_pos (both_cls h1 h2)]
  exact h3
end

theorem cut_from (xs : List V) (k : Nat) : cutV xs (some (k : Int)) none = xs.drop k := by
  unfold cutV
  rw [HT.sIx_nat, HT.sIx_none]
  by_cases h : k ≤ xs.length
  · rw [Nat.min_eq_left h]
    exact List.take_of_length_le (by rw [List.length_drop]; omega)
  · rw [Nat.min_eq_right (by omega), List.drop_length, List.drop_eq_nil_of_le (by omega), List.take_nil]
end UL

set_option Elab.async false
set_option linter.all false
set_option maxRecDepth 100000
/-! own: a static method called off its class -/
namespace UL
open PySem PySem.Spec PyProof.Rows L2 Evl TL

/-- C.m is a staticmethod: its record at p, its def at g -/
structure SMet (K : PySem.W.Frag) (C : Addr) (mc : Value) (m : Str) (p g : Addr) : Prop where
  rd : PySem.W.readsIn K C mc = true
  ga : PySem.W.specialIn K (.ref C) "__getattribute__" = some (some (.builtin "type.__getattribute__"))
  fc : PySem.W.findCls K (.ref C) mc m = some (.get (.builtin "staticmethod.__get__") (.ref p) .none (.ref C))
  rc : ∃ rest, PySem.W.recIn K p "staticmethod" = some (.ref g :: rest)
  kg : PySem.W.keepIn K (.ref g) = true
def tSm (C : Addr) (sp : Sp) (E : L2.St → XK) (ta : TE) (t : TA) : TE := fun σ H Q => ta σ H fun x H1 => x = .ref C ∧ t σ H1 fun vs H2 => sp vs H2 Q (E σ)
section
variable {X : Cx} {CX : CXT} {k : Nat} {C p g : Addr} {mc : Value} {fd : FuncData} {ps : List Str} {sp : Sp} {E : L2.St → XK} {o e : Expr} {es : List Expr} {m : Str} {pos apos : Pos} {ta : TE} {t : TA} {pl : Sem Bool}
theorem pe_smS (he : PE X o ta) (c : SMet X.K C mc m p g) (F : FnOk X.prog X.w X.K X.mg X.base CX k g fd ps sp) (hr : Room k X.A) (hb : L2.Binds X.K fd ps []) (hx : ∀ σ, PassesAt CX X σ (E σ)) (ha : PA X (e :: es) t)
    (h1 : starEach (e :: es) X.env = (false, eval e X.env) :: starEach es X.env := by rfl) (h2 : (backTo pos (starEach es X.env)).any (·.1) = false := by rfl)
    (h3 : eval (.Call (.Attribute o m apos) (e :: es) [] pos) X.env = (do
      let who ← eval o X.env
      standAt apos.atName
      let (fn, fst) ← holding [who] (getMethod who m pl)
      callWith pos fn fst (backTo pos (starEach (e :: es) X.env)) (backToKw pos (keywordEach [] X.env))) := by rfl) :
    PE X (.Call (.Attribute o m apos) (e :: es) [] pos) (tSm C sp E ta t) := by
  refine ⟨fun pins s σ H Q I h => PySem.W.methodCall_KW (pl := pl) (thn (he.run pins s σ H _ I h) fun u s1 hh => ?_) h3⟩
  obtain ⟨x, H1, I1, rx, rfl, q⟩ := hh
  obtain rfl : u = Value.ref C := rx
  obtain ⟨rest, hrc⟩ := c.rc
  refine PySem.W.method_cls I1.kIn c.ga (PySem.W.cls_bind I1.kIn c.rd c.fc (wpAny_call (PySem.W.sm_get (s := { s1 with toks := s1.toks + 1 }) I1.kIn hrc (PySem.W.handed_on rfl ?_))))
  have I2 : Inv X pins σ H1 { s1 with toks := s1.toks + 1 } := I1.tok _
  refine PySem.W.callWith_K (h₀ := X.base) I1.ok.mod.kin c.kg (thn (ha.run pos pins _ σ H1 _ I2 q) fun us s3 hh => ?_) h1 h2
  obtain ⟨vs, H2, I3, rv, q2⟩ := hh
  exact ⟨I3.kIn, run_fnS F hr hb (hx σ) I3 rv q2⟩
end

/-- [f x for x in a sequence]: any walk over fixed items, an element each, nothing else changed -/
theorem lc_map {K : PySem.W.Frag} {J : It} {xs : List V} {G : Hp → Prop} {f : V → V} {j : Nat} {te : TE} {vs : List Nat} {σ : L2.St} {H1 : Hp} {D : Addr} {Qd : Hp → Prop} (w : L2.Walk J xs.length G (YAt xs)) (hz : xs.length ≤ 100000) (hD : H1 D = none)
    (hG : ∀ H', Ex H1 H' → G H') (hw : ∀ x, wipe ((wipe σ vs).set j (some x)) vs = wipe σ vs) (he : ∀ x H', x ∈ xs → Ex H1 H' → ∀ Q : VK, Q (f x) H' → te ((wipe σ vs).set j (some x)) H' Q) (hd : Qd (upd H1 D (.lst (xs.map f)))) :
    ∃ W : Nat → Nat → Hp → Prop, (∃ m, W 0 m (upd H1 D (.lst []))) ∧ ∀ i m H, W i m H →
      (J.stop i H ∧ Qd H) ∨ (J.go i H ∧ ∃ Nx : Hp → Prop, (∀ H', Nx H' → ∃ m', m' < m ∧ W (i + 1) m' H') ∧ ∀ x H', J.yld i H x H' → gName j x (wipe σ vs) H' fun σ2 H2 => wipe σ2 vs = wipe σ vs ∧ tYes σ2 H2 fun b H3 =>
        if b = true then te σ2 H3 fun y H4 => ∃ acc, H4 D = some (.lst acc) ∧ acc.length < sizeLine ∧ Nx (upd H4 D (.lst (acc ++ [y]))) else Nx H3) := by
  refine lc_it w (fun i H' => H' = upd H1 D (.lst ((xs.take i).map f))) rfl (fun i H' _ h => by rw [h]; exact hG _ (Ex.new hD)) ?_ ?_
  · rintro i x H H' hi rfl ⟨rfl, hx⟩
    refine ⟨hw _, ?_⟩
    show te _ _ _
    refine he x _ (List.mem_of_getElem? hx) (Ex.new hD) _ ⟨_, upd_same, ?_, ?_⟩
    · rw [List.length_map, List.length_take]
      exact sz_lt (by omega)
    · rw [upd_upd, List.take_add_one, hx, List.map_append]
      rfl
  · rintro H rfl
    rw [List.take_length]
    exact hd
/-- [f x for x in a sequence if p x] -/
theorem lc_filter {K : PySem.W.Frag} {J : It} {xs : List V} {G : Hp → Prop} {p : V → Bool} {f : V → V} {j : Nat} {tt : TT} {te : TE} {vs : List Nat} {σ : L2.St} {H1 : Hp} {D : Addr} {Qd : Hp → Prop} (w : L2.Walk J xs.length G (YAt xs)) (hz : xs.length ≤ 100000) (hD : H1 D = none)
    (hG : ∀ H', Ex H1 H' → G H') (hw : ∀ x, wipe ((wipe σ vs).set j (some x)) vs = wipe σ vs) (ht : ∀ x H', x ∈ xs → Ex H1 H' → ∀ Q : Bool → Hp → Prop, Q (p x) H' → tt ((wipe σ vs).set j (some x)) H' Q)
    (he : ∀ x H', x ∈ xs → p x = true → Ex H1 H' → ∀ Q : VK, Q (f x) H' → te ((wipe σ vs).set j (some x)) H' Q) (hd : Qd (upd H1 D (.lst ((xs.filter p).map f)))) :
    ∃ W : Nat → Nat → Hp → Prop, (∃ m, W 0 m (upd H1 D (.lst []))) ∧ ∀ i m H, W i m H →
      (J.stop i H ∧ Qd H) ∨ (J.go i H ∧ ∃ Nx : Hp → Prop, (∀ H', Nx H' → ∃ m', m' < m ∧ W (i + 1) m' H') ∧ ∀ x H', J.yld i H x H' → gName j x (wipe σ vs) H' fun σ2 H2 => wipe σ2 vs = wipe σ vs ∧ tt σ2 H2 fun b H3 =>
        if b = true then te σ2 H3 fun y H4 => ∃ acc, H4 D = some (.lst acc) ∧ acc.length < sizeLine ∧ Nx (upd H4 D (.lst (acc ++ [y]))) else Nx H3) := by
  refine lc_it w (fun i H' => H' = upd H1 D (.lst (((xs.take i).filter p).map f))) rfl (fun i H' _ h => by rw [h]; exact hG _ (Ex.new hD)) ?_ ?_
  · rintro i x H H' hi rfl ⟨rfl, hx⟩
    refine ⟨hw _, ?_⟩
    refine ht x _ (List.mem_of_getElem? hx) (Ex.new hD) _ ?_
    have e1 : (xs.take (i + 1)).filter p = (xs.take i).filter p ++ [x].filter p := by
      rw [List.take_add_one, hx, List.filter_append]
      rfl
    cases hp : p x with
    | true =>
      refine iteT (he x _ (List.mem_of_getElem? hx) hp (Ex.new hD) _ ⟨_, upd_same, ?_, ?_⟩)
      · rw [List.length_map]
        refine sz_lt (Nat.lt_of_le_of_lt (List.length_filter_le _ _) ?_)
        rw [List.length_take]
        omega
      · rw [upd_upd, e1, List.map_append]
        simp [hp]
    | false =>
      refine iteF ?_
      rw [e1]
      simp [hp]
  · rintro H rfl
    rw [List.take_length]
    exact hd
end UL

set_option Elab.async false
set_option linter.all false
set_option maxRecDepth 100000
namespace K03
open PySem PySem.Spec PyProof.Rows L2 Evl TL UL StX
def k_NUMERALS : List V := [V.str "0", V.str "1", V.str "2", V.str "3", V.str "4"]
def k_RESERVED : List V := [V.str "fun", V.str "out", V.str "use", V.str "val", V.str "ref", V.str "set", V.str "block", V.str "if", V.str "else", V.str "loop", V.str "end", V.str "part", V.str "pick", V.str "then", V.str "dead"]
/-! ### the text -/
def topS (i : Nat) : Stmt := PySem.Challenge.pw_unnamedlives_k03_signature_text.main.body.getD i (.Pass ⟨0, 0, 0, 0⟩)
abbrev s_copied : Stmt := topS 2
abbrev n_copied : List Str := ["thing", "levels", "part"]
abbrev p_copied : List Str := ["thing", "levels"]
theorem sc_copied : FnScope n_copied p_copied (defScope s_copied) := ⟨rfl, rfl, rfl, by decide +kernel, rfl, by decide +kernel, by decide +kernel⟩
abbrev s_lives_init : Stmt := inClass (topS 3) 0
abbrev n_lives_init : List Str := ["self", "what"]
abbrev p_lives_init : List Str := ["self", "what"]
theorem sc_lives_init : FnScope n_lives_init p_lives_init (defScope s_lives_init) := ⟨rfl, rfl, rfl, by decide +kernel, rfl, by decide +kernel, by decide +kernel⟩
abbrev s_is_whole : Stmt := topS 6
abbrev n_is_whole : List Str := ["thing"]
abbrev p_is_whole : List Str := ["thing"]
theorem sc_is_whole : FnScope n_is_whole p_is_whole (defScope s_is_whole) := ⟨rfl, rfl, rfl, by decide +kernel, rfl, by decide +kernel, by decide +kernel⟩
abbrev s_is_int : Stmt := topS 7
abbrev n_is_int : List Str := ["thing", "low", "high"]
abbrev p_is_int : List Str := ["thing", "low", "high"]
theorem sc_is_int : FnScope n_is_int p_is_int (defScope s_is_int) := ⟨rfl, rfl, rfl, by decide +kernel, rfl, by decide +kernel, by decide +kernel⟩
abbrev s_is_name : Stmt := topS 13
abbrev n_is_name : List Str := ["text", "sign"]
abbrev p_is_name : List Str := ["text"]
theorem sc_is_name : FnScope n_is_name p_is_name (defScope s_is_name) := ⟨rfl, rfl, rfl, by decide +kernel, rfl, by decide +kernel, by decide +kernel⟩
abbrev s_are_sources : Stmt := topS 17
abbrev n_are_sources : List Str := ["sources", "count", "least", "source"]
abbrev p_are_sources : List Str := ["sources", "count"]
theorem sc_are_sources : FnScope n_are_sources p_are_sources (defScope s_are_sources) := ⟨rfl, rfl, rfl, by decide +kernel, rfl, by decide +kernel, by decide +kernel⟩
abbrev s_is_signature : Stmt := topS 18
abbrev n_is_signature : List Str := ["name", "count", "sources"]
abbrev p_is_signature : List Str := ["name", "count", "sources"]
theorem sc_is_signature : FnScope n_is_signature p_is_signature (defScope s_is_signature) := ⟨rfl, rfl, rfl, by decide +kernel, rfl, by decide +kernel, by decide +kernel⟩
abbrev s_sig_init : Stmt := inClass (topS 19) 0
abbrev n_sig_init : List Str := ["self", "name", "count", "sources"]
abbrev p_sig_init : List Str := ["self", "name", "count", "sources"]
theorem sc_sig_init : FnScope n_sig_init p_sig_init (defScope s_sig_init) := ⟨rfl, rfl, rfl, by decide +kernel, rfl, by decide +kernel, by decide +kernel⟩
abbrev s_sig_text : Stmt := inClass (topS 19) 2
abbrev n_sig_text : List Str := ["self", "numbers", "source"]
abbrev p_sig_text : List Str := ["self"]
theorem sc_sig_text : FnScope n_sig_text p_sig_text (defScope s_sig_text) := ⟨rfl, rfl, rfl, by decide +kernel, rfl, by decide +kernel, by decide +kernel⟩
abbrev s_sig_read : Stmt := inClass (topS 19) 3
abbrev n_sig_read : List Str := ["line", "words", "numbers", "word"]
abbrev p_sig_read : List Str := ["line"]
theorem sc_sig_read : FnScope n_sig_read p_sig_read (defScope s_sig_read) := ⟨rfl, rfl, rfl, by decide +kernel, rfl, by decide +kernel, by decide +kernel⟩
abbrev s_sig_eq : Stmt := inClass (topS 19) 4
abbrev n_sig_eq : List Str := ["self", "other"]
abbrev p_sig_eq : List Str := ["self", "other"]
theorem sc_sig_eq : FnScope n_sig_eq p_sig_eq (defScope s_sig_eq) := ⟨rfl, rfl, rfl, by decide +kernel, rfl, by decide +kernel, by decide +kernel⟩
abbrev s_draws : Stmt := topS 21
abbrev n_draws : List Str := ["_law_script", "_law_draws_here", "_law_place", "_law_cell", "_law_rest", "_law_turn", "_law_mixed"]
abbrev p_draws : List Str := ["_law_script"]
theorem sc_draws : FnScope n_draws p_draws (defScope s_draws) := ⟨rfl, rfl, rfl, by decide +kernel, rfl, by decide +kernel, by decide +kernel⟩
abbrev s_take : Stmt := topS 22
abbrev n_take : List Str := ["_law_draws_here", "_law_many"]
abbrev p_take : List Str := ["_law_draws_here", "_law_many"]
theorem sc_take : FnScope n_take p_take (defScope s_take) := ⟨rfl, rfl, rfl, by decide +kernel, rfl, by decide +kernel, by decide +kernel⟩
abbrev s_name : Stmt := topS 23
abbrev n_name : List Str := ["_law_draws_here", "_law_k", "_law_letters", "_law_plain", "_law_shape", "_law_word"]
abbrev p_name : List Str := ["_law_draws_here", "_law_k"]
theorem sc_name : FnScope n_name p_name (defScope s_name) := ⟨rfl, rfl, rfl, by decide +kernel, rfl, by decide +kernel, by decide +kernel⟩
abbrev s_words : Stmt := topS 24
abbrev n_words : List Str := ["_law_words_here"]
abbrev p_words : List Str := []
theorem sc_words : FnScope n_words p_words (defScope s_words) := ⟨rfl, rfl, rfl, by decide +kernel, rfl, by decide +kernel, by decide +kernel⟩
abbrev s_lname : Stmt := topS 25
abbrev n_lname : List Str := ["_law_thing", "_law_sign_here"]
abbrev p_lname : List Str := ["_law_thing"]
theorem sc_lname : FnScope n_lname p_lname (defScope s_lname) := ⟨rfl, rfl, rfl, by decide +kernel, rfl, by decide +kernel, by decide +kernel⟩
abbrev s_integer : Stmt := topS 26
abbrev n_integer : List Str := ["_law_thing"]
abbrev p_integer : List Str := ["_law_thing"]
theorem sc_integer : FnScope n_integer p_integer (defScope s_integer) := ⟨rfl, rfl, rfl, by decide +kernel, rfl, by decide +kernel, by decide +kernel⟩
abbrev s_within : Stmt := topS 27
abbrev n_within : List Str := ["_law_draws_here", "_law_real", "_law_mask", "_law_j"]
abbrev p_within : List Str := ["_law_draws_here", "_law_real"]
theorem sc_within : FnScope n_within p_within (defScope s_within) := ⟨rfl, rfl, rfl, by decide +kernel, rfl, by decide +kernel, by decide +kernel⟩
abbrev s_sign : Stmt := topS 28
abbrev n_sign : List Str := ["_law_draws_here"]
abbrev p_sign : List Str := ["_law_draws_here"]
theorem sc_sign : FnScope n_sign p_sign (defScope s_sign) := ⟨rfl, rfl, rfl, by decide +kernel, rfl, by decide +kernel, by decide +kernel⟩
abbrev s_spoilt_line : Stmt := topS 29
abbrev n_spoilt_line : List Str := ["_law_draws_here", "_law_line", "_law_change", "_law_at"]
abbrev p_spoilt_line : List Str := ["_law_draws_here", "_law_line"]
theorem sc_spoilt_line : FnScope n_spoilt_line p_spoilt_line (defScope s_spoilt_line) := ⟨rfl, rfl, rfl, by decide +kernel, rfl, by decide +kernel, by decide +kernel⟩
abbrev s_words_line : Stmt := topS 30
abbrev n_words_line : List Str := ["_law_draws_here", "_law_label", "_law_begun", "_law_words_here", "_law_k", "_law_some", "_law_at"]
abbrev p_words_line : List Str := ["_law_draws_here", "_law_label", "_law_begun"]
theorem sc_words_line : FnScope n_words_line p_words_line (defScope s_words_line) := ⟨rfl, rfl, rfl, by decide +kernel, rfl, by decide +kernel, by decide +kernel⟩
abbrev s_read_signature : Stmt := topS 31
abbrev n_read_signature : List Str := ["_law_line", "_law_words_here", "_law_numbers", "_law_word", "_law_last", "_law_number"]
abbrev p_read_signature : List Str := ["_law_line"]
theorem sc_read_signature : FnScope n_read_signature p_read_signature (defScope s_read_signature) := ⟨rfl, rfl, rfl, by decide +kernel, rfl, by decide +kernel, by decide +kernel⟩
abbrev s_line_holds : Stmt := topS 32
abbrev n_line_holds : List Str := ["_law_line", "_law_due", "_law_got", "_law_raised", "_law_what", "e", "_law_text"]
abbrev p_line_holds : List Str := ["_law_line"]
theorem sc_line_holds : FnScope n_line_holds p_line_holds (defScope s_line_holds) := ⟨rfl, rfl, rfl, by decide +kernel, rfl, by decide +kernel, by decide +kernel⟩
abbrev s_law : Stmt := topS 33
abbrev n_law : List Str := ["_law_script", "_law_draws_here", "_law_label", "_law_count", "_law_numbers", "_law_line", "_law_text", "_law_turn", "_law_odd", "_law_number"]
abbrev p_law : List Str := ["_law_script"]
theorem sc_law : FnScope n_law p_law (defScope s_law) := ⟨rfl, rfl, rfl, by decide +kernel, rfl, by decide +kernel, by decide +kernel⟩
structure Adr where
  copied : Addr
  d_copied : FuncData
  lives_init : Addr
  d_lives_init : FuncData
  is_whole : Addr
  d_is_whole : FuncData
  is_int : Addr
  d_is_int : FuncData
  is_name : Addr
  d_is_name : FuncData
  are_sources : Addr
  d_are_sources : FuncData
  is_signature : Addr
  d_is_signature : FuncData
  sig_init : Addr
  d_sig_init : FuncData
  sig_text : Addr
  d_sig_text : FuncData
  sig_read : Addr
  d_sig_read : FuncData
  sig_eq : Addr
  d_sig_eq : FuncData
  draws : Addr
  d_draws : FuncData
  take : Addr
  d_take : FuncData
  name : Addr
  d_name : FuncData
  words : Addr
  d_words : FuncData
  lname : Addr
  d_lname : FuncData
  integer : Addr
  d_integer : FuncData
  within : Addr
  d_within : FuncData
  sign : Addr
  d_sign : FuncData
  spoilt_line : Addr
  d_spoilt_line : FuncData
  words_line : Addr
  d_words_line : FuncData
  read_signature : Addr
  d_read_signature : FuncData
  line_holds : Addr
  d_line_holds : FuncData
  law : Addr
  d_law : FuncData
  k_sig_init_sources : Addr
  o_sig_read : Addr
  LivesError : Addr
  InvalidSignature : Addr
  Signature : Addr
  t_DIGITS : Nat
  t_LETTERS : Nat
  t_MOST_CHARACTERS : Nat
  t_MOST_PARAMETERS : Nat
  NUMERALS : Addr
  RESERVED : Addr
structure Tx (K : PySem.W.Frag) (mg : Str → Option Value) (A : Adr) : Prop where
  F_copied : FunD K "copied" "copied" (defArgs s_copied) (defBody s_copied) (defScope s_copied) [.int 4] [] A.copied A.d_copied
  g_copied : mg "copied" = some (.ref A.copied)
  F_lives_init : Fun K "__init__" "LivesError.__init__" s_lives_init A.lives_init A.d_lives_init
  b_lives_init : L2.Binds K A.d_lives_init p_lives_init []
  ti_lives_init : PySem.W.typeIn K (.ref A.lives_init) = some (.type "function")
  F_is_whole : Fun K "is_whole" "is_whole" s_is_whole A.is_whole A.d_is_whole
  b_is_whole : L2.Binds K A.d_is_whole p_is_whole []
  g_is_whole : mg "is_whole" = some (.ref A.is_whole)
  F_is_int : Fun K "is_integer_in" "is_integer_in" s_is_int A.is_int A.d_is_int
  b_is_int : L2.Binds K A.d_is_int p_is_int []
  g_is_int : mg "is_integer_in" = some (.ref A.is_int)
  F_is_name : Fun K "is_name" "is_name" s_is_name A.is_name A.d_is_name
  b_is_name : L2.Binds K A.d_is_name p_is_name []
  g_is_name : mg "is_name" = some (.ref A.is_name)
  F_are_sources : Fun K "are_sources" "are_sources" s_are_sources A.are_sources A.d_are_sources
  b_are_sources : L2.Binds K A.d_are_sources p_are_sources []
  g_are_sources : mg "are_sources" = some (.ref A.are_sources)
  F_is_signature : Fun K "is_signature" "is_signature" s_is_signature A.is_signature A.d_is_signature
  b_is_signature : L2.Binds K A.d_is_signature p_is_signature []
  g_is_signature : mg "is_signature" = some (.ref A.is_signature)
  F_sig_init : FunD K "__init__" "Signature.__init__" (defArgs s_sig_init) (defBody s_sig_init) (defScope s_sig_init) [] [("sources", .ref A.k_sig_init_sources)] A.sig_init A.d_sig_init
  q_sig_init_sources : ∀ H : Hp, SqT K H A.k_sig_init_sources []
  o_sig_init_sources : ∃ o, K.lookup A.k_sig_init_sources = some o ∧ o.cls = .type "tuple"
  e_sig_init : Meth K A.Signature "__init__" A.sig_init
  F_sig_text : Fun K "text" "Signature.text" s_sig_text A.sig_text A.d_sig_text
  b_sig_text : L2.Binds K A.d_sig_text p_sig_text []
  e_sig_text : Meth K A.Signature "text" A.sig_text
  F_sig_read : Fun K "read" "Signature.read" s_sig_read A.sig_read A.d_sig_read
  b_sig_read : L2.Binds K A.d_sig_read p_sig_read []
  sm_sig_read : UL.SMet K A.Signature (.type "type") "read" A.o_sig_read A.sig_read
  F_sig_eq : Fun K "__eq__" "Signature.__eq__" s_sig_eq A.sig_eq A.d_sig_eq
  b_sig_eq : L2.Binds K A.d_sig_eq p_sig_eq []
  e_sig_eq : Meth K A.Signature "__eq__" A.sig_eq
  F_draws : Fun K "_law_draws" "_law_draws" s_draws A.draws A.d_draws
  b_draws : L2.Binds K A.d_draws p_draws []
  g_draws : mg "_law_draws" = some (.ref A.draws)
  F_take : Fun K "_law_take" "_law_take" s_take A.take A.d_take
  b_take : L2.Binds K A.d_take p_take []
  g_take : mg "_law_take" = some (.ref A.take)
  F_name : Fun K "_law_name" "_law_name" s_name A.name A.d_name
  b_name : L2.Binds K A.d_name p_name []
  g_name : mg "_law_name" = some (.ref A.name)
  F_words : Fun K "_law_words" "_law_words" s_words A.words A.d_words
  b_words : L2.Binds K A.d_words p_words []
  g_words : mg "_law_words" = some (.ref A.words)
  F_lname : Fun K "_law_is_name" "_law_is_name" s_lname A.lname A.d_lname
  b_lname : L2.Binds K A.d_lname p_lname []
  g_lname : mg "_law_is_name" = some (.ref A.lname)
  F_integer : Fun K "_law_integer" "_law_integer" s_integer A.integer A.d_integer
  b_integer : L2.Binds K A.d_integer p_integer []
  g_integer : mg "_law_integer" = some (.ref A.integer)
  F_within : Fun K "_law_within" "_law_within" s_within A.within A.d_within
  b_within : L2.Binds K A.d_within p_within []
  g_within : mg "_law_within" = some (.ref A.within)
  F_sign : Fun K "_law_sign" "_law_sign" s_sign A.sign A.d_sign
  b_sign : L2.Binds K A.d_sign p_sign []
  g_sign : mg "_law_sign" = some (.ref A.sign)
  F_spoilt_line : Fun K "_law_spoilt_line" "_law_spoilt_line" s_spoilt_line A.spoilt_line A.d_spoilt_line
  b_spoilt_line : L2.Binds K A.d_spoilt_line p_spoilt_line []
  g_spoilt_line : mg "_law_spoilt_line" = some (.ref A.spoilt_line)
  F_words_line : Fun K "_law_words_line" "_law_words_line" s_words_line A.words_line A.d_words_line
  b_words_line : L2.Binds K A.d_words_line p_words_line []
  g_words_line : mg "_law_words_line" = some (.ref A.words_line)
  F_read_signature : Fun K "_law_read_signature" "_law_read_signature" s_read_signature A.read_signature A.d_read_signature
  b_read_signature : L2.Binds K A.d_read_signature p_read_signature []
  g_read_signature : mg "_law_read_signature" = some (.ref A.read_signature)
  F_line_holds : Fun K "_law_line_holds" "_law_line_holds" s_line_holds A.line_holds A.d_line_holds
  b_line_holds : L2.Binds K A.d_line_holds p_line_holds []
  g_line_holds : mg "_law_line_holds" = some (.ref A.line_holds)
  F_law : Fun K "law" "law" s_law A.law A.d_law
  b_law : L2.Binds K A.d_law p_law []
  g_law : mg "law" = some (.ref A.law)
  m_ValueError : mg "ValueError" = none
  m_abs : mg "abs" = none
  m_all : mg "all" = none
  m_bool : mg "bool" = none
  m_dict : mg "dict" = none
  m_int : mg "int" = none
  m_isinstance : mg "isinstance" = none
  m_len : mg "len" = none
  m_list : mg "list" = none
  m_min : mg "min" = none
  m_range : mg "range" = none
  m_str : mg "str" = none
  m_tuple : mg "tuple" = none
  g_LivesError : mg "LivesError" = some (.ref A.LivesError)
  ex_LivesError : UL.ExF K A.LivesError A.lives_init
  g_InvalidSignature : mg "InvalidSignature" = some (.ref A.InvalidSignature)
  ex_InvalidSignature : UL.ExF K A.InvalidSignature A.lives_init
  xi_InvalidSignature : UL.ExI K A.InvalidSignature
  g_Signature : mg "Signature" = some (.ref A.Signature)
  cl_Signature : Cls K A.Signature
  ty_Signature : UL.TyF K A.Signature
  mk_Signature : Mk K A.Signature A.sig_init
  na_Signature_name : NoAttr K A.Signature "name"
  na_Signature_count : NoAttr K A.Signature "count"
  na_Signature_sources : NoAttr K A.Signature "sources"
  ks_str : PySem.W.kitOne K (.type "str") (.ref A.Signature) = some false
  ks_tup : PySem.W.kitOne K (.type "tuple") (.ref A.Signature) = some false
  ks_own : PySem.W.kitOne K (.ref A.Signature) (.ref A.Signature) = some true
  kv_ve : PySem.W.kitOne K (.ref A.InvalidSignature) (.type "ValueError") = some true
  kv_is : PySem.W.kitOne K (.ref A.InvalidSignature) (.ref A.InvalidSignature) = some true
  te1 : PySem.W.exmOne K (.ref A.InvalidSignature) (.ref A.InvalidSignature) = some true
  te2 : PySem.W.exmOne K (.ref A.InvalidSignature) (.ref A.LivesError) = some true
  tyS : PySem.W.typeIn K (.ref A.Signature) = some (.type "type")
  sb_str : PySem.W.subIn K (.type "str") (.ref A.Signature) = some false
  sb_tup : PySem.W.subIn K (.type "tuple") (.ref A.Signature) = some false
  si_ve : PySem.W.subIn K (.ref A.InvalidSignature) (.type "ValueError") = some true
  si_is : PySem.W.subIn K (.ref A.InvalidSignature) (.ref A.InvalidSignature) = some true
  si_le : PySem.W.subIn K (.ref A.InvalidSignature) (.ref A.LivesError) = some true
  c_DIGITS : mg "DIGITS" = some (.str "0123456789" A.t_DIGITS)
  c_LETTERS : mg "LETTERS" = some (.str "abcdefghijklmnopqrstuvwxyz" A.t_LETTERS)
  c_MOST_CHARACTERS : mg "MOST_CHARACTERS" = some (.int 8 A.t_MOST_CHARACTERS)
  c_MOST_PARAMETERS : mg "MOST_PARAMETERS" = some (.int 4 A.t_MOST_PARAMETERS)
  c_NUMERALS : mg "NUMERALS" = some (.ref A.NUMERALS)
  q_NUMERALS : ∀ H : Hp, SqT K H A.NUMERALS k_NUMERALS
  o_NUMERALS : ∃ o, K.lookup A.NUMERALS = some o ∧ o.cls = .type "tuple"
  c_RESERVED : mg "RESERVED" = some (.ref A.RESERVED)
  q_RESERVED : ∀ H : Hp, SqT K H A.RESERVED k_RESERVED
  o_RESERVED : ∃ o, K.lookup A.RESERVED = some o ∧ o.cls = .type "tuple"
section
variable {P : Program} {w : World} {K : PySem.W.Frag} {mg : Str → Option Value} {base : Heap} {A : Adr}
def spTake : Sp := fun vs H Q _ => ∃ d m, vs = [.ref d, .int m] ∧ H d = some (DrO d) ∧ 0 < m ∧ ∀ n : Int, 0 ≤ n → n < m → Q (.int n) H
theorem ok_take (T : Tx K mg A) : FnOk P w K mg base CX0 1 A.take A.d_take p_take spTake := by
  refine T.F_take.ok sc_take (fun vs H Q E h => ?_) (fun cdv Ar outer s H vs Q E hr h => ?_)
  · obtain ⟨d, m, rfl, _⟩ := h
    rfl
  · obtain ⟨d, m, rfl, hd, hm, k⟩ := h
    refine ⟨_, (UL.pss_open 0 (pss_cons (ps_if (pt_cmpR op_eq (pe_callB call_len_seq (by rfl) T.m_len PySem.boot_len (pa_cons (pv 0) pa_nil)) pe_int (nomark _)) (pss_one (ps_ret (UL.pe_close pe_int))) pss_nil)
      (pss_one (ps_ret (UL.pe_close (pe_op op_mod (pe_callTy call_int1 (by rfl) T.m_int (by decide +kernel) (pa_cons (pe_bm PySem.F.plainAttrs_list PySem.F.slot_list_pop PySem.F.type_list_pop mt_popAt (pv 0) (pa_cons pe_int pa_nil)) pa_nil)) (pv 1))))))), ?_⟩
    refine ⟨d, rfl, hd, fun ns g => ?_⟩
    refine ⟨.ref d, rfl, d, _, rfl, .inl (SqL.of upd_same), rfl, _, rfl, ite2 (fun e => ?_) (fun e => ?_)⟩
    · refine ⟨d, ns, upd_same, g, ?_⟩
      show Q _ (upd (upd H d _) d _)
      rw [upd_back hd]
      exact k 0 (Int.le_refl 0) hm
    · obtain ⟨n, r, rfl⟩ : ∃ n r, ns = n :: r := by
        cases ns with
        | nil => exact absurd (decide_eq_true rfl) e
        | cons n r => exact ⟨n, r, rfl⟩
      obtain ⟨n0, n1, gr⟩ := good_tail g
      refine ⟨.ref d, rfl, .inl ⟨rfl, _, SqL.of upd_same⟩, d, _, 0, 0, .int n, rfl, rfl, upd_same, by decide, by decide, (by rw [List.length_map]; exact seq0 _), rfl, .inl ⟨n, rfl, .int m, rfl, n, m, rfl, rfl, hm, d, r, upd_same, gr, ?_⟩⟩
      rw [upd_upd, upd_upd, upd_id hd]
      exact k _ (Int.emod_nonneg _ (by omega)) (Int.emod_lt_of_pos _ hm)
def spDraws (K : PySem.W.Frag) : Sp := fun vs H Q _ => ∃ (a : Addr) (ns : List Int), vs = [.ref a] ∧ SqL K H a (ns.map V.int) ∧ ns.length ≤ 63 ∧ ∀ p, H p = none → Q (.ref p) (upd H p (DrO p))
def DrawsAt (H : Hp) (p : Addr) (i : Nat) (H' : Hp) : Prop := ∃ ms : List Int, H' = upd H p (.lst (ms.map V.int)) ∧ (∀ m ∈ ms, 0 ≤ m ∧ m < 1000003) ∧ ms.length ≤ i
theorem draws_add {H H' : Hp} {p : Addr} {i : Nat} (h : DrawsAt H p i H') (hi : i < 4000) {P : Prop} (k : ∀ ms : List V, H' p = some (.lst ms) → ms.length < sizeLine → (∀ x : Int, DrawsAt H p (i + 1) (upd H' p (.lst (ms ++ [.int (x % 1000003)])))) → P) : P := by
  obtain ⟨ms, rfl, g, hl⟩ := h
  refine k (ms.map V.int) upd_same (by rw [List.length_map]; exact Nat.lt_of_le_of_lt hl (Nat.lt_trans hi (by decide))) fun x => ⟨ms ++ [x % 1000003], ?_, good_add g emod_in, ?_⟩
  · rw [upd_upd, List.map_append]
    rfl
  · rw [List.length_append, List.length_singleton]
    omega
theorem ok_draws (T : Tx K mg A) : FnOk P w K mg base CX0 1 A.draws A.d_draws p_draws (spDraws K) := by
  refine T.F_draws.ok sc_draws (fun vs H Q E h => ?_) (fun cdv Ar outer s H vs Q E hr h => ?_)
  · obtain ⟨a, ns, rfl, _⟩ := h
    rfl
  · obtain ⟨a, ns, rfl, hS, hlen, k⟩ := h
    refine ⟨_, (pss_cons (ps_set (i := 1) sc_draws.nd rfl (Or.inl rfl) (pe_lst pa_nil))
      (pss_cons (ps_for PassesOwn.never rfl (pi_range1 (by rfl) T.m_range (pa_cons (pe_callB (call_min2 rfl) (by rfl) T.m_min (by decide +kernel) (pa_cons pe_int (pa_cons (pe_callB call_len_seq (by rfl) T.m_len PySem.boot_len (pa_cons (pv 0) pa_nil)) pa_nil))) pa_nil)) (pg_name (i := 2) sc_draws.nd rfl (Or.inl rfl)) (pss_cons (ps_set (i := 3) sc_draws.nd rfl (Or.inl rfl) (pe_callTy call_int1 (by rfl) T.m_int (by decide +kernel) (pa_cons (pe_ix ix_list (pv 0) (pv 2) (fun _ _ => rfl)) pa_nil)))
        (pss_cons (ps_set (i := 4) sc_draws.nd rfl (Or.inl rfl) (pe_op op_mul pe_int (pe_callB call_abs (by rfl) T.m_abs (by decide +kernel) (pa_cons (pv 3) pa_nil))))
        (Evl.pss_cut (ps_if (pt_cmpR op_lt (pv 3) pe_int (nomark _)) (pss_one (ps_set (i := 4) sc_draws.nd rfl (Or.inl rfl) (pe_op op_add (pv 4) pe_int))) pss_nil)
        (pss_one (ps_if (pt_cmpR op_lt (pv 4) (pe_op op_mul pe_int (pe_op op_pow pe_int pe_int)) (nomark _)) (pss_one (ps_for PassesOwn.never rfl (pi_range1 (by rfl) T.m_range (pa_cons pe_int pa_nil)) (pg_name (i := 5) sc_draws.nd rfl (Or.inl rfl)) (pss_cons (ps_set (i := 6) sc_draws.nd rfl (Or.inl rfl) (pe_op op_mod (pe_callTy call_int1 (by rfl) T.m_int (by decide +kernel) (pa_cons (pe_op op_add (pe_op op_mul (pe_op op_add (pv 4) pe_int) (pe_op op_add pe_int (pe_op op_mul pe_int (pv 2)))) (pe_op op_mul pe_int (pv 5))) pa_nil)) pe_int))
            (pss_cons (ps_set (i := 6) sc_draws.nd rfl (Or.inl rfl) (pe_op op_mod (pe_callTy call_int1 (by rfl) T.m_int (by decide +kernel) (pa_cons (pe_op op_mul (pv 6) (pv 6)) pa_nil)) pe_int))
            (pss_one (ps_expr (pe_bm PySem.F.plainAttrs_list PySem.F.slot_list_append PySem.F.type_list_append mt_append (pv 1) (pa_cons (pe_op op_mod (pe_callTy call_int1 (by rfl) T.m_int (by decide +kernel) (pa_cons (pv 6) pa_nil)) pe_int) pa_nil)))))))) (pss_one (ps_for PassesOwn.never rfl (pi_range1 (by rfl) T.m_range (pa_cons pe_int pa_nil)) (pg_name (i := 5) sc_draws.nd rfl (Or.inl rfl)) (pss_one (ps_if (pt_cmpR op_gt (pv 4) pe_int (nomark _)) (pss_cons (ps_expr (pe_bm PySem.F.plainAttrs_list PySem.F.slot_list_append PySem.F.type_list_append mt_append (pv 1) (pa_cons (pe_op op_mod (pe_callTy call_int1 (by rfl) T.m_int (by decide +kernel) (pa_cons (pv 4) pa_nil)) pe_int) pa_nil)))
              (pss_one (ps_set (i := 4) sc_draws.nd rfl (Or.inl rfl) (pe_op op_fdiv (pv 4) pe_int)))) pss_nil))))))))))
      (pss_one (ps_ret (UL.pe_close (pv 1)))))), ?_⟩
    refine ⟨Nat.zero_le _, fun p hp => ?_⟩
    have eL : ∀ {j H'}, DrawsAt H p j H' → SqL K H' a (ns.map V.int) := fun ⟨ms, e, _⟩ => by
      rw [e]
      exact (same_upd hp).seq hS
    refine ⟨.ref a, rfl, a, _, rfl, .inl ((same_upd hp).seq hS), 63, _, rfl, ?_⟩
    have hm : (if (((ns.map V.int).length : Nat) : Int) < 63 then (((ns.map V.int).length : Nat) : Int) else 63) = (ns.length : Int) := by
      rw [List.length_map]
      split <;> omega
    rw [hm]
    refine ⟨(ns.length : Int), rfl, forR1 ⟨by omega, by omega⟩ (fun i σ H' => ∃ v2 v3 v4 v5 v6, σ = [some (.ref a), some (.ref p), v2, v3, v4, v5, v6] ∧ DrawsAt H p (60 * i) H') ⟨none, none, none, none, none, rfl, [], rfl, fun _ h => (nomatch h), Nat.le_refl _⟩ ?_ ?_⟩
    · rintro i σ' H' hi ⟨v2, v3, v4, v5, v6, rfl, hD⟩
      have hi' : i < ns.length := by omega
      -- cell, rest
      refine ⟨.ref a, rfl, .int (i : Int), rfl, a, _, _, .int ns[i], rfl, rfl, eL hD, atI_nat (int_get hi'), .inl ⟨ns[i], rfl, ?_⟩⟩
      refine ⟨.int ns[i], rfl, ns[i], rfl, 2, _, rfl, rfl, .inl ⟨by decide, by decide⟩, ?_⟩
      have h0 : 0 ≤ 2 * (if ns[i] < 0 then -ns[i] else ns[i]) := by split <;> omega
      refine ⟨fun σ2 H2 => ∃ r : Int, 0 ≤ r ∧ σ2 = [some (.ref a), some (.ref p), some (.int (i : Int)), some (.int ns[i]), some (.int r), v5, v6] ∧ H2 = H', ?_, ?_⟩
      · refine ⟨_, rfl, _, 0, rfl, rfl, _, rfl, ite2 (fun _ => ?_) (fun _ => ?_)⟩
        · exact ⟨_, rfl, _, 1, rfl, rfl, _, Int.le_add_one h0, rfl, rfl⟩
        · exact ⟨_, h0, rfl, rfl⟩
      · generalize ns[i] = c
        rintro σ2 H2 ⟨r, h0, rfl, rfl⟩
        refine ⟨.int r, rfl, 10, 18, rfl, rfl, ⟨by decide, by decide, by decide⟩, 2, _, rfl, rfl, .inl ⟨by decide, by decide⟩, r, _, rfl, rfl, _, rfl, ite2 (fun e => ?_) (fun e => ?_)⟩
        · have hr1 : r < 2 * 10 ^ 18 := of_decide_eq_true e
          refine ⟨4, rfl, forR1 ⟨by decide, by decide⟩ (fun t σ H' => ∃ v5 v6, σ = [some (.ref a), some (.ref p), some (.int (i : Int)), some (.int c), some (.int r), v5, v6] ∧ DrawsAt H p (60 * i + t) H') ⟨_, _, rfl, hD⟩ ?_ ?_⟩
          · rintro t σ' H' ht ⟨v5, v6, rfl, hD⟩
            have hi63 : (i : Int) < 63 := by omega
            refine ⟨_, rfl, r, 1, rfl, rfl, _, rfl, 2, _, rfl, rfl, .inl ⟨by decide, by decide⟩, 48271, _, rfl, rfl, _, _, rfl, rfl, .inr ⟨by omega, by omega⟩, _, rfl, 69621, _, rfl, rfl, .inl ⟨by decide, by decide⟩, _, _, rfl, rfl, .inl ⟨_, rfl, _, 2147483647, rfl, rfl, (show (0 : Int) < 2147483647 by decide), ?_⟩⟩
            have hx0 : 0 ≤ ((r + 1) * (48271 + 2 * (i : Int)) + 69621 * (t : Int)) % 2147483647 := Int.emod_nonneg _ (by decide)
            have hx1 : ((r + 1) * (48271 + 2 * (i : Int)) + 69621 * (t : Int)) % 2147483647 < 2147483647 := Int.emod_lt_of_pos _ (by decide)
            refine ⟨_, rfl, _, rfl, _, _, rfl, rfl, .inl ⟨Int.lt_of_lt_of_le (by decide) hx0, Int.lt_trans hx1 (by decide)⟩, .inl ⟨_, rfl, _, 2147483629, rfl, rfl, (show (0 : Int) < 2147483629 by decide), ?_⟩⟩
            refine draws_add hD (by omega) fun ms h1 h2 h3 => ?_
            refine ⟨.ref p, rfl, .inl ⟨rfl, _, SqL.of h1⟩, _, rfl, .inl ⟨_, rfl, _, 1000003, rfl, rfl, (show (0 : Int) < 1000003 by decide), p, ms, _, rfl, rfl, h1, h2, ?_⟩⟩
            exact ⟨_, _, rfl, h3 _⟩
          · rintro σ' H' ⟨v5, v6, rfl, ms, e, g, hl⟩
            exact ⟨_, _, _, _, _, rfl, ms, e, g, Nat.le_trans hl (by show 60 * i + 4 ≤ 60 * (i + 1); omega)⟩
        · refine ⟨60, rfl, forR1 ⟨by decide, by decide⟩ (fun t σ H' => ∃ r v5 v6, σ = [some (.ref a), some (.ref p), some (.int (i : Int)), some (.int c), some (.int r), v5, v6] ∧ DrawsAt H p (60 * i + t) H') ⟨_, _, _, rfl, hD⟩ ?_ ?_⟩
          · rintro t σ' H' ht ⟨r, v5, v6, rfl, hD⟩
            refine ⟨.int r, rfl, r, 0, rfl, rfl, _, rfl, ite2 (fun _ => ?_) (fun _ => ?_)⟩
            · refine draws_add hD (by omega) fun ms h1 h2 h3 => ?_
              refine ⟨.ref p, rfl, .inl ⟨rfl, _, SqL.of h1⟩, .int r, rfl, .inl ⟨r, rfl, r, 1000003, rfl, rfl, (show (0 : Int) < 1000003 by decide), p, ms, _, rfl, rfl, h1, h2, ?_⟩⟩
              refine ⟨.int r, rfl, r, 1000003, rfl, rfl, ⟨by decide, by decide⟩, ?_⟩
              exact ⟨_, _, _, rfl, h3 _⟩
            · obtain ⟨ms, e, g, hl⟩ := hD
              exact ⟨_, _, _, rfl, ms, e, g, Nat.le_succ_of_le hl⟩
          · rintro σ' H' ⟨r, v5, v6, rfl, ms, e, g, hl⟩
            exact ⟨_, _, _, _, _, rfl, ms, e, g, Nat.le_trans hl (by show 60 * i + 60 ≤ 60 * (i + 1); omega)⟩
    · rintro σ' H' ⟨v2, v3, v4, v5, v6, rfl, ms, rfl, g, hl⟩
      refine ⟨.ref p, rfl, p, ms, upd_same, ⟨g, Nat.le_trans hl (by omega)⟩, ?_⟩
      rw [upd_upd]
      exact k p hp
def kWords : List V := [V.str "fun", V.str "out", V.str "use", V.str "val", V.str "ref", V.str "set", V.str "block", V.str "if", V.str "else", V.str "loop", V.str "end", V.str "part", V.str "pick", V.str "then", V.str "dead"]
def spWords : Sp := fun vs H Q _ => vs = [] ∧ RetL kWords H Q
theorem ok_words (T : Tx K mg A) : FnOk P w K mg base CX0 1 A.words A.d_words p_words spWords := by
  refine T.F_words.ok sc_words (fun vs H Q E h => ?_) (fun cdv Ar outer s H vs Q E hr h => ?_)
  · obtain ⟨rfl, _⟩ := h
    rfl
  · obtain ⟨rfl, k⟩ := h
    refine ⟨_, (pss_cons (ps_set (i := 0) sc_words.nd rfl (Or.inl rfl) (pe_lst (pa_cons pe_str (pa_cons pe_str (pa_cons pe_str (pa_cons pe_str (pa_cons pe_str (pa_cons pe_str (pa_cons pe_str (pa_cons pe_str (pa_cons pe_str (pa_cons pe_str (pa_cons pe_str (pa_cons pe_str (pa_cons pe_str (pa_cons pe_str pa_nil))))))))))))))))
      (pss_one (ps_ret (pe_op op_cat (pv 0) (pe_lst (pa_cons pe_str pa_nil)))))), ?_⟩
    refine ⟨by decide, fun p hp => ?_⟩
    refine ⟨.ref p, rfl, by decide, fun q hq => ?_⟩
    refine ⟨p, q, _, _, rfl, rfl, (Ex.new hq) _ _ upd_same, upd_same, by decide, fun r hr' => ?_⟩
    exact k r _ (fresh_back ((Ex.new hp).trans (Ex.new hq)) hr') (((Ex.new hp).trans (Ex.new hq)).trans (Ex.new hr')) upd_same
def NoStr (H : Hp) (v : V) : Prop := v = .non ∨ (∃ b, v = .bl b) ∨ (∃ i, v = .int i) ∨ (∃ a xs, v = .ref a ∧ (H a = some (.lst xs) ∨ H a = some (.tup xs))) ∨ ∃ a kvs, v = .ref a ∧ H a = some (.dK kvs)
def Th (H : Hp) (v : V) : Prop := (∃ z, v = .str z ∧ z.length ≤ 2000) ∨ NoStr H v
theorem Th.mono {H H' : Hp} {v : V} (e : Ex H H') (h : Th H v) : Th H' v := by
  rcases h with h | h | h | h | ⟨a, xs, h, h1 | h1⟩ | ⟨a, kvs, h, h1⟩
  · exact .inl h
  · exact .inr (.inl h)
  · exact .inr (.inr (.inl h))
  · exact .inr (.inr (.inr (.inl h)))
  · exact .inr (.inr (.inr (.inr (.inl ⟨a, xs, h, .inl (e _ _ h1)⟩))))
  · exact .inr (.inr (.inr (.inr (.inl ⟨a, xs, h, .inr (e _ _ h1)⟩))))
  · exact .inr (.inr (.inr (.inr (.inr ⟨a, kvs, h, e _ _ h1⟩))))
def isS : V → Bool
  | .str _ => true
  | _ => false
theorem Th.isi {K : PySem.W.Frag} {H : Hp} {v : V} (h : Th H v) : ∃ t, TyX K H v t ∧ PySem.W.kitOne K t (.type "str") = some (isS v) := by
  rcases h with ⟨z, rfl, _⟩ | rfl | ⟨b, rfl⟩ | ⟨i, rfl⟩ | ⟨a, xs, rfl, h1 | h1⟩ | ⟨a, kvs, rfl, h1⟩
  · exact ⟨_, .base (.str z), kit_ty (r := true) (by decide +kernel)⟩
  · exact ⟨_, .base .non, kit_ty (r := false) (by decide +kernel)⟩
  · exact ⟨_, .base (.bl b), kit_ty (r := false) (by decide +kernel)⟩
  · exact ⟨_, .base (.int i), kit_ty (r := false) (by decide +kernel)⟩
  · exact ⟨_, .base (.lst h1), kit_ty (r := false) (by decide +kernel)⟩
  · exact ⟨_, .base (.tup h1), kit_ty (r := false) (by decide +kernel)⟩
  · exact ⟨_, .base (.dK h1), kit_ty (r := false) (by decide +kernel)⟩
def wordsS : List Str := ["fun", "out", "use", "val", "ref", "set", "block", "if", "else", "loop", "end", "part", "pick", "then", "dead"]
theorem kWords_eq : kWords = wordsS.map V.str := rfl
def alnum (c : Nat) : Bool := decide (c ∈ tl "abcdefghijklmnopqrstuvwxyz") || decide (c ∈ tl "0123456789")
def okS (z : Str) : Bool := decide (1 ≤ z.length) && decide (z.length ≤ 8) && (match tl z with | c :: _ => decide (c ∈ tl "abcdefghijklmnopqrstuvwxyz") | [] => false) && !inV (.str z) kWords && (tl z).all alnum
def nm : V → Bool
  | .str z => okS z
  | _ => false
theorem nm_no {v : V} (h : isS v = false) : nm v = false := by
  cases v <;> first | rfl | cases h
theorem isS_yes {v : V} (h : isS v = true) : ∃ z, v = .str z := by
  cases v with
  | str z => exact ⟨z, rfl⟩
  | _ => cases h
def spIsName : Sp := fun vs H Q _ => ∃ v, vs = [v] ∧ Th H v ∧ ∀ H', Ex H H' → Q (.bl (nm v)) H'
theorem ok_is_name (T : Tx K mg A) : FnOk P w K mg base CX0 1 A.is_name A.d_is_name p_is_name spIsName := by
  refine T.F_is_name.ok sc_is_name (fun vs H Q E h => ?_) (fun cdv Ar outer s H vs Q E hr h => ?_)
  · obtain ⟨v, rfl, _⟩ := h
    rfl
  · obtain ⟨v, rfl, hv, k⟩ := h
    refine ⟨_, (pss_cons (ps_if (PW.pt (pw_or (pt_not (pt_val (pe_callB call_isi (by rfl) T.m_isinstance (by decide +kernel) (pa_cons (pv 0) (pa_cons (pe_bltn (v := .ty "str") (u := .type "str") (by rfl) T.m_str (by decide +kernel) rfl) pa_nil))))) (pw_or1 (pt_not (pt_chain op_le op_le pe_int (pe_callB call_len_str (by rfl) T.m_len PySem.boot_len (pa_cons (pv 0) pa_nil)) (pe_glob (v := .int 8) (by rfl) T.c_MOST_CHARACTERS ⟨_, rfl⟩)))))) (pss_one (ps_ret pe_bl)) pss_nil)
      (pss_cons (ps_if (PW.pt (pw_or (pt_cmpR op_notIn_sign (pe_ix ix_str (pv 0) pe_int (fun _ _ => rfl)) (pe_glob (v := .str "abcdefghijklmnopqrstuvwxyz") (by rfl) T.c_LETTERS ⟨_, rfl⟩) (by rfl)) (pw_or1 (pt_cmpR op_in_seq (pv 0) (pe_glob (v := .ref A.RESERVED) (by rfl) T.c_RESERVED rfl) (by rfl))))) (pss_one (ps_ret pe_bl)) pss_nil)
      (pss_one (ps_ret (pe_callB (cr_all rfl) (by rfl) T.m_all (by decide +kernel) (pa_cons (pe_lc (own := [("sign", 1)]) (g := gName 1) (tt := tYes) rfl sc_is_name.nd (pi_str (pv 0)) (blkOk_by (N := n_is_name) (sc := defScope s_is_name) (by decide +kernel)) (fun _ _ _ _ _ => pg_name (i := 1) sc_is_name.nd rfl (Or.inl rfl)) (fun _ _ _ _ _ => pts_nil) (fun _ _ _ _ _ => (pe_or (pe_cmpR op_in_sign (pv 1) (pe_glob (v := .str "abcdefghijklmnopqrstuvwxyz") (by rfl) T.c_LETTERS ⟨_, rfl⟩) (by rfl)) (pe_one (pe_cmpR op_in_sign (pv 1) (pe_glob (v := .str "0123456789") (by rfl) T.c_DIGITS ⟨_, rfl⟩) (by rfl)))))) pa_nil)))))), ?_⟩
    obtain ⟨t, ht, hk⟩ := hv.isi (K := K)
    refine ⟨v, rfl, v, _, t, _, _, rfl, .ty "str", ht, hk, _, rfl, ?_⟩
    cases hs : isS v with
    | false =>
      refine iteT ?_
      refine iteT ?_
      have q := k H (Ex.refl H)
      rw [nm_no hs] at q
      exact q
    | true =>
      obtain ⟨z, rfl⟩ := isS_yes hs
      have hz : z.length ≤ 2000 := by
        rcases hv with ⟨z', e, h⟩ | e | ⟨_, e⟩ | ⟨_, e⟩ | ⟨_, _, e, _⟩ | ⟨_, _, e, _⟩
        · cases e
          exact h
        all_goals cases e
      refine iteF ?_
      refine ⟨_, rfl, z, rfl, sz_of (by omega), 1, _, rfl, rfl, _, rfl, ?_⟩
      have no : okS z = false → Q (V.bl false) H := fun e => by
        have q := k H (Ex.refl H)
        rw [show nm (V.str z) = false from e] at q
        exact q
      by_cases z1 : 1 ≤ z.length
      · rw [decide_eq_true (show (1 : Int) ≤ (z.length : Int) by omega)]
        refine iteT ?_
        refine ⟨_, 8, rfl, rfl, _, rfl, ?_⟩
        by_cases z8 : z.length ≤ 8
        · rw [decide_eq_true (show (z.length : Int) ≤ 8 by omega)]
          refine iteF ?_
          obtain ⟨c, r, hcr⟩ : ∃ c r, tl z = c :: r := by
            cases e : tl z with
            | nil =>
              rw [len_tl, e] at z1
              exact absurd z1 (by decide)
            | cons c r => exact ⟨c, r, rfl⟩
          refine ⟨_, rfl, z, 0, c, rfl, rfl, sz_of (by omega), atI_nat (j := 0) (by show (tl z)[0]? = _; rw [hcr]; rfl), c, _, rfl, rfl, _, rfl, ?_⟩
          by_cases hc : c ∈ tl "abcdefghijklmnopqrstuvwxyz"
          · rw [decide_eq_true hc]
            refine iteF ?_
            refine ⟨_, rfl, A.RESERVED, k_RESERVED, rfl, .inr (T.q_RESERVED _), rfl, by decide, _, rfl, ?_⟩
            show if inV (.str z) k_RESERVED = true then _ else _
            cases hi : inV (.str z) k_RESERVED with
            | true =>
              refine iteT ?_
              refine no ?_
              unfold okS
              rw [show inV (.str z) kWords = true from hi, Bool.and_eq_false_iff]
              exact .inl (Bool.and_eq_false_iff.mpr (.inr rfl))
            | false =>
              refine iteF ?_
              refine ⟨_, rfl, z, rfl, fun D hD => ?_⟩
              refine lc_str (f := fun c => V.bl (alnum c)) (by omega) hD (fun _ => rfl) (fun c H' _ Q' q => ?_) ?_
              · refine ⟨_, rfl, c, _, rfl, rfl, _, rfl, ite2 (fun h => ?_) (fun h => ?_)⟩
                · have e : alnum c = true := by
                    unfold alnum
                    rw [show decide (c ∈ tl "abcdefghijklmnopqrstuvwxyz") = true from h, Bool.true_or]
                  rw [e] at q
                  exact q
                · refine ⟨_, rfl, c, _, rfl, rfl, ?_⟩
                  have e : alnum c = decide (c ∈ tl "0123456789") := by
                    unfold alnum
                    rw [show decide (c ∈ tl "abcdefghijklmnopqrstuvwxyz") = false from by simpa using h, Bool.false_or]
                  rw [e] at q
                  exact q
              · refine ⟨D, (tl z).map alnum, rfl, SqL.of (by rw [upd_same, List.map_map]; rfl), ?_⟩
                have e : okS z = ((tl z).map alnum).all id := by
                  unfold okS
                  rw [decide_eq_true z1, decide_eq_true z8, hcr, show inV (.str z) kWords = false from hi, List.all_map]
                  show (decide (c ∈ tl "abcdefghijklmnopqrstuvwxyz") && true && _) = _
                  rw [decide_eq_true hc]
                  rfl
                have q := k _ (Ex.new hD (o := .lst ((tl z).map fun c => V.bl (alnum c))))
                rw [show nm (V.str z) = ((tl z).map alnum).all id from e] at q
                exact q
          · rw [decide_eq_false hc]
            refine iteT ?_
            refine no ?_
            unfold okS
            rw [hcr]
            show (_ && decide (c ∈ tl "abcdefghijklmnopqrstuvwxyz") && _ && _) = false
            rw [decide_eq_false hc, Bool.and_false, Bool.false_and, Bool.false_and]
        · rw [decide_eq_false (show ¬ (z.length : Int) ≤ 8 by omega)]
          refine iteT ?_
          refine no ?_
          unfold okS
          rw [decide_eq_false z8, Bool.and_false, Bool.false_and, Bool.false_and, Bool.false_and]
      · rw [decide_eq_false (show ¬ (1 : Int) ≤ (z.length : Int) by omega)]
        refine iteF ?_
        refine ⟨_, rfl, ?_⟩
        refine iteT ?_
        refine no ?_
        unfold okS
        rw [decide_eq_false z1, Bool.false_and, Bool.false_and, Bool.false_and, Bool.false_and]
def tl36 : List Nat := tl "abcdefghijklmnopqrstuvwxyz0123456789"
theorem tl36_eq : tl36 = tl "abcdefghijklmnopqrstuvwxyz" ++ tl "0123456789" := by decide +kernel
theorem alnum36 (c : Nat) : alnum c = decide (c ∈ tl36) := by
  unfold alnum
  rw [tl36_eq]
  by_cases h1 : c ∈ tl "abcdefghijklmnopqrstuvwxyz" <;> by_cases h2 : c ∈ tl "0123456789" <;> simp [h1, h2]
theorem apart : ∀ c ∈ tl "abcdefghijklmnopqrstuvwxyz", c ∉ tl "0123456789" := by decide +kernel
theorem ok_lname (T : Tx K mg A) : FnOk P w K mg base CX0 2 A.lname A.d_lname p_lname spIsName := by
  refine T.F_lname.ok sc_lname (fun vs H Q E h => ?_) (fun cdv Ar outer s H vs Q E hr h => ?_)
  · obtain ⟨v, rfl, _⟩ := h
    rfl
  · obtain ⟨v, rfl, hv, k⟩ := h
    refine ⟨_, (pss_cons (ps_if (pt_not (pt_val (pe_callB call_isi (by rfl) T.m_isinstance (by decide +kernel) (pa_cons (pv 0) (pa_cons (pe_bltn (v := .ty "str") (u := .type "str") (by rfl) T.m_str (by decide +kernel) rfl) pa_nil))))) (pss_one (ps_ret pe_bl)) pss_nil)
      (pss_cons (ps_if (PW.pt (pw_or (pt_cmpR op_lt (pe_callB call_len_str (by rfl) T.m_len PySem.boot_len (pa_cons (pv 0) pa_nil)) pe_int (nomark _)) (pw_or (pt_cmpR op_gt (pe_callB call_len_str (by rfl) T.m_len PySem.boot_len (pa_cons (pv 0) pa_nil)) pe_int (nomark _)) (pw_or1 (pt_cmpR op_in_seq (pv 0) (pe_call0 (ok_words T) (hr.mono (by decide)) (by rfl) T.g_words T.F_words.kp T.b_words .nil pass0) (by rfl)))))) (pss_one (ps_ret pe_bl)) pss_nil)
      (pss_cons (ps_for PassesOwn.never rfl (pi_str (pv 0)) (pg_name (i := 1) sc_lname.nd rfl (Or.inl rfl)) (pss_one (ps_if (pt_cmpR op_notIn_sign (pv 1) pe_str (by rfl)) (pss_one (ps_ret pe_bl)) pss_nil)))
      (pss_one (ps_ret (pe_cmpR op_notIn_sign (pe_ix ix_str (pv 0) pe_int (fun _ _ => rfl)) pe_str (by rfl))))))), ?_⟩
    obtain ⟨t, ht, hk⟩ := hv.isi (K := K)
    refine ⟨v, rfl, v, _, t, _, _, rfl, .ty "str", ht, hk, _, rfl, ?_⟩
    cases hs : isS v with
    | false =>
      refine iteT ?_
      have q := k H (Ex.refl H)
      rw [nm_no hs] at q
      exact q
    | true =>
      obtain ⟨z, rfl⟩ := isS_yes hs
      have hz : z.length ≤ 2000 := by
        rcases hv with ⟨z', e, h⟩ | e | ⟨_, e⟩ | ⟨_, e⟩ | ⟨_, _, e, _⟩ | ⟨_, _, e, _⟩
        · cases e
          exact h
        all_goals cases e
      refine iteF ?_
      have no : ∀ H', Ex H H' → okS z = false → Q (V.bl false) H' := fun H' e' e => by
        have q := k H' e'
        rw [show nm (V.str z) = false from e] at q
        exact q
      refine ⟨_, rfl, z, rfl, sz_of (by omega), _, 1, rfl, rfl, _, rfl, ite2 (fun h => ?_) (fun h => ?_)⟩
      · refine no _ (Ex.refl H) ?_
        have z1 : ¬ 1 ≤ z.length := by
          have := of_decide_eq_true h
          omega
        unfold okS
        rw [decide_eq_false z1, Bool.false_and, Bool.false_and, Bool.false_and, Bool.false_and]
      have z1 : 1 ≤ z.length := by
        have : ¬ (z.length : Int) < 1 := fun q => h (decide_eq_true q)
        omega
      refine ⟨_, rfl, z, rfl, sz_of (by omega), _, 8, rfl, rfl, _, rfl, ite2 (fun h => ?_) (fun h => ?_)⟩
      · refine no _ (Ex.refl H) ?_
        have z8 : ¬ z.length ≤ 8 := by
          have := of_decide_eq_true h
          omega
        unfold okS
        rw [decide_eq_false z8, Bool.and_false, Bool.false_and, Bool.false_and, Bool.false_and]
      have z8 : z.length ≤ 8 := by
        have : ¬ (8 : Int) < (z.length : Int) := fun q => h (decide_eq_true q)
        omega
      refine ⟨_, rfl, rfl, fun p H1 hp e1 hL => ?_⟩
      refine ⟨p, kWords, rfl, .inl (SqL.of hL), rfl, by decide, _, rfl, ?_⟩
      show if inV (.str z) kWords = true then _ else _
      cases hi : inV (.str z) kWords with
      | true =>
        refine iteT ?_
        refine no _ e1 ?_
        unfold okS
        rw [hi, Bool.and_eq_false_iff]
        exact .inl (Bool.and_eq_false_iff.mpr (.inr rfl))
      | false =>
        refine iteF ?_
        refine ⟨_, rfl, z, rfl, for_str (fun i σ H' => (∃ v1, σ = [some (.str z), v1]) ∧ H' = H1 ∧ ∀ c ∈ (tl z).take i, alnum c = true) ⟨⟨none, rfl⟩, rfl, fun c hc => (nomatch hc)⟩ ?_ ?_⟩
        · rintro i c σ' H' hc ⟨⟨v1, rfl⟩, rfl, hall⟩
          refine ⟨_, rfl, c, _, rfl, rfl, _, rfl, ?_⟩
          show if (!decide (c ∈ tl36)) = true then _ else _
          rw [← alnum36]
          cases ha : alnum c with
          | true =>
            refine iteF ?_
            refine ⟨⟨_, rfl⟩, rfl, fun c' hc' => ?_⟩
            rw [List.take_add_one, hc] at hc'
            rcases List.mem_append.mp hc' with h' | h'
            · exact hall c' h'
            · rw [List.mem_singleton.mp h']
              exact ha
          | false =>
            refine iteT ?_
            refine no _ e1 ?_
            unfold okS
            rw [Bool.and_eq_false_iff]
            refine .inr ?_
            rw [List.all_eq_false]
            exact ⟨c, List.mem_of_getElem? hc, by rw [ha]; decide⟩
        · rintro σ' H' ⟨⟨v1, rfl⟩, rfl, hall⟩
          rw [List.take_length] at hall
          obtain ⟨c, r, hcr⟩ : ∃ c r, tl z = c :: r := by
            cases e : tl z with
            | nil =>
              rw [len_tl, e] at z1
              exact absurd z1 (by decide)
            | cons c r => exact ⟨c, r, rfl⟩
          refine ⟨_, rfl, z, 0, c, rfl, rfl, sz_of (by omega), atI_nat (j := 0) (by show (tl z)[0]? = _; rw [hcr]; rfl), c, _, rfl, rfl, ?_⟩
          have e : okS z = !decide (c ∈ tl "0123456789") := by
            unfold okS
            rw [decide_eq_true z1, decide_eq_true z8, hi, List.all_eq_true.mpr hall, hcr]
            have hc := hall c (by rw [hcr]; exact List.mem_cons_self)
            show (decide (c ∈ tl "abcdefghijklmnopqrstuvwxyz") && true && true) = _
            unfold alnum at hc
            by_cases h1 : c ∈ tl "abcdefghijklmnopqrstuvwxyz"
            · rw [decide_eq_true h1, decide_eq_false (apart c h1)]
              rfl
            · rw [decide_eq_false h1, Bool.false_or] at hc
              rw [decide_eq_false h1, hc]
              rfl
          have q := k H' e1
          rw [show nm (V.str z) = !decide (c ∈ tl "0123456789") from e] at q
          exact q
def spCopied : Sp := fun vs H Q _ => ∃ v, vs = [v, .int 4] ∧ flatV v = true ∧ Q v H
theorem ok_copied (T : Tx K mg A) : FnOk P w K mg base CX0 1 A.copied A.d_copied p_copied spCopied := by
  refine T.F_copied.ok sc_copied (fun vs H Q E h => ?_) (fun cdv Ar outer s H vs Q E hr h => ?_)
  · obtain ⟨v, rfl, _⟩ := h
    rfl
  · obtain ⟨v, rfl, hv, k⟩ := h
    refine ⟨_, (pss_cons (ps_if (pt_cmpR op_eq (pv 1) pe_int (nomark _)) (pss_one (ps_ret (pv 0))) pss_nil)
      (pss_cons (ps_if (pt_val (pe_callB call_isi (by rfl) T.m_isinstance (by decide +kernel) (pa_cons (pv 0) (pa_cons (pe_bltn (v := .ty "list") (u := .type "list") (by rfl) T.m_list (by decide +kernel) rfl) pa_nil)))) (pss_one ps_never) pss_nil)
      (pss_cons (ps_if (pt_val (pe_callB call_isi (by rfl) T.m_isinstance (by decide +kernel) (pa_cons (pv 0) (pa_cons (pe_bltn (v := .ty "tuple") (u := .type "tuple") (by rfl) T.m_tuple (by decide +kernel) rfl) pa_nil)))) (pss_one ps_never) pss_nil)
      (pss_cons (ps_if (pt_val (pe_callB call_isi (by rfl) T.m_isinstance (by decide +kernel) (pa_cons (pv 0) (pa_cons (pe_bltn (v := .ty "dict") (u := .type "dict") (by rfl) T.m_dict (by decide +kernel) rfl) pa_nil)))) (pss_one ps_never) pss_nil)
      (pss_one (ps_ret (pv 0))))))), ?_⟩
    obtain ⟨t, ht, h1, h2, h3⟩ := flat_ty (K := K) (H := H) hv
    refine ⟨_, rfl, rfl, _, rfl, iteF ?_⟩
    refine ⟨_, rfl, v, _, t, _, _, rfl, .ty "list", ht, h1, _, rfl, iteF ?_⟩
    refine ⟨_, rfl, v, _, t, _, _, rfl, .ty "tuple", ht, h2, _, rfl, iteF ?_⟩
    refine ⟨_, rfl, v, _, t, _, _, rfl, .ty "dict", ht, h3, _, rfl, iteF ?_⟩
    exact ⟨v, rfl, k⟩
theorem ok_lives_init (T : Tx K mg A) : FnOk P w K mg base CX0 2 A.lives_init A.d_lives_init p_lives_init (UL.spWhat K) := by
  refine T.F_lives_init.ok sc_lives_init (fun vs H Q E h => ?_) (fun cdv Ar outer s H vs Q E hr h => ?_)
  · obtain ⟨a, C, v, rfl, _⟩ := h
    rfl
  · obtain ⟨a, C, v, rfl, hv, ha, hC, hw, k⟩ := h
    obtain ⟨ds, hvc, hbc⟩ := T.F_copied.binds1 (ps := p_copied) 1 0 (by simp) rfl (fun T' kV doc pm an cdv ct us its h1 h2 => by
      match us, h1, its, h2 with
      | [u], _, [d], _ => exact ⟨_, rfl, rfl⟩)
    refine ⟨_, (pss_one (ps_ost (pv 0) (pe_call (ok_copied T) (hr.mono (by decide)) (by rfl) T.g_copied T.F_copied.kp hbc hvc pass0 (pa_cons (pv 1) pa_nil)))), ?_⟩
    refine ⟨v, rfl, v, rfl, hv, _, rfl, a, C, rfl, hC, hw, .inl ⟨ha, fun dx hd hne => ?_⟩⟩
    exact k dx hd hne
/-! ### Signature -/
def inI : V → Int → Int → Bool
  | .int i, lo, hi => decide (lo ≤ i) && decide (i ≤ hi)
  | _, _, _ => false
def isInt : V → Bool
  | .int _ => true
  | .bl _ => true
  | _ => false
def isBl : V → Bool
  | .bl _ => true
  | _ => false
theorem Th.int {K : PySem.W.Frag} {H : Hp} {v : V} (h : Th H v) : ∃ t, TyX K H v t ∧ PySem.W.kitOne K t (.type "int") = some (isInt v) ∧ PySem.W.kitOne K t (.type "bool") = some (isBl v) := by
  rcases h with ⟨z, rfl, _⟩ | rfl | ⟨b, rfl⟩ | ⟨i, rfl⟩ | ⟨a, xs, rfl, h1 | h1⟩ | ⟨a, kvs, rfl, h1⟩
  · exact ⟨_, .base (.str z), kit_ty (r := false) (by decide +kernel), kit_ty (r := false) (by decide +kernel)⟩
  · exact ⟨_, .base .non, kit_ty (r := false) (by decide +kernel), kit_ty (r := false) (by decide +kernel)⟩
  · exact ⟨_, .base (.bl b), kit_ty (r := true) (by decide +kernel), kit_ty (r := true) (by decide +kernel)⟩
  · exact ⟨_, .base (.int i), kit_ty (r := true) (by decide +kernel), kit_ty (r := false) (by decide +kernel)⟩
  · exact ⟨_, .base (.lst h1), kit_ty (r := false) (by decide +kernel), kit_ty (r := false) (by decide +kernel)⟩
  · exact ⟨_, .base (.tup h1), kit_ty (r := false) (by decide +kernel), kit_ty (r := false) (by decide +kernel)⟩
  · exact ⟨_, .base (.dK h1), kit_ty (r := false) (by decide +kernel), kit_ty (r := false) (by decide +kernel)⟩
def intB : V → Bool
  | .int _ => true
  | _ => false
def spWhole : Sp := fun vs H Q _ => ∃ v, vs = [v] ∧ Th H v ∧ Q (.bl (intB v)) H
theorem ok_is_whole (T : Tx K mg A) : FnOk P w K mg base CX0 1 A.is_whole A.d_is_whole p_is_whole spWhole := by
  refine T.F_is_whole.ok sc_is_whole (fun vs H Q E h => ?_) (fun cdv Ar outer s H vs Q E hr h => ?_)
  · obtain ⟨v, rfl, _⟩ := h
    rfl
  · obtain ⟨v, rfl, hv, k⟩ := h
    refine ⟨_, (pss_one (ps_ret (pe_and (pe_callB call_isi (by rfl) T.m_isinstance (by decide +kernel) (pa_cons (pv 0) (pa_cons (pe_bltn (v := .ty "int") (u := .type "int") (by rfl) T.m_int (by decide +kernel) rfl) pa_nil))) (pe_one (pe_not (pe_callB call_isi (by rfl) T.m_isinstance (by decide +kernel) (pa_cons (pv 0) (pa_cons (pe_bltn (v := .ty "bool") (u := .type "bool") (by rfl) T.m_bool (by decide +kernel) rfl) pa_nil)))))))), ?_⟩
    obtain ⟨t, ht, h1, h2⟩ := hv.int (K := K)
    refine ⟨_, rfl, v, _, t, _, _, rfl, .ty "int", ht, h1, _, rfl, ?_⟩
    cases v with
    | int i => exact iteT ⟨_, rfl, .int i, _, t, _, _, rfl, .ty "bool", ht, h2, _, rfl, k⟩
    | bl b => exact iteT ⟨_, rfl, .bl b, _, t, _, _, rfl, .ty "bool", ht, h2, _, rfl, k⟩
    | _ => exact iteF k
def spIsInt : Sp := fun vs H Q _ => ∃ v lo hi, vs = [v, .int lo, .int hi] ∧ Th H v ∧ Q (.bl (inI v lo hi)) H
theorem ok_is_int (T : Tx K mg A) : FnOk P w K mg base CX0 2 A.is_int A.d_is_int p_is_int spIsInt := by
  refine T.F_is_int.ok sc_is_int (fun vs H Q E h => ?_) (fun cdv Ar outer s H vs Q E hr h => ?_)
  · obtain ⟨v, lo, hi, rfl, _⟩ := h
    rfl
  · obtain ⟨v, lo, hi, rfl, hv, k⟩ := h
    refine ⟨_, (pss_one (ps_ret (pe_and (pe_call (ok_is_whole T) (hr.mono (by decide)) (by rfl) T.g_is_whole T.F_is_whole.kp T.b_is_whole .nil pass0 (pa_cons (pv 0) pa_nil)) (pe_one (pe_chain op_le op_le (pv 1) (pv 0) (pv 2)))))), ?_⟩
    refine ⟨_, rfl, v, rfl, hv, _, rfl, ?_⟩
    cases v with
    | int i =>
      refine iteT ⟨_, rfl, _, rfl, lo, i, rfl, rfl, _, rfl, ?_⟩
      by_cases e : lo ≤ i
      · rw [decide_eq_true e]
        refine iteT ⟨_, rfl, i, hi, rfl, rfl, ?_⟩
        rw [show inI (.int i) lo hi = decide (i ≤ hi) by show (decide (lo ≤ i) && decide (i ≤ hi)) = _; rw [decide_eq_true e, Bool.true_and]] at k
        exact k
      · rw [decide_eq_false e]
        have q := k
        rw [show inI (.int i) lo hi = false by show (decide (lo ≤ i) && decide (i ≤ hi)) = false; rw [decide_eq_false e, Bool.false_and]] at q
        exact iteF q
    | _ => exact iteF k
def okSrc (n : Int) : Int → List V → Bool
  | _, [] => true
  | l, x :: r => inI x l n && (match x with | .int i => okSrc n (i + 1) r | _ => false)
def srcOk (n : Int) : Option (List V) → Bool
  | some xs => okSrc n 1 xs
  | none => false
def Src (K : PySem.W.Frag) (H : Hp) (v : V) : Option (List V) → Prop
  | some xs => SeqV K H v xs ∧ (∀ x ∈ xs, Th H x) ∧ xs.length ≤ 2500
  | none => NSeq H v
theorem Src.mono {K : PySem.W.Frag} {H H' : Hp} {v : V} {o : Option (List V)} (e : Ex H H') (h : Src K H v o) : Src K H' v o := by
  cases o with
  | none => exact NSeq.mono e h
  | some xs => exact ⟨h.1.mono e, fun x hx => (h.2.1 x hx).mono e, h.2.2⟩
def spSources (K : PySem.W.Frag) : Sp := fun vs H Q _ => ∃ v n o, vs = [v, .int n] ∧ Src K H v o ∧ ∀ H', Ex H H' → Q (.bl (srcOk n o)) H'
theorem ok_are_sources (T : Tx K mg A) : FnOk P w K mg base CX0 3 A.are_sources A.d_are_sources p_are_sources (spSources K) := by
  refine T.F_are_sources.ok sc_are_sources (fun vs H Q E h => ?_) (fun cdv Ar outer s H vs Q E hr h => ?_)
  · obtain ⟨v, n, o, rfl, _⟩ := h
    rfl
  · obtain ⟨v, n, o, rfl, hv, k⟩ := h
    refine ⟨_, (pss_cons (ps_if (pt_not (pt_val (pe_callB call_isiT (by rfl) T.m_isinstance (by decide +kernel) (pa_cons (pv 0) (pa_cons (pe_tup (pa_cons (pe_bltn (v := .ty "list") (u := .type "list") (by rfl) T.m_list (by decide +kernel) rfl) (pa_cons (pe_bltn (v := .ty "tuple") (u := .type "tuple") (by rfl) T.m_tuple (by decide +kernel) rfl) pa_nil))) pa_nil))))) (pss_one (ps_ret pe_bl)) pss_nil)
      (pss_cons (ps_set (i := 2) sc_are_sources.nd rfl (Or.inl rfl) pe_int)
      (pss_cons (ps_for PassesOwn.never rfl (UL.pi_alt (pi_list (pv 0)) (pi_tup (pv 0))) (pg_name (i := 3) sc_are_sources.nd rfl (Or.inl rfl)) (pss_cons (ps_if (pt_not (pt_val (pe_call (ok_is_int T) (hr.mono (by decide)) (by rfl) T.g_is_int T.F_is_int.kp T.b_is_int .nil pass0 (pa_cons (pv 3) (pa_cons (pv 2) (pa_cons (pv 1) pa_nil)))))) (pss_one (ps_ret pe_bl)) pss_nil)
        (pss_one (ps_set (i := 2) sc_are_sources.nd rfl (Or.inl rfl) (pe_op op_add (pv 3) pe_int)))))
      (pss_one (ps_ret pe_bl))))), ?_⟩
    refine ⟨v, rfl, by decide, fun p hp => ?_⟩
    have e1 := Ex.new (o := .tup [.ty "list", .ty "tuple"]) hp
    have hv1 := hv.mono e1
    cases o with
    | none =>
      obtain ⟨t, ht, hk⟩ := NSeq.ty (K := K) hv1
      exact ⟨v, p, _, t, _, _, rfl, upd_same, .cons (.ty "list") (.cons (.ty "tuple") .nil), ht, hk, _, rfl, iteT (k _ e1)⟩
    | some xs =>
      obtain ⟨hq, hx, hl⟩ := hv1
      obtain ⟨t, ht, hk⟩ := hq.ty
      refine ⟨v, p, _, t, _, _, rfl, upd_same, .cons (.ty "list") (.cons (.ty "tuple") .nil), ht, hk, _, rfl, iteF ?_⟩
      generalize hH : upd H p (.tup [.ty "list", .ty "tuple"]) = H1 at *
      obtain ⟨a, rfl, h2⟩ := hq.two
      refine for_seq (fun Q' q => ⟨_, rfl, q⟩) h2 (fun i σ H' => (∃ l v3, σ = [some (.ref a), some (.int n), some (.int l), v3] ∧ okSrc n 1 xs = okSrc n l (xs.drop i)) ∧ Ex H1 H') ⟨⟨1, none, rfl, rfl⟩, Ex.refl _⟩ (fun i σ' H' p => p.2) ?_ ?_
      · rintro i x σ' H' hi ⟨⟨l, v3, rfl, hok⟩, e2⟩
        have hd : xs.drop i = x :: xs.drop (i + 1) := by
          have hlt := (List.getElem?_eq_some_iff.mp hi).1
          rw [List.drop_eq_getElem_cons hlt, (List.getElem?_eq_some_iff.mp hi).2]
        rw [hd] at hok
        have tx := (hx x (List.mem_of_getElem? hi)).mono e2
        refine ⟨x, rfl, _, rfl, _, rfl, x, l, n, rfl, tx, _, rfl, ?_⟩
        cases hb : inI x l n with
        | false =>
          refine iteT ?_
          have q := k H' (e1.trans e2)
          rw [show srcOk n (some xs) = false by show okSrc n 1 xs = false; rw [hok]; show (inI x l n && _) = false; rw [hb, Bool.false_and]] at q
          exact q
        | true =>
          refine iteF ?_
          cases x with
          | int m =>
            refine ⟨_, rfl, m, 1, rfl, rfl, ⟨m + 1, _, rfl, ?_⟩, e2⟩
            rw [hok]
            show (inI (.int m) l n && okSrc n (m + 1) _) = _
            rw [hb, Bool.true_and]
          | _ => cases hb
      · rintro σ' H' ⟨⟨l, v3, rfl, hok⟩, e2⟩
        rw [List.drop_length] at hok
        have q := k H' (e1.trans e2)
        rw [show srcOk n (some xs) = true from hok] at q
        exact q
def sigOk (nv cv : V) (o : Option (List V)) : Bool := nm nv && inI cv 0 4 && (match cv with | .int n => srcOk n o | _ => false)
def spIsSig (K : PySem.W.Frag) : Sp := fun vs H Q _ => ∃ nv cv sv o, vs = [nv, cv, sv] ∧ Th H nv ∧ Th H cv ∧ Src K H sv o ∧ ∀ H', Ex H H' → Q (.bl (sigOk nv cv o)) H'
theorem ok_is_signature (T : Tx K mg A) : FnOk P w K mg base CX0 4 A.is_signature A.d_is_signature p_is_signature (spIsSig K) := by
  refine T.F_is_signature.ok sc_is_signature (fun vs H Q E h => ?_) (fun cdv Ar outer s H vs Q E hr h => ?_)
  · obtain ⟨nv, cv, sv, o, rfl, _⟩ := h
    rfl
  · obtain ⟨nv, cv, sv, o, rfl, hn, hc, hs, k⟩ := h
    refine ⟨_, (pss_one (ps_ret (pe_and (pe_call (ok_is_name T) (hr.mono (by decide)) (by rfl) T.g_is_name T.F_is_name.kp T.b_is_name .nil pass0 (pa_cons (pv 0) pa_nil)) (pe_and (pe_call (ok_is_int T) (hr.mono (by decide)) (by rfl) T.g_is_int T.F_is_int.kp T.b_is_int .nil pass0 (pa_cons (pv 1) (pa_cons pe_int (pa_cons (pe_glob (v := .int 4) (by rfl) T.c_MOST_PARAMETERS ⟨_, rfl⟩) pa_nil)))) (pe_one (pe_call (ok_are_sources T) (hr.mono (by decide)) (by rfl) T.g_are_sources T.F_are_sources.kp T.b_are_sources .nil pass0 (pa_cons (pv 2) (pa_cons (pv 1) pa_nil)))))))), ?_⟩
    refine ⟨_, rfl, nv, rfl, hn, fun H1 e1 => ⟨_, rfl, ?_⟩⟩
    have other : ∀ H', Ex H H' → sigOk nv cv o = false → Q (.bl false) H' := fun H' e' e => by
      have q := k H' e'
      rw [e] at q
      exact q
    cases h1 : nm nv with
    | false => exact iteF (other _ e1 (by unfold sigOk; rw [h1, Bool.false_and, Bool.false_and]))
    | true =>
      refine iteT ⟨_, rfl, cv, 0, 4, rfl, hc.mono e1, _, rfl, ?_⟩
      cases h2 : inI cv 0 4 with
      | false => exact iteF (other _ e1 (by unfold sigOk; rw [h2, Bool.and_false, Bool.false_and]))
      | true =>
        cases cv with
        | int n =>
          refine iteT ⟨_, rfl, _, rfl, sv, n, o, rfl, hs.mono e1, fun H2 e2 => ?_⟩
          have q := k H2 (e1.trans e2)
          rw [show sigOk nv (.int n) o = srcOk n o by unfold sigOk; rw [h1, h2]; rfl] at q
          exact q
        | _ => cases h2
def sigF (nv cv : V) (t : Addr) : List (Str × V) := [("name", nv), ("count", cv), ("sources", .ref t)]
theorem put3 (nv cv : V) (t : Addr) : putF "sources" (.ref t) (putF "count" cv (putF "name" nv [])) = sigF nv cv t := rfl
def spSigInit (K : PySem.W.Frag) (C E' : Addr) : Sp := fun vs H Q E => ∃ x dx nv cv sv o, vs = [.ref x, nv, cv, sv] ∧ H x = some (.ins C dx []) ∧ flatV nv = true ∧ Th H nv ∧ Th H cv ∧ Src K H sv o ∧
  (sigOk nv cv o = true → ∀ H' t, Ex (L2.del H x) H' → H' x = some (.ins C dx (sigF nv cv t)) → SqT K H' t (o.getD []) → Q .non H') ∧
  (sigOk nv cv o = false → ∀ d H', Ex H H' → H' d = some (.xd [("what", nv)]) → E (.ref E') (some d) H')
theorem ok_sig_init (T : Tx K mg A) : FnOk P w K mg base (L2.CX P w) 5 A.sig_init A.d_sig_init p_sig_init (spSigInit K A.Signature A.InvalidSignature) := by
  refine T.F_sig_init.ok sc_sig_init (fun vs H Q E h => ?_) (fun cdv Ar outer s H vs Q E hr h => ?_)
  · obtain ⟨x, dx, nv, cv, sv, o, rfl, _⟩ := h
    rfl
  · obtain ⟨x, dx, nv, cv, sv, o, rfl, hx, hf, hn, hc, hs, k1, k2⟩ := h
    refine ⟨_, (pss_cons (ps_if (pt_not (pt_val (pe_call (ok_is_signature T) (hr.mono (by decide)) (by rfl) T.g_is_signature T.F_is_signature.kp T.b_is_signature .nil pass0 (pa_cons (pv 1) (pa_cons (pv 2) (pa_cons (pv 3) pa_nil)))))) (pss_one (ps_raise rfl (takes_of rfl rfl rfl rfl) (pmk_oex T.ex_InvalidSignature.ox T.ex_InvalidSignature.ii T.ti_lives_init (ok_lives_init T) (hr.mono (by decide)) T.b_lives_init .nil pass0 (by rfl) T.g_InvalidSignature (pa_cons (pv 1) pa_nil)))) pss_nil)
      (pss_cons (ps_fld (pv 0) (pv 1) rfl)
      (pss_cons (ps_fld (pv 0) (pv 2) rfl)
      (pss_one (ps_fld (pv 0) (pe_callTy call_tuple_of (by rfl) T.m_tuple (by decide +kernel) (pa_cons (pv 3) pa_nil)) rfl))))), ?_⟩
    refine ⟨_, rfl, _, rfl, _, rfl, nv, cv, sv, o, rfl, hn, hc, hs, fun H1 e1 => ⟨_, rfl, ?_⟩⟩
    cases hb : sigOk nv cv o with
    | false =>
      refine iteT ⟨_, rfl, (by show 1 ≤ 1000; decide), raise_what T.ex_InvalidSignature hf fun d H' e' hd => ?_⟩
      exact k2 hb d H' (e1.trans e') hd
    | true =>
      refine iteF ?_
      have hx1 := e1 _ _ hx
      refine ⟨_, rfl, _, rfl, x, _, dx, _, rfl, hx1, T.cl_Signature, T.na_Signature_name, by decide, ?_⟩
      refine ⟨_, rfl, _, rfl, x, _, dx, _, rfl, upd_same, T.cl_Signature, T.na_Signature_count, by show 1 < 1000; decide, ?_⟩
      obtain ⟨xs, rfl⟩ : ∃ xs, o = some xs := by
        cases o with
        | some xs => exact ⟨xs, rfl⟩
        | none =>
          unfold sigOk at hb
          rw [Bool.and_eq_true] at hb
          have h3 := hb.2
          cases cv <;> cases h3
      generalize hH : upd (upd H1 x (.ins A.Signature dx (putF "name" nv []))) x (.ins A.Signature dx (putF "count" cv (putF "name" nv []))) = H3
      have hx3 : H3 x = some (.ins A.Signature dx (putF "count" cv (putF "name" nv []))) := by rw [← hH, upd_same]
      have e3 : ∀ b o, b ≠ x → H1 b = some o → H3 b = some o := fun b o n hb => by rw [← hH, upd_ne n, upd_ne n]; exact hb
      have fin : ∀ H4 t, (∀ b o, b ≠ x → H3 b = some o → H4 b = some o) → SqT K H4 t xs → H4 x = some (.ins A.Signature dx (sigF nv cv t)) → Q .non H4 := fun H4 t e4 ht hx4 =>
        k1 hb H4 t (ex_del e1 fun b o n hb => e4 b o n (e3 b o n hb)) hx4 ht
      obtain ⟨a, rfl, h2⟩ := (hs.1.mono e1)
      have nl : ∀ o, H1 a = some o → (∀ C d f, o ≠ .ins C d f) → a ≠ x := fun o h n => ne_of h hx1 (n _ _ _)
      refine ⟨_, rfl, a, xs, rfl, ?_⟩
      rcases h2 with h2 | h2 | ⟨h2, _⟩
      · have na := nl _ h2 (by intro _ _ _ z; cases z)
        refine .inl ⟨SqL.of (e3 _ _ na h2), fun t ht => ?_⟩
        have nt : x ≠ t := ne_of_none hx3 ht
        refine ⟨_, rfl, x, _, dx, _, rfl, (by rw [upd_ne nt]; exact hx3), T.cl_Signature, T.na_Signature_sources, (by show 2 < 1000; decide), ?_⟩
        refine fin _ t (fun b o n hb => ?_) (SqT.of ?_) upd_same
        · rw [upd_ne n, upd_ne (ne_of_none hb ht)]
          exact hb
        · rw [upd_ne nt.symm, upd_same]
      · have na := nl _ h2 (by intro _ _ _ z; cases z)
        refine .inr ⟨SqT.of (e3 _ _ na h2), ?_⟩
        refine ⟨_, rfl, x, _, dx, _, rfl, hx3, T.cl_Signature, T.na_Signature_sources, (by show 2 < 1000; decide), ?_⟩
        refine fin _ a (fun b o n hb => by rw [upd_ne n]; exact hb) (SqT.of ?_) upd_same
        rw [upd_ne na]
        exact e3 _ _ na h2
      · have h5 := sqT_del hx1 h2
        refine .inr ⟨ex_t (ex_del (Ex.refl H1) e3) h5, ?_⟩
        refine ⟨_, rfl, x, _, dx, _, rfl, hx3, T.cl_Signature, T.na_Signature_sources, (by show 2 < 1000; decide), ?_⟩
        refine fin _ a (fun b o n hb => by rw [upd_ne n]; exact hb) ?_ upd_same
        exact ex_t (ex_del (Ex.refl H1) fun b o n hb => by rw [upd_ne n]; exact e3 b o n hb) h5
/-- a signature stands at a -/
def Sig (K : PySem.W.Frag) (C : Addr) (H : Hp) (a : Addr) (z : Str) (n : Int) (ns : List Int) : Prop := ∃ dx t, H a = some (.ins C dx (sigF (.str z) (.int n) t)) ∧ SqT K H t (ns.map V.int)
theorem Sig.mono {K : PySem.W.Frag} {C : Addr} {H H' : Hp} {a : Addr} {z : Str} {n : Int} {ns : List Int} (e : Ex H H') (h : Sig K C H a z n ns) : Sig K C H' a z n ns := by
  obtain ⟨dx, t, h1, h2⟩ := h
  exact ⟨dx, t, e _ _ h1, ex_t e h2⟩
theorem f_name (nv cv : V) (t : Addr) : (sigF nv cv t).lookup ("name" : Str) = some nv := rfl
theorem f_count (nv cv : V) (t : Addr) : (sigF nv cv t).lookup ("count" : Str) = some cv := rfl
theorem f_sources (nv cv : V) (t : Addr) : (sigF nv cv t).lookup ("sources" : Str) = some (.ref t) := rfl
/-- what stands on the right of == -/
def EqR (K : PySem.W.Frag) (C : Addr) (H : Hp) (z : Str) (n : Int) (ns : List Int) (y : V) (b : Bool) : Prop :=
  (∃ a' z' n' ns', y = .ref a' ∧ Sig K C H a' z' n' ns' ∧ b = (decide (z = z') && decide (n = n') && decide (ns = ns'))) ∨ (∃ s, y = .str s ∧ b = false) ∨ ∃ a' ys, y = .ref a' ∧ H a' = some (.tup ys) ∧ b = false
theorem eqvAll_ints : ∀ ns ms : List Int, PyData.eqvAll (ns.map PyData.int) (ms.map PyData.int) = decide (ns = ms)
  | [], [] => by simp [PyData.eqvAll]
  | [], _ :: _ => by simp [PyData.eqvAll]
  | _ :: _, [] => by simp [PyData.eqvAll]
  | x :: r, y :: t => by
    have ih := eqvAll_ints r t
    rw [List.map_cons, List.map_cons]
    unfold PyData.eqvAll
    rw [ih]
    show (decide (x = y) && decide (r = t)) = _
    by_cases h : x = y <;> by_cases h' : r = t <;> simp [h, h']
theorem eqv_list (ns ms : List Int) : PyData.eqv (.list (ns.map PyData.int)) (.list (ms.map PyData.int)) = decide (ns = ms) := eqvAll_ints ns ms
theorem eqv_tup (ns ms : List Int) : PyData.eqv (.tuple (ns.map PyData.int)) (.tuple (ms.map PyData.int)) = decide (ns = ms) := eqvAll_ints ns ms
theorem dp_ints {K : PySem.W.Frag} {H : Hp} : ∀ ns : List Int, DpAll K H (ns.map V.int) (ns.map PyData.int)
  | [] => .nil
  | n :: r => .cons (.int n) (dp_ints r)
theorem lay_ints : ∀ ns : List Int, PyData.canLayAll0 (ns.map PyData.int) = true ∧ PyData.depthAll (ns.map PyData.int) ≤ 1
  | [] => ⟨rfl, by simp [PyData.depthAll]⟩
  | n :: r => by
    obtain ⟨h1, h2⟩ := lay_ints r
    refine ⟨?_, ?_⟩
    · show (PyData.canLay0 (.int n) && PyData.canLayAll0 (r.map PyData.int)) = true
      rw [h1]
      rfl
    · simp only [List.map_cons, PyData.depthAll, PyData.depth]
      omega
theorem shaped_ints (ns : List Int) : SeqAt.shaped (.tuple (ns.map PyData.int)) = true ∧ SeqAt.shaped (.list (ns.map PyData.int)) = true := by
  obtain ⟨h1, h2⟩ := lay_ints ns
  refine ⟨?_, ?_⟩
  · unfold SeqAt.shaped
    rw [show PyData.canLay0 (.tuple (ns.map PyData.int)) = true by unfold PyData.canLay0; exact h1, Bool.true_and]
    refine decide_eq_true ?_
    simp only [PyData.depth]
    omega
  · unfold SeqAt.shaped
    rw [show PyData.canLay0 (.list (ns.map PyData.int)) = true by unfold PyData.canLay0; exact h1, Bool.true_and]
    refine decide_eq_true ?_
    simp only [PyData.depth]
    omega
def spSigEq (K : PySem.W.Frag) (C : Addr) : Sp := fun vs H Q _ => ∃ a z n ns y b, vs = [.ref a, y] ∧ Sig K C H a z n ns ∧ EqR K C H z n ns y b ∧ Q (.bl b) H
theorem ok_sig_eq (T : Tx K mg A) : FnOk P w K mg base CX0 1 A.sig_eq A.d_sig_eq p_sig_eq (spSigEq K A.Signature) := by
  refine T.F_sig_eq.ok sc_sig_eq (fun vs H Q E h => ?_) (fun cdv Ar outer s H vs Q E hr h => ?_)
  · obtain ⟨a, z, n, ns, y, b, rfl, _⟩ := h
    rfl
  · obtain ⟨a, z, n, ns, y, b, rfl, ⟨dx, t, ha, ht⟩, hy, k⟩ := h
    refine ⟨_, (pss_one (ps_ret (pe_and (pe_callB call_isi (by rfl) T.m_isinstance (by decide +kernel) (pa_cons (pv 1) (pa_cons (pe_glob (v := .ref A.Signature) (by rfl) T.g_Signature rfl) pa_nil))) (pe_and (pe_cmpR op_eq (pe_fld (pv 0) rfl) (pe_fld (pv 1) rfl) (nomark _)) (pe_and (pe_cmpR op_eq (pe_fld (pv 0) rfl) (pe_fld (pv 1) rfl) (nomark _)) (pe_one (pe_cmpR (op_eqD hr.units) (pe_fld (pv 0) rfl) (pe_fld (pv 1) rfl) (nomark _)))))))), ?_⟩
    rcases hy with ⟨a', z', n', ns', rfl, ⟨dx', t', ha', ht'⟩, rfl⟩ | ⟨s', rfl, rfl⟩ | ⟨a', ys, rfl, h', rfl⟩
    · refine ⟨_, rfl, .ref a', _, _, _, _, rfl, .own A.Signature, tyx_ins ha' T.cl_Signature T.ty_Signature, T.ks_own, _, rfl, iteT ?_⟩
      refine ⟨_, rfl, a, _, dx, _, _, rfl, ha, T.cl_Signature, T.na_Signature_name, f_name _ _ _, _, rfl, a', _, dx', _, _, rfl, ha', T.cl_Signature, T.na_Signature_name, f_name _ _ _, rfl, _, rfl, ?_⟩
      rw [show decide (V.str z = V.str z') = decide (z = z') by by_cases e : z = z' <;> simp [e]]
      by_cases e1 : z = z'
      · rw [decide_eq_true e1]
        refine iteT ?_
        refine ⟨_, rfl, a, _, dx, _, _, rfl, ha, T.cl_Signature, T.na_Signature_count, f_count _ _ _, _, rfl, a', _, dx', _, _, rfl, ha', T.cl_Signature, T.na_Signature_count, f_count _ _ _, rfl, _, rfl, ?_⟩
        rw [show decide (V.int n = V.int n') = decide (n = n') by by_cases e : n = n' <;> simp [e]]
        by_cases e2 : n = n'
        · rw [decide_eq_true e2]
          refine iteT ?_
          refine ⟨_, rfl, a, _, dx, _, _, rfl, ha, T.cl_Signature, T.na_Signature_sources, f_sources _ _ _, _, rfl, a', _, dx', _, _, rfl, ha', T.cl_Signature, T.na_Signature_sources, f_sources _ _ _, ?_⟩
          refine ⟨_, _, .tup ht (dp_ints ns), .tup ht' (dp_ints ns'), (shaped_ints ns).1, (shaped_ints ns').1, ?_⟩
          rw [eqv_tup]
          rw [decide_eq_true e1, decide_eq_true e2, Bool.true_and, Bool.true_and] at k
          exact k
        · rw [decide_eq_false e2]
          rw [decide_eq_false e2, Bool.and_false, Bool.false_and] at k
          exact iteF k
      · rw [decide_eq_false e1]
        rw [decide_eq_false e1, Bool.false_and, Bool.false_and] at k
        exact iteF k
    · exact ⟨_, rfl, .str s', _, _, _, _, rfl, .own A.Signature, .base (.str s'), T.ks_str, _, rfl, iteF k⟩
    · exact ⟨_, rfl, .ref a', _, _, _, _, rfl, .own A.Signature, .base (.tup h'), T.ks_tup, _, rfl, iteF k⟩
/-! ### drawn names -/
def tlL : List Nat := tl "abcdefghijklmnopqrstuvwxyz"
def tlD : List Nat := tl "0123456789"
structure Wd (z : Str) : Prop where
  first : ∃ c r, tl z = c :: r ∧ c ∈ tlL
  all : ∀ c ∈ tl z, alnum c = true
  len : 2 ≤ z.length ∧ z.length ≤ 8
  dig : ∃ c ∈ tl z, c ∈ tlD
theorem alL {c : Nat} (h : c ∈ tlL) : alnum c = true := by
  unfold alnum
  rw [show decide (c ∈ tl "abcdefghijklmnopqrstuvwxyz") = true from decide_eq_true h, Bool.true_or]
theorem alD {c : Nat} (h : c ∈ tlD) : alnum c = true := by
  unfold alnum
  rw [show decide (c ∈ tl "0123456789") = true from decide_eq_true h, Bool.or_true]
theorem nodig : ∀ w ∈ wordsS, ∀ c ∈ tl w, c ∉ tlD := by decide +kernel
theorem Wd.ok {z : Str} (h : Wd z) : okS z = true := by
  obtain ⟨⟨c, r, hcr, hc⟩, h2, ⟨h3, h4⟩, d, hd, hdd⟩ := h
  have hi : inV (.str z) kWords = false := by
    unfold inV
    rw [List.any_eq_false]
    intro y hy
    rw [kWords_eq] at hy
    obtain ⟨w, hw, rfl⟩ := List.mem_map.mp hy
    intro e
    have e1 : w = z := by
      have : (w == z) = true := e
      simpa using this
    subst e1
    exact nodig w hw d hd hdd
  unfold okS
  rw [hi, List.all_eq_true.mpr h2, hcr, decide_eq_true (show 1 ≤ z.length by omega), decide_eq_true h4]
  show (true && true && decide (c ∈ tl "abcdefghijklmnopqrstuvwxyz") && !false && true) = true
  rw [show decide (c ∈ tl "abcdefghijklmnopqrstuvwxyz") = true from decide_eq_true hc]
  rfl
theorem dig_mem {c : Nat} (h : 48 ≤ c ∧ c ≤ 57) : c ∈ tlD := by
  have : c = 48 ∨ c = 49 ∨ c = 50 ∨ c = 51 ∨ c = 52 ∨ c = 53 ∨ c = 54 ∨ c = 55 ∨ c = 56 ∨ c = 57 := by omega
  rcases this with h | h | h | h | h | h | h | h | h | h <;> (subst h; decide +kernel)
theorem num_ok {k : Int} (h0 : 0 ≤ k) (h1 : k < 100) : (∀ c ∈ tl (Str.ofString (toString k)), c ∈ tlD) ∧ 1 ≤ (tl (Str.ofString (toString k))).length ∧ (tl (Str.ofString (toString k))).length ≤ 2 := by
  obtain ⟨n, rfl⟩ := Int.eq_ofNat_of_zero_le h0
  rw [tl_num]
  refine ⟨fun c hc => dig_mem (numL_digits n c hc), ?_, numL_len (by decide) (by omega)⟩
  have := numL_ne n
  cases e : numL n with
  | nil => exact absurd e this
  | cons a r => show 1 ≤ r.length + 1; omega
theorem wd_num {c : Nat} {k : Int} (hc : c ∈ tlL) (h0 : 0 ≤ k) (h1 : k < 100) : Wd ((⟨#[c]⟩ : Str) ++ Str.ofString (toString k)) ∧ ((⟨#[c]⟩ : Str) ++ Str.ofString (toString k)).length ≤ 3 := by
  obtain ⟨n1, n2, n3⟩ := num_ok h0 h1
  have e : tl ((⟨#[c]⟩ : Str) ++ Str.ofString (toString k)) = c :: tl (Str.ofString (toString k)) := by rw [tl_append]; rfl
  have el : ((⟨#[c]⟩ : Str) ++ Str.ofString (toString k)).length = (tl (Str.ofString (toString k))).length + 1 := by rw [len_tl, e]; rfl
  refine ⟨⟨⟨c, _, e, hc⟩, fun d hd => ?_, by omega, ?_⟩, by omega⟩
  · rw [e] at hd
    rcases List.mem_cons.mp hd with rfl | hd
    · exact alL hc
    · exact alD (n1 d hd)
  · cases q : tl (Str.ofString (toString k)) with
    | nil =>
      rw [q] at n2
      exact absurd n2 (by decide)
    | cons a r =>
      exact ⟨a, by rw [e, q]; exact List.mem_cons_of_mem _ List.mem_cons_self, n1 a (by rw [q]; exact List.mem_cons_self)⟩
theorem wd_back {z y : Str} (h : Wd z) (hy : ∀ c ∈ tl y, c ∈ tlL) (hl : z.length + y.length ≤ 8) : Wd (z ++ y) := by
  obtain ⟨⟨c, r, hcr, hc⟩, h2, h3, d, hd, hdd⟩ := h
  have el : (z ++ y).length = z.length + y.length := by rw [len_tl, tl_append, List.length_append, ← len_tl, ← len_tl]
  refine ⟨⟨c, r ++ tl y, by rw [tl_append, hcr]; rfl, hc⟩, fun q hq => ?_, by omega, d, by rw [tl_append]; exact List.mem_append_left _ hd, hdd⟩
  rw [tl_append] at hq
  rcases List.mem_append.mp hq with hq | hq
  · exact h2 q hq
  · exact alL (hy q hq)
theorem wd_front {z : Str} {c : Nat} (h : Wd z) (hc : c ∈ tlL) (hl : z.length ≤ 7) : Wd ((⟨#[c]⟩ : Str) ++ z) := by
  obtain ⟨_, h2, h3, d, hd, hdd⟩ := h
  have e : tl ((⟨#[c]⟩ : Str) ++ z) = c :: tl z := by rw [tl_append]; rfl
  have el : ((⟨#[c]⟩ : Str) ++ z).length = z.length + 1 := by rw [len_tl, e, List.length_cons, ← len_tl]
  refine ⟨⟨c, _, e, hc⟩, fun q hq => ?_, by omega, d, by rw [e]; exact List.mem_cons_of_mem _ hd, hdd⟩
  rw [e] at hq
  rcases List.mem_cons.mp hq with rfl | hq
  · exact alL hc
  · exact h2 q hq
theorem cut_q {z : Str} (h : z.length ≤ 8) : (∀ c ∈ tl (cutS "qqqqqqqq" (some (z.length : Int)) none), c ∈ tlL) ∧ (cutS "qqqqqqqq" (some (z.length : Int)) none).length = 8 - z.length := by
  have : ∀ n : Nat, n ≤ 8 → (∀ c ∈ tl (cutS "qqqqqqqq" (some (n : Int)) none), c ∈ tlL) ∧ (cutS "qqqqqqqq" (some (n : Int)) none).length = 8 - n := by
    intro n hn
    have hn : n = 0 ∨ n = 1 ∨ n = 2 ∨ n = 3 ∨ n = 4 ∨ n = 5 ∨ n = 6 ∨ n = 7 ∨ n = 8 := by omega
    rcases hn with h | h | h | h | h | h | h | h | h <;> (subst h; decide +kernel)
  exact this _ h
def plainS : List Str := ["a", "x", "new", "b", "user", "copy", "ends", "z", "elses", "n", "dea", "deads", "pic", "thens", "funs", "y"]
theorem plain_ok : ∀ z ∈ plainS, okS z = true := by decide +kernel
theorem okS_len {z : Str} (h : okS z = true) : z.length ≤ 8 := by
  unfold okS at h
  rw [Bool.and_eq_true, Bool.and_eq_true, Bool.and_eq_true, Bool.and_eq_true] at h
  exact of_decide_eq_true h.1.1.1.2
def spName : Sp := fun vs H Q _ => ∃ d k, vs = [.ref d, .int k] ∧ H d = some (DrO d) ∧ 0 ≤ k ∧ k < 100 ∧ ∀ z H', okS z = true → Ex H H' → Q (.str z) H'
theorem ok_name (T : Tx K mg A) : FnOk P w K mg base CX0 2 A.name A.d_name p_name spName := by
  refine T.F_name.ok sc_name (fun vs H Q E h => ?_) (fun cdv Ar outer s H vs Q E hr h => ?_)
  · obtain ⟨d, k, rfl, _⟩ := h
    rfl
  · obtain ⟨d, k, rfl, hd, k0, k1, q⟩ := h
    refine ⟨_, (pss_cons (ps_set (i := 2) sc_name.nd rfl (Or.inl rfl) pe_str)
      (pss_cons (ps_set (i := 3) sc_name.nd rfl (Or.inl rfl) (pe_lst (pa_cons pe_str (pa_cons pe_str (pa_cons pe_str (pa_cons pe_str (pa_cons pe_str (pa_cons pe_str (pa_cons pe_str (pa_cons pe_str (pa_cons pe_str (pa_cons pe_str (pa_cons pe_str (pa_cons pe_str (pa_cons pe_str (pa_cons pe_str (pa_cons pe_str (pa_cons pe_str pa_nil))))))))))))))))))
      (pss_cons (ps_set (i := 4) sc_name.nd rfl (Or.inl rfl) (pe_call (ok_take T) (hr.mono (by decide)) (by rfl) T.g_take T.F_take.kp T.b_take .nil pass0 (pa_cons (pv 0) (pa_cons pe_int pa_nil))))
      (Evl.pss_cut (ps_if (PW.pt (pw_and (pt_cmpR op_eq (pv 4) pe_int (nomark _)) (pw_and1 (pt_cmpR op_lt (pv 1) pe_int (nomark _))))) (pss_one (ps_ret (pe_ix ix_list (pv 3) (pv 1) (fun _ _ => rfl)))) pss_nil)
      (pss_cons (ps_set (i := 5) sc_name.nd rfl (Or.inl rfl) (pe_op op_add_str (pe_ix ix_str (pv 2) (pe_call (ok_take T) (hr.mono (by decide)) (by rfl) T.g_take T.F_take.kp T.b_take .nil pass0 (pa_cons (pv 0) (pa_cons pe_int pa_nil))) (fun _ _ => rfl)) (pe_callTy call_str_int (by rfl) T.m_str (by decide +kernel) (pa_cons (pv 1) pa_nil))))
      (Evl.pss_cut (ps_if (pt_cmpR op_eq (pv 4) pe_int (nomark _)) (pss_one (ps_set (i := 5) sc_name.nd rfl (Or.inl rfl) (pe_op op_add_str pe_str (pe_callTy call_str_int (by rfl) T.m_str (by decide +kernel) (pa_cons (pv 1) pa_nil))))) pss_nil)
      (Evl.pss_cut (ps_if (pt_cmpR op_eq (pv 4) pe_int (nomark _)) (pss_one (ps_set (i := 5) sc_name.nd rfl (Or.inl rfl) (pe_op op_add_str (pv 5) (pe_ix ix_str (pv 2) (pe_call (ok_take T) (hr.mono (by decide)) (by rfl) T.g_take T.F_take.kp T.b_take .nil pass0 (pa_cons (pv 0) (pa_cons pe_int pa_nil))) (fun _ _ => rfl))))) pss_nil)
      (Evl.pss_cut (ps_if (pt_cmpR op_eq (pv 4) pe_int (nomark _)) (pss_one (ps_set (i := 5) sc_name.nd rfl (Or.inl rfl) (pe_op op_add_str (pe_ix ix_str (pv 2) (pe_call (ok_take T) (hr.mono (by decide)) (by rfl) T.g_take T.F_take.kp T.b_take .nil pass0 (pa_cons (pv 0) (pa_cons pe_int pa_nil))) (fun _ _ => rfl)) (pv 5)))) pss_nil)
      (Evl.pss_cut (ps_if (pt_cmpR op_eq (pv 4) pe_int (nomark _)) (pss_one (ps_set (i := 5) sc_name.nd rfl (Or.inl rfl) (pe_op op_add_str (pv 5) (pe_slice sl_str pe_str (po_some (pe_callB call_len_str (by rfl) T.m_len PySem.boot_len (pa_cons (pv 5) pa_nil))) po_none)))) pss_nil)
      (pss_one (ps_ret (pv 5)))))))))))), ?_⟩
    refine ⟨sz_of (by show 16 ≤ 100000; decide), fun p hp => ?_⟩
    have e1 := Ex.new (o := .lst (plainS.map V.str)) hp
    have hd1 := e1 _ _ hd
    refine ⟨_, rfl, d, _, rfl, hd1, by decide, fun s s0 s1 => ?_⟩
    have hp1 : upd H p (.lst (plainS.map V.str)) p = some (.lst (plainS.map V.str)) := upd_same
    revert hp1 e1 hd1
    show Ex H (upd H p (.lst (plainS.map V.str))) → upd H p (.lst (plainS.map V.str)) d = some (DrO d) → upd H p (.lst (plainS.map V.str)) p = some (.lst (plainS.map V.str)) → tCut _ _ _ _ (upd H p (.lst (plainS.map V.str)))
    generalize upd H p (.lst (plainS.map V.str)) = H1
    intro e1 hd1 hp1
    let S0 : Option V → L2.St := fun v5 => [some (.ref d), some (.int k), some (.str "abcdefghijklmnopqrstuvwxyz"), some (.ref p), some (.int s), v5]
    refine ⟨fun σ' H' => σ' = S0 none ∧ H' = H1, ?_, ?_⟩
    · refine ⟨_, rfl, rfl, _, rfl, ite2 (fun _ => ?_) (fun _ => iteF ⟨rfl, rfl⟩)⟩
      refine ⟨_, rfl, k, 16, rfl, rfl, _, rfl, ite2 (fun h => ?_) (fun _ => ⟨rfl, rfl⟩)⟩
      have hk : k < 16 := of_decide_eq_true h
      obtain ⟨z, hz, hm⟩ := at_in (xs := plainS) k0 (show k < 16 from hk)
      refine ⟨_, rfl, _, rfl, p, _, k, .str z, rfl, rfl, SqL.of hp1, ?_, q z H1 (plain_ok z hm) e1⟩
      obtain ⟨m, rfl⟩ := Int.eq_ofNat_of_zero_le k0
      have hm2 : m < plainS.length := by show m < 16; omega
      rw [atI_nat (List.getElem?_eq_getElem hm2)] at hz
      rw [← Option.some.inj hz]
      refine atI_nat ?_
      rw [List.getElem?_map, List.getElem?_eq_getElem hm2]
      rfl
    rintro σ' H' ⟨rfl, rfl⟩
    have one : ∀ c : Nat, (⟨#[c]⟩ : Str).length = 1 := fun _ => rfl
    have lg : k.natAbs.log2 < 1920 := by
      have h1 : k.natAbs < 2 ^ 1920 := Nat.lt_of_lt_of_le (show k.natAbs < 128 by omega) (by decide +kernel)
      by_cases hz : k.natAbs = 0
      · rw [hz]
        decide
      · exact (Nat.log2_lt hz).mpr h1
    have szn : ∀ c : Nat, (⟨#[c]⟩ : Str).length + (Str.ofString (toString k)).length ≤ sizeLine := fun c => sz_of (by have := (num_ok k0 k1).2.2; rw [one, len_tl]; omega)
    -- word = letter + str(k)
    refine ⟨_, rfl, _, rfl, d, _, rfl, hd1, by decide, fun n n0 n1 => ?_⟩
    obtain ⟨c, hc, hm⟩ := at_in (xs := tl "abcdefghijklmnopqrstuvwxyz") n0 (show n < 26 from n1)
    refine ⟨_, n, c, rfl, rfl, by decide, hc, _, rfl, k, rfl, lg, _, _, rfl, rfl, szn c, ?_⟩
    obtain ⟨w0, l0⟩ := wd_num (c := c) hm k0 k1
    generalize ((⟨#[c]⟩ : Str) ++ Str.ofString (toString k)) = z0 at w0 l0
    -- shape 1
    refine ⟨fun σ' Hn => ∃ z, Wd z ∧ z.length ≤ 3 ∧ σ' = S0 (some (.str z)) ∧ Hn = H', ?_, ?_⟩
    · refine ⟨_, rfl, rfl, _, rfl, ite2 (fun _ => ?_) (fun _ => ⟨z0, w0, l0, rfl, rfl⟩)⟩
      obtain ⟨w1, l1⟩ := wd_num (c := 110) (by decide +kernel) k0 k1
      exact ⟨_, rfl, k, rfl, lg, _, _, rfl, rfl, szn 110, _, w1, l1, rfl, rfl⟩
    rintro σ' Hb ⟨z1, w1, l1, rfl, rfl⟩
    -- shape 2
    refine ⟨fun σ' H2 => ∃ z, Wd z ∧ z.length ≤ 4 ∧ σ' = S0 (some (.str z)) ∧ H2 = Hb, ?_, ?_⟩
    · refine ⟨_, rfl, rfl, _, rfl, ite2 (fun _ => ?_) (fun _ => ⟨z1, w1, by omega, rfl, rfl⟩)⟩
      refine ⟨_, rfl, _, rfl, _, rfl, d, _, rfl, hd1, by decide, fun n n0 n1 => ?_⟩
      obtain ⟨c, hc, hm⟩ := at_in (xs := tl "abcdefghijklmnopqrstuvwxyz") n0 (show n < 26 from n1)
      refine ⟨_, n, c, rfl, rfl, by decide, hc, _, _, rfl, rfl, sz_of (by rw [one]; omega), _, wd_back w1 (y := ⟨#[c]⟩) (fun q hq => ?_) (by rw [one]; omega), ?_, rfl, rfl⟩
      · rw [List.mem_singleton.mp (show q ∈ [c] from hq)]
        exact hm
      · rw [len_tl, tl_append, List.length_append, ← len_tl, ← len_tl, one]
        omega
    rintro σ' H2 ⟨z2, w2, l2, rfl, rfl⟩
    -- shape 3
    refine ⟨fun σ' H3 => ∃ z, Wd z ∧ z.length ≤ 5 ∧ σ' = S0 (some (.str z)) ∧ H3 = H2, ?_, ?_⟩
    · refine ⟨_, rfl, rfl, _, rfl, ite2 (fun _ => ?_) (fun _ => ⟨z2, w2, by omega, rfl, rfl⟩)⟩
      refine ⟨_, rfl, _, rfl, d, _, rfl, hd1, by decide, fun n n0 n1 => ?_⟩
      obtain ⟨c, hc, hm⟩ := at_in (xs := tl "abcdefghijklmnopqrstuvwxyz") n0 (show n < 26 from n1)
      refine ⟨_, n, c, rfl, rfl, by decide, hc, _, rfl, _, _, rfl, rfl, sz_of (by rw [one]; omega), _, wd_front w2 hm (by omega), ?_, rfl, rfl⟩
      rw [len_tl, tl_append, List.length_append, ← len_tl, ← len_tl, one]
      omega
    rintro σ' H3 ⟨z3, w3, l3, rfl, rfl⟩
    -- shape 4
    refine ⟨fun σ' H4 => ∃ z, Wd z ∧ σ' = S0 (some (.str z)) ∧ H4 = H3, ?_, ?_⟩
    · refine ⟨_, rfl, rfl, _, rfl, ite2 (fun _ => ?_) (fun _ => ⟨z3, w3, rfl, rfl⟩)⟩
      obtain ⟨q1, q2⟩ := cut_q (z := z3) (by omega)
      refine ⟨_, rfl, _, rfl, z3, rfl, sz_of (by omega), _, rfl, _, rfl, by decide, _, _, rfl, rfl, sz_of (by omega), _, wd_back w3 q1 (by omega), rfl, rfl⟩
    rintro σ' H4 ⟨z4, w4, rfl, rfl⟩
    exact ⟨_, rfl, q z4 _ w4.ok e1⟩
def spInteger : Sp := fun vs H Q _ => ∃ v, vs = [v] ∧ Th H v ∧ Q (.bl (intB v)) H
theorem ok_integer (T : Tx K mg A) : FnOk P w K mg base CX0 1 A.integer A.d_integer p_integer spInteger := by
  refine T.F_integer.ok sc_integer (fun vs H Q E h => ?_) (fun cdv Ar outer s H vs Q E hr h => ?_)
  · obtain ⟨v, rfl, _⟩ := h
    rfl
  · obtain ⟨v, rfl, hv, k⟩ := h
    refine ⟨_, (pss_one (ps_ret (pe_and (pe_callB call_isi (by rfl) T.m_isinstance (by decide +kernel) (pa_cons (pv 0) (pa_cons (pe_bltn (v := .ty "int") (u := .type "int") (by rfl) T.m_int (by decide +kernel) rfl) pa_nil))) (pe_one (pe_not (pe_callB call_isi (by rfl) T.m_isinstance (by decide +kernel) (pa_cons (pv 0) (pa_cons (pe_bltn (v := .ty "bool") (u := .type "bool") (by rfl) T.m_bool (by decide +kernel) rfl) pa_nil)))))))), ?_⟩
    obtain ⟨t, ht, h1, h2⟩ := hv.int (K := K)
    refine ⟨_, rfl, v, _, t, _, _, rfl, .ty "int", ht, h1, _, rfl, ?_⟩
    cases v with
    | int i => exact iteT ⟨_, rfl, .int i, _, t, _, _, rfl, .ty "bool", ht, h2, _, rfl, k⟩
    | bl b => exact iteT ⟨_, rfl, .bl b, _, t, _, _, rfl, .ty "bool", ht, h2, _, rfl, k⟩
    | _ => exact iteF k
/-- strictly ascending numbers from 1 to n -/
def Asc (n : Int) (ns : List Int) : Prop := ns.Pairwise (· < ·) ∧ ∀ m ∈ ns, 1 ≤ m ∧ m ≤ n
theorem asc_ok {n : Int} : ∀ (ns : List Int) (l : Int), ns.Pairwise (· < ·) → (∀ m ∈ ns, l ≤ m ∧ m ≤ n) → okSrc n l (ns.map V.int) = true
  | [], _, _, _ => rfl
  | m :: r, l, hp, hb => by
    obtain ⟨h1, h2⟩ := List.pairwise_cons.mp hp
    have hm := hb m List.mem_cons_self
    show (inI (.int m) l n && okSrc n (m + 1) (r.map V.int)) = true
    rw [show inI (.int m) l n = true by show (decide (l ≤ m) && decide (m ≤ n)) = true; rw [decide_eq_true hm.1, decide_eq_true hm.2]; rfl, Bool.true_and]
    exact asc_ok r (m + 1) h2 fun q hq => ⟨by have := h1 q hq; omega, (hb q (List.mem_cons_of_mem _ hq)).2⟩
theorem asc_len {n : Int} (hn : n ≤ 4) : ∀ ns : List Int, Asc n ns → ns.length ≤ 4 := fun ns h => by
  obtain ⟨h1, h2⟩ := h
  match ns, h1, h2 with
  | [], _, _ => decide
  | [_], _, _ => exact (by decide : 1 ≤ 4)
  | [_, _], _, _ => exact (by decide : 2 ≤ 4)
  | [_, _, _], _, _ => exact (by decide : 3 ≤ 4)
  | [_, _, _, _], _, _ => exact (by decide : 4 ≤ 4)
  | a :: b :: c :: e :: f :: r, h1, h2 =>
    exfalso
    obtain ⟨p1, q1⟩ := List.pairwise_cons.mp h1
    obtain ⟨p2, q2⟩ := List.pairwise_cons.mp q1
    obtain ⟨p3, q3⟩ := List.pairwise_cons.mp q2
    obtain ⟨p4, q4⟩ := List.pairwise_cons.mp q3
    have a1 := (h2 a (by simp)).1
    have f1 := (h2 f (by simp)).2
    have b1 := p1 b (by simp)
    have c1 := p2 c (by simp)
    have e1 := p3 e (by simp)
    have g1 := p4 f (by simp)
    omega
def spWithin : Sp := fun vs H Q _ => ∃ d n, vs = [.ref d, .int n] ∧ H d = some (DrO d) ∧ 0 ≤ n ∧ n ≤ 4 ∧ ∀ p H' ns, H p = none → Ex H H' → H' p = some (.lst (ns.map V.int)) → Asc n ns → ns.length ≤ 4 → Q (.ref p) H'
theorem ok_within (T : Tx K mg A) : FnOk P w K mg base CX0 2 A.within A.d_within p_within spWithin := by
  refine T.F_within.ok sc_within (fun vs H Q E h => ?_) (fun cdv Ar outer s H vs Q E hr h => ?_)
  · obtain ⟨d, n, rfl, _⟩ := h
    rfl
  · obtain ⟨d, n, rfl, hd, n0, n4, k⟩ := h
    refine ⟨_, (pss_cons (ps_set (i := 2) sc_within.nd rfl (Or.inr rfl) (pe_call (ok_take T) (hr.mono (by decide)) (by rfl) T.g_take T.F_take.kp T.b_take .nil pass0 (pa_cons (pv 0) (pa_cons pe_int pa_nil))))
      (pss_one (ps_ret (pe_lc (own := [("_law_j", 3)]) (g := gName 3) rfl sc_within.nd (pi_range1 (by rfl) T.m_range (pa_cons (pv 1) pa_nil)) (blkOk_by (N := n_within) (sc := defScope s_within) (by decide +kernel)) (fun _ _ _ _ _ => pg_name (i := 3) sc_within.nd rfl (Or.inl rfl)) (fun _ _ _ _ _ => pts_one (pt_cmpR op_eq (pe_op op_mod (pe_callTy call_int1 (by rfl) T.m_int (by decide +kernel) (pa_cons (pe_op op_fdiv (pv 2) (pe_ix (show IxR _ (rIxL K) from ix_list) (pe_lst (pa_cons pe_int (pa_cons pe_int (pa_cons pe_int (pa_cons pe_int pa_nil))))) (pv 3) (fun _ _ => rfl))) pa_nil)) pe_int) pe_int (nomark _))) (fun _ _ _ _ _ => (pe_op op_add (pv 3) pe_int)))))), ?_⟩
    refine ⟨_, rfl, d, _, rfl, hd, by decide, fun m m0 m1 => ?_⟩
    refine ⟨_, rfl, n, rfl, by omega, by omega, fun D hD => ?_⟩
    refine lc_range (lo := 0) (n := n.toNat) (fun i H' => Ex H H' ∧ ∃ ns : List Int, H' D = some (.lst (ns.map V.int)) ∧ Asc (i : Int) ns) ⟨Ex.new hD, [], upd_same, List.Pairwise.nil, fun _ h => (nomatch h)⟩ ?_ ?_
    · rintro i H' hi ⟨e1, ns, hL, ha⟩
      have e0 : (0 : Int) + (i : Int) = (i : Int) := Int.zero_add _
      refine ⟨rfl, ?_⟩
      rw [e0]
      refine ⟨_, rfl, sz_of (by show 4 ≤ 100000; decide), fun p hp => ?_⟩
      have hi4 : i < 4 := by omega
      obtain ⟨q, hq⟩ : ∃ q : Int, atI [V.int 1, V.int 2, V.int 4, V.int 8] (i : Int) = some (.int q) ∧ 0 < q ∧ q < 1073741824 := by
        have : i = 0 ∨ i = 1 ∨ i = 2 ∨ i = 3 := by omega
        rcases this with h | h | h | h <;> subst h
        · exact ⟨1, atI_nat (j := 0) rfl, by decide, by decide⟩
        · exact ⟨2, atI_nat (j := 1) rfl, by decide, by decide⟩
        · exact ⟨4, atI_nat (j := 2) rfl, by decide, by decide⟩
        · exact ⟨8, atI_nat (j := 3) rfl, by decide, by decide⟩
      have e2 := Ex.new (o := .lst [.int 1, .int 2, .int 4, .int 8]) hp
      refine ⟨_, rfl, p, _, _, _, rfl, rfl, SqL.of upd_same, hq.1, m, q, rfl, rfl, ⟨hq.2.1, hq.2.2⟩, .inl ⟨_, rfl, _, 2, rfl, rfl, (show (0 : Int) < 2 by decide), rfl, _, rfl, ite2 (fun _ => ?_) (fun _ => ?_)⟩⟩
      · refine ⟨_, rfl, _, 1, rfl, rfl, _, e2 _ _ hL, ?_, (e1.trans e2).mut hD, ns ++ [(i : Int) + 1], ?_, ?_, ?_⟩
        · rw [List.length_map]
          exact sz_lt (by have := asc_len (show (i : Int) ≤ 4 by omega) ns ha; omega)
        · rw [upd_same, List.map_append]
          rfl
        · rw [List.pairwise_append]
          refine ⟨ha.1, List.pairwise_singleton _ _, fun x hx y hy => ?_⟩
          rw [List.mem_singleton.mp hy]
          have := (ha.2 x hx).2
          omega
        · intro x hx
          rcases List.mem_append.mp hx with h | h
          · have := ha.2 x h
            omega
          · rw [List.mem_singleton.mp h]
            omega
      · exact ⟨e1.trans e2, ns, e2 _ _ hL, ha.1, fun x hx => by have := ha.2 x hx; omega⟩
    · rintro H' ⟨e1, ns, hL, ha⟩
      have ha' : Asc n ns := ⟨ha.1, fun x hx => by have := ha.2 x hx; omega⟩
      exact k D H' ns hD e1 hL ha' (asc_len n4 ns ha')
/-! ### texts of signatures -/
theorem len_app (x y : Str) : (x ++ y).length = x.length + y.length := by rw [len_tl, tl_append, List.length_append, ← len_tl, ← len_tl]
theorem th_str {H : Hp} {z : Str} (h : z.length ≤ 2000) : Th H (.str z) := .inl ⟨z, rfl, h⟩
def strI (n : Int) : Str := Str.ofString (toString n)
def partsOf (z : Str) (n : Int) (ns : List Int) : List Str := "fun" :: z :: strI n :: ns.map strI
def textOf (z : Str) (n : Int) (ns : List Int) : Str := Txt.join " " (partsOf z n ns)
theorem lgI {k : Int} (k0 : 0 ≤ k) (k1 : k < 100) : k.natAbs.log2 < 1920 := by
  have h1 : k.natAbs < 2 ^ 1920 := Nat.lt_of_lt_of_le (show k.natAbs < 128 by omega) (by decide +kernel)
  by_cases hz : k.natAbs = 0
  · rw [hz]
    decide
  · exact (Nat.log2_lt hz).mpr h1
theorem lenI {k : Int} (k0 : 0 ≤ k) (k1 : k < 100) : (strI k).length ≤ 2 := by
  have := (num_ok k0 k1).2.2
  rw [len_tl]
  exact this
theorem sum_le (zs : List Str) (b : Nat) (h : ∀ z ∈ zs, z.length ≤ b) : (zs.map (·.length)).sum ≤ zs.length * b := by
  induction zs with
  | nil => exact Nat.zero_le _
  | cons z r ih =>
    have h1 := h z List.mem_cons_self
    have h2 := ih fun y hy => h y (List.mem_cons_of_mem _ hy)
    rw [List.map_cons, List.sum_cons, List.length_cons, Nat.add_mul]
    omega
def spText (K : PySem.W.Frag) (C : Addr) : Sp := fun vs H Q _ => ∃ a z n ns, vs = [.ref a] ∧ Sig K C H a z n ns ∧ z.length ≤ 2000 ∧ 0 ≤ n ∧ n < 100 ∧ (∀ m ∈ ns, 0 ≤ m ∧ m < 100) ∧ ns.length ≤ 1000 ∧ ∀ H', Ex H H' → Q (.str (textOf z n ns)) H'
theorem ok_sig_text (T : Tx K mg A) : FnOk P w K mg base CX0 1 A.sig_text A.d_sig_text p_sig_text (spText K A.Signature) := by
  refine T.F_sig_text.ok sc_sig_text (fun vs H Q E h => ?_) (fun cdv Ar outer s H vs Q E hr h => ?_)
  · obtain ⟨a, z, n, ns, rfl, _⟩ := h
    rfl
  · obtain ⟨a, z, n, ns, rfl, ⟨dx, t, ha, ht⟩, hz, n0, n1, hns, hl, k⟩ := h
    refine ⟨_, (pss_cons (ps_setLc (i := 1) (own := [("source", 2)]) (g := gName 2) (tt := tYes) rfl sc_sig_text.nd rfl rfl (sw_true rfl rfl rfl (by decide +kernel)) (pi_tup (pe_fld (pv 0) rfl)) (blkOk_by (N := n_sig_text) (sc := defScope s_sig_text) (by decide +kernel)) (fun _ _ _ _ _ => pg_name (i := 2) sc_sig_text.nd rfl (Or.inl rfl)) (fun _ _ _ _ _ => pts_nil) (fun _ _ _ _ _ => (pe_callTy call_str_int (by rfl) T.m_str (by decide +kernel) (pa_cons (pv 2) pa_nil))))
      (pss_one (ps_ret (pe_bm PySem.F.plainAttrs_str PySem.F.slot_str_join PySem.F.type_str_join mt_join pe_str (pa_cons (pe_lst (pa_cons pe_str (pa_cons (pe_fld (pv 0) rfl) (pa_cons (pe_callTy call_str_int (by rfl) T.m_str (by decide +kernel) (pa_cons (pe_fld (pv 0) rfl) pa_nil)) (pa_star (pv 1) pa_nil))))) pa_nil))))), ?_⟩
    refine ⟨_, rfl, a, _, dx, _, _, rfl, ha, T.cl_Signature, T.na_Signature_sources, f_sources _ _ _, t, rfl, ⟨_, ht⟩, fun D hD => ?_⟩
    refine lc_map (K := K) (xs := ns.map V.int) (f := fun v => match v with | .int m => .str (strI m) | _ => .non) walk_tup (by rw [List.length_map]; omega) hD (fun H' e => ex_t e ht) (fun _ => rfl) (fun x H' hx e Q' q => ?_) ?_
    · obtain ⟨m, hm, rfl⟩ := List.mem_map.mp hx
      exact ⟨_, rfl, m, rfl, lgI (hns m hm).1 (hns m hm).2, q⟩
    rw [List.map_map, show (List.map ((fun v => match v with | .int m => .str (strI m) | _ => .non) ∘ V.int) ns : List V) = (ns.map strI).map V.str by rw [List.map_map]; rfl]
    have e1 := Ex.new (o := .lst ((ns.map strI).map V.str)) hD
    have ha1 := e1 _ _ ha
    refine ⟨rfl, _, rfl, a, _, dx, _, _, rfl, ha1, T.cl_Signature, T.na_Signature_name, f_name _ _ _, _, rfl, a, _, dx, _, _, rfl, ha1, T.cl_Signature, T.na_Signature_count, f_count _ _ _, n, rfl, lgI n0 n1, _, rfl, D, _, rfl, .inr (SqL.of upd_same), ?_⟩
    refine ⟨sz_of (by rw [List.append_nil]; show (ns.map strI |>.map V.str).length + 1 + 1 + 1 ≤ 100000; rw [List.length_map, List.length_map]; omega), fun p hp => ?_⟩
    refine ⟨" ", p, partsOf z n ns, rfl, rfl, .inl (SqL.of (by rw [upd_same, List.append_nil]; rfl)), ?_, k _ (e1.trans (Ex.new hp))⟩
    have h1 : ((partsOf z n ns).map (·.length)).sum ≤ (partsOf z n ns).length * 2000 := sum_le _ _ fun w hw => by
      rcases List.mem_cons.mp hw with rfl | hw
      · decide
      · rcases List.mem_cons.mp hw with rfl | hw
        · exact hz
        · rcases List.mem_cons.mp hw with rfl | hw
          · exact Nat.le_trans (lenI n0 n1) (by decide)
          · obtain ⟨m, hm, rfl⟩ := List.mem_map.mp hw
            exact Nat.le_trans (lenI (hns m hm).1 (hns m hm).2) (by decide)
    have h2 : (partsOf z n ns).length ≤ 1003 := by
      show (ns.map strI).length + 1 + 1 + 1 ≤ 1003
      rw [List.length_map]
      omega
    have h3 : (partsOf z n ns).length * 2000 ≤ 1003 * 2000 := Nat.mul_le_mul_right _ h2
    show ((partsOf z n ns).map (·.length)).sum + (partsOf z n ns).length * 1 ≤ 16777216
    omega
/-! ### reading -/
def numS : List Str := ["0", "1", "2", "3", "4"]
def valS (w : Str) : Int := (((tl w).headD 48 - 48 : Nat) : Int)
theorem numS_int : ∀ w ∈ numS, PySem.intText? w = some (valS w) ∧ w.length = 1 ∧ 0 ≤ valS w ∧ valS w ≤ 4 ∧ strI (valS w) = w := by
  intro w hw
  simp only [numS, List.mem_cons, List.not_mem_nil, or_false] at hw
  rcases hw with rfl | rfl | rfl | rfl | rfl <;> exact ⟨by decide +kernel, by decide +kernel, by decide +kernel, by decide +kernel, by decide +kernel⟩
theorem inV_strs (w : Str) (zs : List Str) : inV (.str w) (zs.map V.str) = decide (w ∈ zs) := by
  unfold inV
  rw [List.any_map]
  by_cases h : w ∈ zs
  · rw [decide_eq_true h, List.any_eq_true]
    exact ⟨w, h, by show (w == w) = true; exact beq_self_eq_true w⟩
  · rw [decide_eq_false h, List.any_eq_false]
    intro y hy e
    have e1 : (y == w) = true := e
    exact h (by rw [← (beq_iff_eq.mp e1)]; exact hy)
theorem numV : k_NUMERALS = numS.map V.str := rfl
open Classical in
/-- the parts of a line's words, where they are those of a signature -/
noncomputable def rdP : List Str → Option (Str × Int × List Int)
  | w0 :: w1 :: w2 :: r => if w0 = "fun" ∧ (∀ w ∈ w2 :: r, w ∈ numS) ∧ sigOk (.str w1) (.int (valS w2)) (some ((r.map valS).map V.int)) = true then some (w1, valS w2, r.map valS) else none
  | _ => none
theorem rdP_no {w0 w1 w2 : Str} {r : List Str} (h : ¬ (w0 = "fun" ∧ (∀ w ∈ w2 :: r, w ∈ numS) ∧ sigOk (.str w1) (.int (valS w2)) (some ((r.map valS).map V.int)) = true)) : rdP (w0 :: w1 :: w2 :: r) = none := if_neg h
theorem rdP_yes {w0 w1 w2 : Str} {r : List Str} (h : w0 = "fun" ∧ (∀ w ∈ w2 :: r, w ∈ numS) ∧ sigOk (.str w1) (.int (valS w2)) (some ((r.map valS).map V.int)) = true) : rdP (w0 :: w1 :: w2 :: r) = some (w1, valS w2, r.map valS) := if_pos h
theorem part_len (y : Str) : ∀ parts : List Str, (∀ w ∈ parts, w.length ≤ (Str.join y parts).length) ∧ parts.length ≤ (Str.join y parts).length * 1 + (if y.length = 0 then parts.length else 1)
  | [] => ⟨fun _ h => (nomatch h), Nat.zero_le _⟩
  | [p] => ⟨fun w hw => by rw [List.mem_singleton.mp hw]; exact Nat.le_refl _, by
    show 1 ≤ _
    split
    · show 1 ≤ _ + 1
      omega
    · omega⟩
  | p :: q :: r => by
    obtain ⟨h1, h2⟩ := part_len y (q :: r)
    have e : (Str.join y (p :: q :: r)).length = p.length + y.length + (Str.join y (q :: r)).length := by
      show (p ++ y ++ Str.join y (q :: r)).length = _
      rw [len_app, len_app]
    refine ⟨fun w hw => ?_, ?_⟩
    · rcases List.mem_cons.mp hw with rfl | hw
      · omega
      · have := h1 w hw
        omega
    · rw [e, List.length_cons]
      split at h2
      · rename_i hy
        rw [if_pos hy, List.length_cons]
        omega
      · rename_i hy
        rw [if_neg hy]
        omega
theorem words_ok (line : Str) : (∀ w ∈ Txt.split line " ", w.length ≤ line.length) ∧ (Txt.split line " ").length ≤ line.length + 1 := by
  obtain ⟨h1, h2⟩ := part_len " " (Txt.split line " ")
  rw [StrLaws.join_split] at h1 h2
  exact ⟨h1, by have : ¬ (" " : Str).length = 0 := by decide
                rw [if_neg this] at h2
                omega⟩
def spRead (K : PySem.W.Frag) (C E' : Addr) : Sp := fun vs H Q E => ∃ line, vs = [.str line] ∧ line.length ≤ 2000 ∧
  (∀ z n ns, rdP (Txt.split line " ") = some (z, n, ns) → ∀ a H', Ex H H' → Sig K C H' a z n ns → Q (.ref a) H') ∧
  (rdP (Txt.split line " ") = none → ∀ d H', Ex H H' → H' d = some (.xd [("what", .str line)]) → E (.ref E') (some d) H')
theorem ok_sig_read (T : Tx K mg A) : FnOk P w K mg base (L2.CX P w) 7 A.sig_read A.d_sig_read p_sig_read (spRead K A.Signature A.InvalidSignature) := by
  refine T.F_sig_read.okX sc_sig_read (fun vs H Q E h => ?_) (fun cdv Ar outer s H vs Q E hr h => ?_)
  · obtain ⟨line, rfl, _⟩ := h
    rfl
  · obtain ⟨line, rfl, hlen, k1, k2⟩ := h
    obtain ⟨mv, kb_sig_init_2⟩ := T.F_sig_init.kbinds0 (ps := p_sig_init) 3 ["sources"] [] (fun us _ ws => us ++ ws) (by simp) (fun q h => (nomatch h)) (fun a _ c => a.append c) (fun D doc pm an cdv ct us mv ws h1 h2 h3 => by
      match us, h1, mv, h2, ws, h3 with
      | [_, _, _], _, [], _, [_], _ => exact rfl)
    refine ⟨_, (pss_cons (ps_set (i := 1) sc_sig_read.nd rfl (Or.inl rfl) (pe_bm PySem.F.plainAttrs_str PySem.F.slot_str_split PySem.F.type_str_split mt_split (pv 0) (pa_cons pe_str pa_nil)))
      (pss_cons (ps_setLc (i := 2) (own := [("word", 3)]) (g := gName 3) rfl sc_sig_read.nd rfl rfl (sw_true rfl rfl rfl (by decide +kernel)) (pi_list (pe_slice sl_list (pv 1) (po_some pe_int) po_none)) (blkOk_by (N := n_sig_read) (sc := defScope s_sig_read) (by decide +kernel)) (fun _ _ _ _ _ => pg_name (i := 3) sc_sig_read.nd rfl (Or.inl rfl)) (fun _ _ _ _ _ => pts_one (pt_cmpR (show OpR _ _ (rIn K false) from op_in_seq) (pv 3) (pe_glob (v := .ref A.NUMERALS) (by rfl) T.c_NUMERALS rfl) (by rfl))) (fun _ _ _ _ _ => (pe_callTy call_int_str (by rfl) T.m_int (by decide +kernel) (pa_cons (pv 3) pa_nil))))
      (pss_cons (ps_if (PW.pt (pw_or (pt_cmpR op_lt (pe_callB call_len_seq (by rfl) T.m_len PySem.boot_len (pa_cons (pv 1) pa_nil)) pe_int (nomark _)) (pw_or (pt_cmpR op_ne (pe_ix ix_list (pv 1) pe_int (fun _ _ => rfl)) pe_str (nomark _)) (pw_or1 (pt_cmpR op_lt (pe_callB call_len_seq (by rfl) T.m_len PySem.boot_len (pa_cons (pv 2) pa_nil)) (pe_op op_sub (pe_callB call_len_seq (by rfl) T.m_len PySem.boot_len (pa_cons (pv 1) pa_nil)) pe_int) (nomark _)))))) (pss_one (ps_raise rfl (takes_of rfl rfl rfl rfl) (pmk_oex T.ex_InvalidSignature.ox T.ex_InvalidSignature.ii T.ti_lives_init (ok_lives_init T) (hr.mono (by decide)) T.b_lives_init .nil pass0 (by rfl) T.g_InvalidSignature (pa_cons (pv 0) pa_nil)))) pss_nil)
      (pss_cons (ps_if (pt_not (pt_val (pe_call (ok_is_signature T) (hr.mono (by decide)) (by rfl) T.g_is_signature T.F_is_signature.kp T.b_is_signature .nil pass0 (pa_cons (pe_ix ix_list (pv 1) pe_int (fun _ _ => rfl)) (pa_cons (pe_ix ix_list (pv 2) pe_int (fun _ _ => rfl)) (pa_cons (pe_slice sl_list (pv 2) (po_some pe_int) po_none) pa_nil)))))) (pss_one (ps_raise rfl (takes_of rfl rfl rfl rfl) (pmk_oex T.ex_InvalidSignature.ox T.ex_InvalidSignature.ii T.ti_lives_init (ok_lives_init T) (hr.mono (by decide)) T.b_lives_init .nil pass0 (by rfl) T.g_InvalidSignature (pa_cons (pv 0) pa_nil)))) pss_nil)
      (pss_one (ps_ret (pe_makeK (n := 2) T.mk_Signature (ok_sig_init T) (hr.mono (by decide)) (by rfl) T.g_Signature kb_sig_init_2 passL (pa_cons (pe_ix ix_list (pv 1) pe_int (fun _ _ => rfl)) (pa_cons (pe_ix ix_list (pv 2) pe_int (fun _ _ => rfl)) pa_nil)) (pk_cons (pe_slice sl_list (pv 2) (po_some pe_int) po_none) pk_nil)))))))), ?_⟩
    obtain ⟨wl, wn⟩ := words_ok line
    refine ⟨_, rfl, rfl, _, _, rfl, rfl, by decide, sz_of (by omega), fun p hp => ?_⟩
    generalize Txt.split line " " = ws at *
    have e1 := Ex.new (o := .lst (ws.map V.str)) hp
    refine ⟨_, rfl, 2, rfl, p, _, rfl, SqL.of upd_same, fun q hq => ?_⟩
    have hcut : cutV (ws.map V.str) (some 2) none = (ws.drop 2).map V.str := by
      rw [show (some 2 : Option Int) = some ((2 : Nat) : Int) from rfl, cut_from, List.map_drop]
    rw [hcut]
    have e2 := Ex.new (o := .lst ((ws.drop 2).map V.str)) hq
    refine ⟨q, rfl, ⟨_, SqL.of upd_same⟩, fun D hD => ?_⟩
    refine lc_filter (K := K) (xs := (ws.drop 2).map V.str) (p := fun v => match v with | .str w => decide (w ∈ numS) | _ => false) (f := fun v => match v with | .str w => .int (valS w) | _ => .non) walk_list
      (by rw [List.length_map, List.length_drop]; omega) hD (fun H' e => SqL.of (e _ _ upd_same)) (fun _ => rfl) (fun x H' hx e Q' k => ?_) (fun x H' hx hpx e Q' k => ?_) ?_
    · obtain ⟨w, hw, rfl⟩ := List.mem_map.mp hx
      refine ⟨_, rfl, A.NUMERALS, k_NUMERALS, rfl, .inr (T.q_NUMERALS _), rfl, by decide, _, rfl, ?_⟩
      show Q' (inV (.str w) k_NUMERALS) H'
      rw [numV, inV_strs]
      exact k
    · obtain ⟨w, hw, rfl⟩ := List.mem_map.mp hx
      have hm : w ∈ numS := of_decide_eq_true hpx
      obtain ⟨i1, i2, _⟩ := numS_int w hm
      exact ⟨_, rfl, w, valS w, rfl, i1, by omega, k⟩
    have hlist : ((((ws.drop 2).map V.str).filter fun v => match v with | .str w => decide (w ∈ numS) | _ => false).map fun v => match v with | .str w => V.int (valS w) | _ => .non) = (((ws.drop 2).filter fun w => decide (w ∈ numS)).map valS).map V.int := by
      rw [List.filter_map, List.map_map, List.map_map]
      rfl
    rw [hlist]
    generalize hns : ((ws.drop 2).filter fun w => decide (w ∈ numS)).map valS = ns0
    have e3 := Ex.new (o := .lst (ns0.map V.int)) hD
    have hp3 := e3 _ _ (e2 _ _ (upd_same (H := H) (a := p) (o := .lst (ws.map V.str))))
    have hD3 : upd (upd (upd H p (.lst (ws.map V.str))) q (.lst ((ws.drop 2).map V.str))) D (.lst (ns0.map V.int)) D = some (.lst (ns0.map V.int)) := upd_same
    have e03 := (e1.trans e2).trans e3
    revert hp3 hD3 e03
    generalize upd (upd (upd H p (.lst (ws.map V.str))) q (.lst ((ws.drop 2).map V.str))) D (.lst (ns0.map V.int)) = H1
    intro hp3 hD3 e03
    have fail : ∀ (σ' : L2.St) (H' : Hp), σ'[0]? = some (some (.str line)) → Ex H H' → rdP ws = none → tMkO A.InvalidSignature (spWhat K) [] (tCons (tVar 0) tNil) σ' H' fun cls d H'' => E cls d H'' := fun σ' H' hσ e hn =>
      ⟨_, hσ, (by show 1 ≤ 1000; decide), raise_what T.ex_InvalidSignature rfl fun d H'' e' hd => k2 hn d H'' (e.trans e') hd⟩
    refine ⟨_, rfl, p, _, rfl, .inl (SqL.of hp3), _, 3, rfl, rfl, _, rfl, ite2 (fun h => ?_) (fun h => ?_)⟩
    · refine iteT (fail _ _ rfl e03 ?_)
      have h1 : (((ws.map V.str).length : Nat) : Int) < 3 := of_decide_eq_true h
      rw [List.length_map] at h1
      match ws, h1 with
      | [], _ => rfl
      | [_], _ => rfl
      | [_, _], _ => rfl
      | _ :: _ :: _ :: r, h1 =>
        rw [List.length_cons, List.length_cons, List.length_cons] at h1
        omega
    have h1 : ¬ (((ws.map V.str).length : Nat) : Int) < 3 := fun q => h (decide_eq_true q)
    rw [List.length_map] at h1
    obtain ⟨w0, wa, wb, r, rfl⟩ : ∃ w0 wa wb r, ws = w0 :: wa :: wb :: r := by
      match ws, h1 with
      | [], h1 => exact absurd (show ((0 : Nat) : Int) < 3 by decide) h1
      | [_], h1 => exact absurd (show ((1 : Nat) : Int) < 3 by decide) h1
      | [_, _], h1 => exact absurd (show ((2 : Nat) : Int) < 3 by decide) h1
      | w0 :: wa :: wb :: r, _ => exact ⟨w0, wa, wb, r, rfl⟩
    refine ⟨_, rfl, p, _, 0, .str w0, rfl, rfl, SqL.of hp3, atI_nat (j := 0) rfl, rfl, _, rfl, ?_⟩
    by_cases hf : w0 = "fun"
    case neg =>
      rw [decide_eq_false (show ¬ V.str w0 = V.str "fun" from fun q => hf (V.str.inj q))]
      exact iteT (iteT (fail _ _ rfl e03 (rdP_no fun q => hf q.1)))
    rw [decide_eq_true (show V.str w0 = V.str "fun" by rw [hf])]
    refine iteF ?_
    refine ⟨_, rfl, D, _, rfl, .inl (SqL.of hD3), _, rfl, p, _, rfl, .inl (SqL.of hp3), _, 2, rfl, rfl, _, _, rfl, rfl, _, rfl, ?_⟩
    by_cases hall : ∀ w ∈ wb :: r, w ∈ numS
    case neg =>
      have hlt : ((ns0.map V.int).length : Int) < (((w0 :: wa :: wb :: r).map V.str).length : Int) - 2 := by
        rw [List.length_map, List.length_map, ← hns, List.length_map]
        have h2 : ((wb :: r).filter fun w => decide (w ∈ numS)).length < (wb :: r).length := by
          refine Nat.lt_of_le_of_ne (List.length_filter_le _ _) fun q => hall fun w hw => ?_
          have := (List.length_filter_eq_length_iff.mp q) w hw
          exact of_decide_eq_true this
        show ((((wb :: r).filter fun w => decide (w ∈ numS)).length : Nat) : Int) < (((wb :: r).length + 1 + 1 : Nat) : Int) - 2
        omega
      rw [decide_eq_true hlt]
      exact iteT (fail _ _ rfl e03 (rdP_no fun q => hall q.2.1))
    have hns2 : ns0 = valS wb :: r.map valS := by
      rw [← hns]
      show ((wb :: r).filter fun w => decide (w ∈ numS)).map valS = _
      rw [List.filter_eq_self.mpr (fun w hw => decide_eq_true (hall w hw))]
      rfl
    subst hns2
    have hge : ¬ (((valS wb :: r.map valS).map V.int).length : Int) < (((w0 :: wa :: wb :: r).map V.str).length : Int) - 2 := by
      rw [List.length_map, List.length_map, List.length_cons, List.length_map, List.length_cons, List.length_cons, List.length_cons]
      omega
    rw [decide_eq_false hge]
    refine iteF ?_
    have hwa : wa.length ≤ 2000 := Nat.le_trans (wl wa (by simp)) hlen
    have hrl : r.length ≤ 50 ∨ 50 < r.length := by omega
    have cutn : cutV ((valS wb :: r.map valS).map V.int) (some 1) none = (r.map valS).map V.int := by
      rw [cut_one]
      rfl
    have th : ∀ {H' : Hp} {ms : List Int}, ∀ x ∈ ms.map V.int, Th H' x := fun x hx => by
      obtain ⟨m, _, rfl⟩ := List.mem_map.mp hx
      exact .inr (.inr (.inr (.inl ⟨m, rfl⟩)))
    have thn : ∀ {n : Int} {H' : Hp}, Th H' (.int n) := .inr (.inr (.inr (.inl ⟨_, rfl⟩)))
    refine ⟨_, rfl, p, _, 1, .str wa, rfl, rfl, SqL.of hp3, atI_nat (j := 1) rfl, _, rfl, D, _, 0, .int (valS wb), rfl, rfl, SqL.of hD3, atI_nat (j := 0) rfl, _, rfl, 1, rfl, D, _, rfl, SqL.of hD3, fun u hu => ?_⟩
    rw [cutn]
    have e4 := Ex.new (o := .lst ((r.map valS).map V.int)) hu
    refine ⟨.str wa, .int (valS wb), .ref u, some ((r.map valS).map V.int), rfl, th_str hwa, thn, ⟨⟨u, rfl, .inl upd_same⟩, th, ?_⟩, fun H2 e5 => ⟨_, rfl, ?_⟩⟩
    · rw [List.length_map, List.length_map]
      rw [List.length_cons, List.length_cons, List.length_cons] at wn
      omega
    have e45 := e4.trans e5
    cases hb : sigOk (.str wa) (.int (valS wb)) (some ((r.map valS).map V.int)) with
    | false =>
      exact iteT (fail _ _ rfl (e03.trans e45) (rdP_no fun q => by rw [hb] at q; cases q.2.2))
    | true =>
      refine iteF ?_
      have hp6 := e45 _ _ hp3
      have hD6 := e45 _ _ hD3
      refine ⟨_, rfl, p, _, 1, .str wa, rfl, rfl, SqL.of hp6, atI_nat (j := 1) rfl, _, rfl, D, _, 0, .int (valS wb), rfl, rfl, SqL.of hD6, atI_nat (j := 0) rfl, _, rfl, 1, rfl, D, _, rfl, SqL.of hD6, fun v hv => ?_⟩
      rw [cutn]
      have e7 := Ex.new (o := .lst ((r.map valS).map V.int)) hv
      refine ⟨rfl, rfl, fun x dx hx hdx ne => ?_⟩
      have e8 := made_in (C := A.Signature) hx hdx
      refine ⟨x, dx, .str wa, .int (valS wb), .ref v, some ((r.map valS).map V.int), rfl, upd_same, rfl, th_str hwa, thn, ⟨⟨v, rfl, .inl (e8 _ _ upd_same)⟩, th, ?_⟩, fun _ H7 t e9 h7 ht7 => ⟨rfl, ?_⟩, fun h => by rw [hb] at h; cases h⟩
      · rw [List.length_map, List.length_map]
        rw [List.length_cons, List.length_cons, List.length_cons] at wn
        omega
      have e10 := made_ex hx hdx e9
      exact k1 wa (valS wb) (r.map valS) (rdP_yes ⟨hf, hall, hb⟩) x H7 (((e03.trans e45).trans e7).trans e10) ⟨dx, t, h7, ht7⟩
/-! ### the law's own lines -/
def spSign : Sp := fun vs H Q _ => ∃ d, vs = [.ref d] ∧ H d = some (DrO d) ∧ ∀ c, Q (.str ⟨#[c]⟩) H
theorem ok_sign (T : Tx K mg A) : FnOk P w K mg base CX0 2 A.sign A.d_sign p_sign spSign := by
  refine T.F_sign.ok sc_sign (fun vs H Q E h => ?_) (fun cdv Ar outer s H vs Q E hr h => ?_)
  · obtain ⟨d, rfl, _⟩ := h
    rfl
  · obtain ⟨d, rfl, hd, k⟩ := h
    refine ⟨_, (pss_one (ps_ret (pe_ix ix_str pe_str (pe_call (ok_take T) (hr.mono (by decide)) (by rfl) T.g_take T.F_take.kp T.b_take .nil pass0 (pa_cons (pv 0) (pa_cons pe_int pa_nil))) (fun _ _ => rfl)))), ?_⟩
    refine ⟨.ref d, rfl, d, _, rfl, hd, by decide, fun n h0 h1 => ?_⟩
    obtain ⟨c, hc⟩ := at_lt (xs := tl "  0123456789afnu-+.A\n()=_") h0 (show n < 25 from h1)
    exact ⟨_, n, c, rfl, rfl, by decide, hc, k c⟩
theorem one_len (c : Nat) : (⟨#[c]⟩ : Str).length = 1 := rfl
def spSpoilt : Sp := fun vs H Q _ => ∃ d z, vs = [.ref d, .str z] ∧ H d = some (DrO d) ∧ z.length ≤ 400 ∧ ∀ y : Str, y.length ≤ 2 * z.length + 2 → Q (.str y) H
theorem ok_spoilt_line (T : Tx K mg A) : FnOk P w K mg base CX0 3 A.spoilt_line A.d_spoilt_line p_spoilt_line spSpoilt := by
  refine T.F_spoilt_line.ok sc_spoilt_line (fun vs H Q E h => ?_) (fun cdv Ar outer s H vs Q E hr h => ?_)
  · obtain ⟨d, z, rfl, _⟩ := h
    rfl
  · obtain ⟨d, z, rfl, hd, hz, k⟩ := h
    refine ⟨_, (pss_cons (ps_set (i := 2) sc_spoilt_line.nd rfl (Or.inl rfl) (pe_call (ok_take T) (hr.mono (by decide)) (by rfl) T.g_take T.F_take.kp T.b_take .nil pass0 (pa_cons (pv 0) (pa_cons pe_int pa_nil))))
      (pss_cons (ps_set (i := 3) sc_spoilt_line.nd rfl (Or.inl rfl) (pe_call (ok_take T) (hr.mono (by decide)) (by rfl) T.g_take T.F_take.kp T.b_take .nil pass0 (pa_cons (pv 0) (pa_cons (pe_op op_add (pe_callB call_len_str (by rfl) T.m_len PySem.boot_len (pa_cons (pv 1) pa_nil)) pe_int) pa_nil))))
      (pss_cons (ps_if (pt_cmpR op_eq (pv 2) pe_int (nomark _)) (pss_one (ps_ret (pe_op op_add_str (pe_slice sl_str (pv 1) po_none (po_some (pv 3))) (pe_slice sl_str (pv 1) (po_some (pe_op op_add (pv 3) pe_int)) po_none)))) pss_nil)
      (pss_cons (ps_if (pt_cmpR op_eq (pv 2) pe_int (nomark _)) (pss_one (ps_ret (pe_op op_add_str (pe_slice sl_str (pv 1) po_none (po_some (pe_op op_add (pv 3) pe_int))) (pe_slice sl_str (pv 1) (po_some (pv 3)) po_none)))) pss_nil)
      (pss_cons (ps_if (pt_cmpR op_eq (pv 2) pe_int (nomark _)) (pss_one (ps_ret (pe_op op_add_str (pe_op op_add_str (pe_slice sl_str (pv 1) po_none (po_some (pv 3))) (pe_call (ok_sign T) (hr.mono (by decide)) (by rfl) T.g_sign T.F_sign.kp T.b_sign .nil pass0 (pa_cons (pv 0) pa_nil))) (pe_slice sl_str (pv 1) (po_some (pe_op op_add (pv 3) pe_int)) po_none)))) pss_nil)
      (pss_cons (ps_if (pt_cmpR op_eq (pv 2) pe_int (nomark _)) (pss_one (ps_ret (pe_op op_add_str (pe_op op_add_str (pe_slice sl_str (pv 1) po_none (po_some (pv 3))) (pe_call (ok_sign T) (hr.mono (by decide)) (by rfl) T.g_sign T.F_sign.kp T.b_sign .nil pass0 (pa_cons (pv 0) pa_nil))) (pe_slice sl_str (pv 1) (po_some (pv 3)) po_none)))) pss_nil)
      (pss_cons (ps_if (pt_cmpR op_eq (pv 2) pe_int (nomark _)) (pss_one (ps_ret (pe_op op_add_str (pe_op op_add_str (pv 1) pe_str) (pe_call (ok_sign T) (hr.mono (by decide)) (by rfl) T.g_sign T.F_sign.kp T.b_sign .nil pass0 (pa_cons (pv 0) pa_nil))))) pss_nil)
      (pss_one (ps_ret (pv 1)))))))))), ?_⟩
    refine ⟨_, rfl, d, _, rfl, hd, by decide, fun c c0 c1 => ?_⟩
    refine ⟨_, rfl, _, rfl, z, rfl, sz_of (by omega), _, _, rfl, rfl, d, _, rfl, hd, by omega, fun a a0 a1 => ?_⟩
    have cl := fun lo hi => cutS_length z lo hi
    refine ⟨_, rfl, rfl, _, rfl, ite2 (fun _ => ?_) (fun _ => ?_)⟩
    · have h1 := cl none (some a)
      have h2 := cl (some (a + 1)) none
      exact ⟨_, rfl, _, rfl, _, rfl, z, rfl, sz_of (by omega), _, rfl, _, rfl, a, 1, rfl, rfl, _, rfl, z, rfl, sz_of (by omega), _, _, rfl, rfl, sz_of (by omega), k _ (by rw [len_app]; omega)⟩
    refine ⟨_, rfl, rfl, _, rfl, ite2 (fun _ => ?_) (fun _ => ?_)⟩
    · have h1 := cl none (some (a + 1))
      have h2 := cl (some a) none
      exact ⟨_, rfl, _, rfl, a, 1, rfl, rfl, _, rfl, z, rfl, sz_of (by omega), _, rfl, _, rfl, _, rfl, z, rfl, sz_of (by omega), _, _, rfl, rfl, sz_of (by omega), k _ (by rw [len_app]; omega)⟩
    refine ⟨_, rfl, rfl, _, rfl, ite2 (fun _ => ?_) (fun _ => ?_)⟩
    · have h1 := cl none (some a)
      have h2 := cl (some (a + 1)) none
      exact ⟨_, rfl, _, rfl, _, rfl, z, rfl, sz_of (by omega), _, rfl, d, rfl, hd, fun s => ⟨_, _, rfl, rfl, sz_of (by rw [one_len]; omega), _, rfl, _, rfl, a, 1, rfl, rfl, _, rfl, z, rfl, sz_of (by omega), _, _, rfl, rfl, sz_of (by rw [len_app, one_len]; omega), k _ (by rw [len_app, len_app, one_len]; omega)⟩⟩
    refine ⟨_, rfl, rfl, _, rfl, ite2 (fun _ => ?_) (fun _ => ?_)⟩
    · have h1 := cl none (some a)
      have h2 := cl (some a) none
      exact ⟨_, rfl, _, rfl, _, rfl, z, rfl, sz_of (by omega), _, rfl, d, rfl, hd, fun s => ⟨_, _, rfl, rfl, sz_of (by rw [one_len]; omega), _, rfl, _, rfl, _, rfl, z, rfl, sz_of (by omega), _, _, rfl, rfl, sz_of (by rw [len_app, one_len]; omega), k _ (by rw [len_app, len_app, one_len]; omega)⟩⟩
    refine ⟨_, rfl, rfl, _, rfl, ite2 (fun _ => ?_) (fun _ => ?_)⟩
    · exact ⟨_, rfl, _, _, rfl, rfl, sz_of (by show z.length + 1 ≤ 100000; omega), _, rfl, d, rfl, hd, fun s => ⟨_, _, rfl, rfl, sz_of (by rw [len_app, one_len]; show z.length + 1 + 1 ≤ 100000; omega), k _ (by rw [len_app, len_app, one_len]; show z.length + 1 + 1 ≤ _; omega)⟩⟩
    exact ⟨_, rfl, k _ (by omega)⟩
def spWordsLine : Sp := fun vs H Q _ => ∃ d z b, vs = [.ref d, .str z, .int b] ∧ H d = some (DrO d) ∧ z.length ≤ 8 ∧ 0 ≤ b ∧ b ≤ 1 ∧ ∀ y : Str, y.length ≤ 80 → ∀ H', Ex H H' → Q (.str y) H'
theorem join_len (zs : List Str) (h : ∀ z ∈ zs, z.length ≤ 8) : (Txt.join " " zs).length ≤ zs.length * 9 := by
  rw [join_eq]
  match zs, h with
  | [], _ => exact Nat.zero_le _
  | [p], h =>
    have := h p (by simp)
    show p.length ≤ 1 * 9
    omega
  | p :: q :: r, h =>
    have h1 := h p (by simp)
    have h2 := join_len (q :: r) fun z hz => h z (List.mem_cons_of_mem _ hz)
    rw [join_eq] at h2
    show (p ++ " " ++ Str.join " " (q :: r)).length ≤ _
    rw [len_app, len_app, List.length_cons]
    show p.length + 1 + _ ≤ _
    omega
theorem ok_words_line (T : Tx K mg A) : FnOk P w K mg base CX0 2 A.words_line A.d_words_line p_words_line spWordsLine := by
  refine T.F_words_line.ok sc_words_line (fun vs H Q E h => ?_) (fun cdv Ar outer s H vs Q E hr h => ?_)
  · obtain ⟨d, z, b, rfl, _⟩ := h
    rfl
  · obtain ⟨d, z, b, rfl, hd, hz, b0, b1, k⟩ := h
    refine ⟨_, (pss_cons (ps_set (i := 3) sc_words_line.nd rfl (Or.inl rfl) (pe_lst pa_nil))
      (pss_cons (ps_for PassesOwn.never rfl (pi_range1 (by rfl) T.m_range (pa_cons (pe_op op_add pe_int (pe_call (ok_take T) (hr.mono (by decide)) (by rfl) T.g_take T.F_take.kp T.b_take .nil pass0 (pa_cons (pv 0) (pa_cons pe_int pa_nil)))) pa_nil)) (pg_name (i := 4) sc_words_line.nd rfl (Or.inl rfl)) (pss_cons (ps_set (i := 5) sc_words_line.nd rfl (Or.inl rfl) (pe_lst (pa_cons pe_str (pa_cons (pv 1) (pa_cons pe_str (pa_cons pe_str (pa_cons pe_str (pa_cons pe_str (pa_cons pe_str (pa_cons pe_str (pa_cons pe_str (pa_cons pe_str (pa_cons pe_str (pa_cons pe_str (pa_cons pe_str (pa_cons pe_str (pa_cons pe_str (pa_cons pe_str pa_nil))))))))))))))))))
        (pss_cons (ps_set (i := 6) sc_words_line.nd rfl (Or.inl rfl) (pe_call (ok_take T) (hr.mono (by decide)) (by rfl) T.g_take T.F_take.kp T.b_take .nil pass0 (pa_cons (pv 0) (pa_cons pe_int pa_nil))))
        (Evl.pss_cut (ps_if (pt_cmpR op_gt (pv 6) pe_int (nomark _)) (pss_one (ps_set (i := 6) sc_words_line.nd rfl (Or.inl rfl) (pe_ix ix_list (pe_lst (pa_cons pe_int (pa_cons pe_int (pa_cons pe_int (pa_cons pe_int (pa_cons pe_int (pa_cons pe_int (pa_cons pe_int (pa_cons pe_int (pa_cons pe_int pa_nil)))))))))) (pe_op op_add (pv 2) (pv 4)) (fun _ _ => rfl)))) pss_nil)
        (pss_one (ps_expr (pe_bm PySem.F.plainAttrs_list PySem.F.slot_list_append PySem.F.type_list_append mt_append (pv 3) (pa_cons (pe_ix ix_list (pv 5) (pv 6) (fun _ _ => rfl)) pa_nil))))))))
      (pss_one (ps_ret (pe_bm PySem.F.plainAttrs_str PySem.F.slot_str_join PySem.F.type_str_join mt_join pe_str (pa_cons (pv 3) pa_nil)))))), ?_⟩
    refine ⟨by decide, fun q hq => ?_⟩
    have e1 := Ex.new (o := .lst []) hq
    refine ⟨_, rfl, d, _, rfl, e1 _ _ hd, by decide, fun m m0 m1 => ⟨1, m, rfl, rfl, 1 + m, rfl, forR1 ⟨by omega, by omega⟩ (fun i σ H' => (∃ v4 v5 v6, σ = [some (.ref d), some (.str z), some (.int b), some (.ref q), v4, v5, v6]) ∧ Ex H H' ∧ ∃ zs : List Str, H' q = some (.lst (zs.map V.str)) ∧ zs.length = i ∧ ∀ y ∈ zs, y.length ≤ 8) ⟨⟨none, none, none, rfl⟩, e1, [], upd_same, rfl, fun _ h => (nomatch h)⟩ ?_ ?_⟩⟩
    · rintro i σ' H' hi ⟨⟨v4, v5, v6, rfl⟩, e, zs, hL, hl, hy⟩
      refine ⟨_, rfl, sz_of (by show 16 ≤ 100000; decide), fun p hp => ?_⟩
      let someS : List Str := ["fun", z, "0", "1", "2", "3", "4", "5", "6", "7", "8", "9", "f", "", "10", "end"]
      have e2 := Ex.new (o := .lst (someS.map V.str)) hp
      have hsome : ∀ y ∈ someS, y.length ≤ 8 := by
        intro y hy
        simp only [someS, List.mem_cons, List.not_mem_nil, or_false] at hy
        rcases hy with rfl | rfl | rfl | rfl | rfl | rfl | rfl | rfl | rfl | rfl | rfl | rfl | rfl | rfl | rfl | rfl <;> first | exact hz | decide
      have hp1 : upd H' p (.lst (someS.map V.str)) p = some (.lst (someS.map V.str)) := upd_same
      have hd1 := e2 _ _ (e _ _ hd)
      have hL1 := e2 _ _ hL
      have ee := e.trans e2
      show tSeq _ _ _ _ (upd H' p (.lst (someS.map V.str)))
      revert hp1 hd1 hL1 ee
      generalize upd H' p (.lst (someS.map V.str)) = H1
      intro hp1 hd1 hL1 ee
      refine ⟨_, rfl, d, _, rfl, hd1, by decide, fun a a0 a1 => ?_⟩
      refine ⟨fun σ' H2 => ∃ a : Int, 0 ≤ a ∧ a < 16 ∧ σ' = [some (.ref d), some (.str z), some (.int b), some (.ref q), some (.int (i : Int)), some (.ref p), some (.int a)] ∧ Ex H1 H2, ?_, ?_⟩
      · refine ⟨_, rfl, a, 15, rfl, rfl, _, rfl, ite2 (fun h => ?_) (fun h => ?_)⟩
        · refine ⟨sz_of (by show 9 ≤ 100000; decide), fun u hu => ?_⟩
          obtain ⟨x, hx, hm⟩ := at_in (xs := ([0, 1, 6, 3, 4, 5, 6, 7, 8] : List Int)) (n := b + (i : Int)) (by omega) (by show b + (i : Int) < 9; omega)
          have hx' : atI [V.int 0, V.int 1, V.int 6, V.int 3, V.int 4, V.int 5, V.int 6, V.int 7, V.int 8] (b + (i : Int)) = some (.int x) := by
            obtain ⟨j, hj⟩ := Int.eq_ofNat_of_zero_le (show 0 ≤ b + (i : Int) by omega)
            rw [hj] at hx ⊢
            have hj9 : j < 9 := by omega
            have h2 : ([0, 1, 6, 3, 4, 5, 6, 7, 8] : List Int)[j]? = some x := by
              rw [← hx]
              rw [atI_nat (List.getElem?_eq_getElem (show j < ([0, 1, 6, 3, 4, 5, 6, 7, 8] : List Int).length from hj9))]
              exact List.getElem?_eq_getElem _
            refine atI_nat ?_
            show (([0, 1, 6, 3, 4, 5, 6, 7, 8] : List Int).map V.int)[j]? = _
            rw [List.getElem?_map, h2]
            rfl
          have hb : 0 ≤ x ∧ x < 16 := by
            have : ∀ x ∈ ([0, 1, 6, 3, 4, 5, 6, 7, 8] : List Int), 0 ≤ x ∧ x < 16 := by decide
            exact this x hm
          exact ⟨_, rfl, _, rfl, b, _, rfl, rfl, u, _, _, _, rfl, rfl, SqL.of upd_same, hx', x, hb.1, hb.2, rfl, Ex.new hu⟩
        · have h1 : ¬ 15 < a := fun q => h (decide_eq_true q)
          exact ⟨a, a0, by omega, rfl, Ex.refl _⟩
      rintro σ' H2 ⟨a, a0, a1, rfl, e3⟩
      obtain ⟨y, hy1, hm⟩ := at_in (xs := someS) a0 (show a < 16 from a1)
      have hy' : atI (someS.map V.str) a = some (.str y) := by
        obtain ⟨j, rfl⟩ := Int.eq_ofNat_of_zero_le a0
        have hj : j < someS.length := by show j < 16; omega
        rw [atI_nat (List.getElem?_eq_getElem hj)] at hy1
        refine atI_nat ?_
        rw [List.getElem?_map, List.getElem?_eq_getElem hj]
        exact congrArg (Option.map V.str) hy1
      have hL2 := e3 _ _ hL1
      refine ⟨_, rfl, .inl ⟨rfl, _, SqL.of hL2⟩, _, rfl, _, rfl, p, _, a, _, rfl, rfl, SqL.of (e3 _ _ hp1), hy', q, _, _, rfl, rfl, hL2, ?_, ⟨_, _, _, rfl⟩, (ee.trans e3).mut hq, zs ++ [y], ?_, ?_, ?_⟩
      · rw [List.length_map]
        exact sz_lt (by omega)
      · rw [upd_same, List.map_append]
        rfl
      · rw [List.length_append, hl]
        rfl
      · intro w hw
        rcases List.mem_append.mp hw with h | h
        · exact hy w h
        · rw [List.mem_singleton.mp h]
          exact hsome y hm
    · rintro σ' H' ⟨⟨v4, v5, v6, rfl⟩, e, zs, hL, hl, hy⟩
      have hj := join_len zs hy
      have hs := sum_le zs 8 hy
      refine ⟨rfl, _, rfl, " ", q, zs, rfl, rfl, .inl (SqL.of hL), ?_, k _ (by omega) H' e⟩
      show (zs.map (·.length)).sum + zs.length * 1 ≤ 16777216
      omega
def digS : List Str := ["0", "1", "2", "3", "4", "5", "6", "7", "8", "9"]
theorem dig_facts : ∀ c ∈ tlD, (⟨#[c]⟩ : Str) ∈ digS ∧ Txt.find "0123456789" ⟨#[c]⟩ = valS ⟨#[c]⟩ := by decide +kernel
theorem num_sign : ∀ w ∈ numS, w.length = 1 ∧ ∀ c ∈ tl w, c ∈ tlD := by decide +kernel
theorem dig_num : ∀ w ∈ digS, valS w ≤ 4 → w ∈ numS := by decide +kernel
theorem dig_val : ∀ w ∈ digS, 0 ≤ valS w := by decide +kernel
theorem num_fresh : ∀ w ∈ numS, strI (valS w) = w ∧ 0 ≤ valS w ∧ valS w < 100 := by decide +kernel
theorem okSrc_le {n : Int} : ∀ (ms : List Int) (l : Int), okSrc n l (ms.map V.int) = true → ∀ m ∈ ms, l ≤ m ∧ m ≤ n
  | [], _, _, _, h => (nomatch h)
  | a :: r, l, h, m, hm => by
    have h' : (inI (.int a) l n && okSrc n (a + 1) (r.map V.int)) = true := h
    rw [Bool.and_eq_true] at h'
    have h1 : (decide (l ≤ a) && decide (a ≤ n)) = true := h'.1
    rw [Bool.and_eq_true] at h1
    have a1 := of_decide_eq_true h1.1
    have a2 := of_decide_eq_true h1.2
    rcases List.mem_cons.mp hm with rfl | hm
    · exact ⟨a1, a2⟩
    · have := okSrc_le r (a + 1) h'.2 m hm
      omega
theorem rdP_some {ws : List Str} {z : Str} {n : Int} {ns : List Int} (h : rdP ws = some (z, n, ns)) :
    ∃ (wb : Str) (r : List Str), ws = ("fun" : Str) :: z :: wb :: r ∧ n = valS wb ∧ ns = r.map valS ∧ (∀ w ∈ wb :: r, w ∈ numS) ∧ sigOk (.str z) (.int n) (some (ns.map V.int)) = true := by
  match ws, h with
  | [], h => cases h
  | [_], h => cases h
  | [_, _], h => cases h
  | w0 :: w1 :: w2 :: r, h =>
    by_cases hc : w0 = "fun" ∧ (∀ w ∈ w2 :: r, w ∈ numS) ∧ sigOk (.str w1) (.int (valS w2)) (some ((r.map valS).map V.int)) = true
    · rw [rdP_yes hc] at h
      cases h
      exact ⟨w2, r, by rw [hc.1], rfl, rfl, hc.2.1, hc.2.2⟩
    · rw [rdP_no hc] at h
      cases h
def spReadSig : Sp := fun vs H Q _ => ∃ line, vs = [.str line] ∧ line.length ≤ 2000 ∧
  (∀ z n ns, rdP (Txt.split line " ") = some (z, n, ns) → ∀ p l H', Ex H H' → H' p = some (.lst [.str z, .int n, .ref l]) → H' l = some (.lst (ns.map V.int)) → Q (.ref p) H') ∧
  (rdP (Txt.split line " ") = none → ∀ H', Ex H H' → Q .non H')
theorem ok_read_signature (T : Tx K mg A) : FnOk P w K mg base CX0 3 A.read_signature A.d_read_signature p_read_signature spReadSig := by
  refine T.F_read_signature.ok sc_read_signature (fun vs H Q E h => ?_) (fun cdv Ar outer s H vs Q E hr h => ?_)
  · obtain ⟨line, rfl, _⟩ := h
    rfl
  · obtain ⟨line, rfl, hlen, k1, k2⟩ := h
    refine ⟨_, (pss_cons (ps_set (i := 1) sc_read_signature.nd rfl (Or.inl rfl) (pe_bm PySem.F.plainAttrs_str PySem.F.slot_str_split PySem.F.type_str_split mt_split (pv 0) (pa_cons pe_str pa_nil)))
      (pss_cons (ps_if (PW.pt (pw_or (pt_cmpR op_lt (pe_callB call_len_seq (by rfl) T.m_len PySem.boot_len (pa_cons (pv 1) pa_nil)) pe_int (nomark _)) (pw_or (pt_cmpR op_ne (pe_ix ix_list (pv 1) pe_int (fun _ _ => rfl)) pe_str (nomark _)) (pw_or1 (pt_not (pt_val (pe_call (ok_lname T) (hr.mono (by decide)) (by rfl) T.g_lname T.F_lname.kp T.b_lname .nil pass0 (pa_cons (pe_ix ix_list (pv 1) pe_int (fun _ _ => rfl)) pa_nil)))))))) (pss_one (ps_ret pe_non)) pss_nil)
      (pss_cons (ps_set (i := 2) sc_read_signature.nd rfl (Or.inl rfl) (pe_lst pa_nil))
      (pss_cons (ps_for PassesOwn.never rfl (pi_list (pe_slice sl_list (pv 1) (po_some pe_int) po_none)) (pg_name (i := 3) sc_read_signature.nd rfl (Or.inl rfl)) (pss_cons (ps_if (PW.pt (pw_or (pt_cmpR op_ne (pe_callB call_len_str (by rfl) T.m_len PySem.boot_len (pa_cons (pv 3) pa_nil)) pe_int (nomark _)) (pw_or1 (pt_cmpR op_notIn_sign (pv 3) pe_str (by rfl))))) (pss_one (ps_ret pe_non)) pss_nil)
        (pss_one (ps_expr (pe_bm PySem.F.plainAttrs_list PySem.F.slot_list_append PySem.F.type_list_append mt_append (pv 2) (pa_cons (pe_bm PySem.F.plainAttrs_str PySem.F.slot_str_find PySem.F.type_str_find mt_find pe_str (pa_cons (pv 3) pa_nil)) pa_nil))))))
      (pss_cons (ps_set (i := 4) sc_read_signature.nd rfl (Or.inl rfl) pe_int)
      (pss_cons (ps_for PassesOwn.never rfl (pi_list (pe_slice sl_list (pv 2) (po_some pe_int) po_none)) (pg_name (i := 5) sc_read_signature.nd rfl (Or.inl rfl)) (pss_cons (ps_if (PW.pt (pw_or (pt_cmpR op_le (pv 5) (pv 4) (nomark _)) (pw_or1 (pt_cmpR op_gt (pv 5) (pe_ix ix_list (pv 2) pe_int (fun _ _ => rfl)) (nomark _))))) (pss_one (ps_ret pe_non)) pss_nil)
        (pss_one (ps_set (i := 4) sc_read_signature.nd rfl (Or.inl rfl) (pv 5)))))
      (pss_cons (ps_if (pt_cmpR op_gt (pe_ix ix_list (pv 2) pe_int (fun _ _ => rfl)) pe_int (nomark _)) (pss_one (ps_ret pe_non)) pss_nil)
      (pss_one (ps_ret (pe_lst (pa_cons (pe_ix ix_list (pv 1) pe_int (fun _ _ => rfl)) (pa_cons (pe_ix ix_list (pv 2) pe_int (fun _ _ => rfl)) (pa_cons (pe_slice sl_list (pv 2) (po_some pe_int) po_none) pa_nil))))))))))))), ?_⟩
    obtain ⟨wl, wn⟩ := words_ok line
    refine ⟨_, rfl, rfl, _, _, rfl, rfl, by decide, sz_of (by omega), fun p hp => ?_⟩
    generalize Txt.split line " " = ws at *
    have e1 := Ex.new (o := .lst (ws.map V.str)) hp
    have hp1 : upd H p (.lst (ws.map V.str)) p = some (.lst (ws.map V.str)) := upd_same
    revert e1 hp1
    generalize upd H p (.lst (ws.map V.str)) = H1
    intro e1 hp1
    refine ⟨_, rfl, p, _, rfl, .inl (SqL.of hp1), _, 3, rfl, rfl, _, rfl, ite2 (fun h => ?_) (fun h => ?_)⟩
    · refine iteT (k2 ?_ _ e1)
      have h1 : (((ws.map V.str).length : Nat) : Int) < 3 := of_decide_eq_true h
      rw [List.length_map] at h1
      match ws, h1 with
      | [], _ => rfl
      | [_], _ => rfl
      | [_, _], _ => rfl
      | _ :: _ :: _ :: r, h1 =>
        rw [List.length_cons, List.length_cons, List.length_cons] at h1
        omega
    have h1 : ¬ (((ws.map V.str).length : Nat) : Int) < 3 := fun q => h (decide_eq_true q)
    rw [List.length_map] at h1
    obtain ⟨w0, wa, wb, r, rfl⟩ : ∃ w0 wa wb r, ws = w0 :: wa :: wb :: r := by
      match ws, h1 with
      | [], h1 => exact absurd (show ((0 : Nat) : Int) < 3 by decide) h1
      | [_], h1 => exact absurd (show ((1 : Nat) : Int) < 3 by decide) h1
      | [_, _], h1 => exact absurd (show ((2 : Nat) : Int) < 3 by decide) h1
      | w0 :: wa :: wb :: r, _ => exact ⟨w0, wa, wb, r, rfl⟩
    have hrl : r.length ≤ 2000 := by
      rw [List.length_cons, List.length_cons, List.length_cons] at wn
      omega
    refine ⟨_, rfl, p, _, 0, .str w0, rfl, rfl, SqL.of hp1, atI_nat (j := 0) rfl, rfl, _, rfl, ?_⟩
    by_cases hf : w0 = "fun"
    case neg =>
      rw [decide_eq_false (show ¬ V.str w0 = V.str "fun" from fun q => hf (V.str.inj q))]
      exact iteT (iteT (k2 (rdP_no fun q => hf q.1) _ e1))
    rw [decide_eq_true (show V.str w0 = V.str "fun" by rw [hf])]
    refine iteF ?_
    have hwa : wa.length ≤ 2000 := Nat.le_trans (wl wa (by simp)) hlen
    refine ⟨_, rfl, p, _, 1, .str wa, rfl, rfl, SqL.of hp1, atI_nat (j := 1) rfl, .str wa, rfl, th_str hwa, fun H2 e2 => ⟨_, rfl, ?_⟩⟩
    have e12 := e1.trans e2
    cases hnm : nm (.str wa) with
    | false => exact iteT (k2 (rdP_no fun q => by have := q.2.2; unfold sigOk at this; rw [hnm, Bool.false_and, Bool.false_and] at this; cases this) _ e12)
    | true =>
      refine iteF ?_
      refine ⟨by decide, fun q hq => ?_⟩
      have e3 := Ex.new (o := .lst []) hq
      have hp3 := e3 _ _ (e2 _ _ hp1)
      refine ⟨_, rfl, 2, rfl, p, _, rfl, SqL.of hp3, fun u hu => ?_⟩
      have hcut : cutV ((w0 :: wa :: wb :: r).map V.str) (some 2) none = (wb :: r).map V.str := by
        rw [show (some 2 : Option Int) = some ((2 : Nat) : Int) from rfl, cut_from]
        rfl
      rw [hcut]
      have e4 := Ex.new (o := .lst ((wb :: r).map V.str)) hu
      have huq : q ≠ u := ne_of_none upd_same hu
      have hq4 : upd (upd H2 q (.lst [])) u (.lst ((wb :: r).map V.str)) q = some (.lst []) := e4 _ _ upd_same
      have hu4 : upd (upd H2 q (.lst [])) u (.lst ((wb :: r).map V.str)) u = some (.lst ((wb :: r).map V.str)) := upd_same
      have e24 := e3.trans e4
      refine ⟨_, rfl, ⟨_, SqL.of hu4⟩, for_list (xs := (wb :: r).map V.str) (fun i σ H' => (∃ v3, σ = [some (.str line), some (.ref p), some (.ref q), v3, none, none]) ∧ Ex H2 H' ∧ H' u = some (.lst ((wb :: r).map V.str)) ∧ H' q = some (.lst ((((wb :: r).take i).map valS).map V.int)) ∧ ∀ w ∈ (wb :: r).take i, w ∈ digS) ⟨⟨none, rfl⟩, e24, hu4, hq4, fun _ h => (nomatch h)⟩ (fun i σ H' _ h => SqL.of h.2.2.1) ?_ ?_⟩
      · rintro i x σ' H' hi ⟨⟨v3, rfl⟩, e, hu', hq', hdig⟩
        obtain ⟨w, hw, rfl⟩ : ∃ w, (wb :: r)[i]? = some w ∧ x = .str w := by
          rw [List.getElem?_map] at hi
          cases e : (wb :: r)[i]? with
          | none =>
            rw [e] at hi
            cases hi
          | some w =>
            rw [e] at hi
            exact ⟨w, rfl, (Option.some.inj hi).symm⟩
        have hwm := List.mem_of_getElem? hw
        have hwl : w.length ≤ 2000 := Nat.le_trans (wl w (List.mem_cons_of_mem _ (List.mem_cons_of_mem _ hwm))) hlen
        refine ⟨_, rfl, w, rfl, sz_of (by omega), rfl, _, rfl, ?_⟩
        by_cases h1 : w.length = 1
        case neg =>
          rw [decide_eq_false (show ¬ V.int (w.length : Int) = V.int 1 from fun q => h1 (by have := V.int.inj q; omega))]
          exact iteT (iteT (k2 (rdP_no fun q => h1 (num_sign w (q.2.1 w hwm)).1) _ (e12.trans e)))
        rw [decide_eq_true (show V.int (w.length : Int) = V.int 1 by rw [h1]; rfl)]
        refine iteF ?_
        obtain ⟨c, rfl⟩ : ∃ c, w = ⟨#[c]⟩ := by
          have : (tl w).length = 1 := by rw [← len_tl]; exact h1
          match e : tl w, this with
          | [c], _ => exact ⟨c, ext_tl e⟩
        refine ⟨_, rfl, c, _, rfl, rfl, _, rfl, ?_⟩
        by_cases hc : c ∈ tlD
        case neg =>
          rw [decide_eq_false (show ¬ c ∈ tl "0123456789" from hc)]
          exact iteT (k2 (rdP_no fun q => hc ((num_sign _ (q.2.1 _ hwm)).2 c (by show c ∈ [c]; simp))) _ (e12.trans e))
        rw [decide_eq_true (show c ∈ tl "0123456789" from hc)]
        refine iteF ?_
        obtain ⟨d1, d2⟩ := dig_facts c hc
        have hil : i < (wb :: r).length := (List.getElem?_eq_some_iff.mp hw).1
        rw [List.length_cons] at hil
        refine ⟨_, rfl, .inl ⟨rfl, _, SqL.of hq'⟩, rfl, _, rfl, _, _, rfl, rfl, q, _, _, rfl, rfl, hq', ?_, ⟨_, rfl⟩, e.mut hq, ?_, ?_, ?_⟩
        · rw [List.length_map, List.length_map, List.length_take]
          exact sz_lt (by omega)
        · rw [upd_ne huq.symm]
          exact hu'
        · rw [upd_same, List.take_add_one, hw, d2, List.map_append, List.map_append]
          rfl
        · intro y hy
          rw [List.take_add_one, hw] at hy
          rcases List.mem_append.mp hy with h | h
          · exact hdig y h
          · rw [List.mem_singleton.mp h]
            exact d1
      rintro σ' H5 ⟨⟨v3, rfl⟩, e5, hu5, hq5, hdig⟩
      rw [List.length_map, List.take_length] at hq5 hdig
      have e15 := e12.trans e5
      have cutn : cutV ((valS wb :: r.map valS).map V.int) (some 1) none = (r.map valS).map V.int := by
        rw [cut_one]
        rfl
      have hq5' : H5 q = some (.lst ((valS wb :: r.map valS).map V.int)) := hq5
      refine ⟨_, rfl, 1, rfl, q, _, rfl, SqL.of hq5', fun t ht => ?_⟩
      rw [cutn]
      have e6 := Ex.new (o := .lst ((r.map valS).map V.int)) ht
      have hq6 := e6 _ _ hq5'
      have ht6 : upd H5 t (.lst ((r.map valS).map V.int)) t = some (.lst ((r.map valS).map V.int)) := upd_same
      have e16 := e15.trans e6
      have hp6 := e6 _ _ (e5 _ _ (e2 _ _ hp1))
      revert hq6 ht6 e16 hp6
      generalize upd H5 t (.lst ((r.map valS).map V.int)) = H6
      intro hq6 ht6 e16 hp6
      refine ⟨_, rfl, ⟨_, SqL.of ht6⟩, for_list (xs := (r.map valS).map V.int) (fun i σ H' => (∃ v3 l v5, σ = [some (.str line), some (.ref p), some (.ref q), v3, some (.int l), v5] ∧ okSrc (valS wb) 1 ((r.map valS).map V.int) = okSrc (valS wb) (l + 1) (((r.map valS).map V.int).drop i)) ∧ H' = H6) ⟨⟨_, 0, _, rfl, rfl⟩, rfl⟩ (fun i σ H' _ h => by rw [h.2]; exact SqL.of ht6) ?_ ?_⟩
      · rintro i x σ' H' hi ⟨⟨v3, l, v5, rfl, hok⟩, rfl⟩
        have hd : ((r.map valS).map V.int).drop i = x :: ((r.map valS).map V.int).drop (i + 1) := by
          have hlt := (List.getElem?_eq_some_iff.mp hi).1
          rw [List.drop_eq_getElem_cons hlt, (List.getElem?_eq_some_iff.mp hi).2]
        rw [hd] at hok
        obtain ⟨m, _, rfl⟩ := List.mem_map.mp (List.mem_of_getElem? hi)
        have no : inI (.int m) (l + 1) (valS wb) = false → Q .non H' := fun hb => by
          refine k2 (rdP_no fun q => ?_) _ e16
          have h3 := q.2.2
          unfold sigOk at h3
          rw [Bool.and_eq_true] at h3
          have h4 : okSrc (valS wb) 1 ((r.map valS).map V.int) = true := h3.2
          rw [hok] at h4
          have h5 : (inI (.int m) (l + 1) (valS wb) && okSrc (valS wb) (m + 1) (((r.map valS).map V.int).drop (i + 1))) = true := h4
          rw [hb, Bool.false_and] at h5
          cases h5
        refine ⟨_, rfl, _, rfl, m, l, rfl, rfl, _, rfl, ite2 (fun h => ?_) (fun h => ?_)⟩
        · have h1 : m ≤ l := of_decide_eq_true h
          refine iteT (no ?_)
          show (decide (l + 1 ≤ m) && _) = false
          rw [decide_eq_false (by omega), Bool.false_and]
        have h1 : ¬ m ≤ l := fun q => h (decide_eq_true q)
        refine ⟨_, rfl, _, rfl, q, _, 0, .int (valS wb), rfl, rfl, SqL.of hq6, atI_nat (j := 0) rfl, m, valS wb, rfl, rfl, _, rfl, ite2 (fun h => ?_) (fun h => ?_)⟩
        · have h2 : valS wb < m := of_decide_eq_true h
          refine no ?_
          show (decide (l + 1 ≤ m) && decide (m ≤ valS wb)) = false
          rw [decide_eq_false (show ¬ m ≤ valS wb by omega), Bool.and_false]
        have h2 : ¬ valS wb < m := fun q => h (decide_eq_true q)
        refine ⟨_, rfl, ⟨_, m, _, rfl, ?_⟩, rfl⟩
        rw [hok]
        show (inI (.int m) (l + 1) (valS wb) && okSrc (valS wb) (m + 1) _) = _
        rw [show inI (.int m) (l + 1) (valS wb) = true by show (decide (l + 1 ≤ m) && decide (m ≤ valS wb)) = true; rw [decide_eq_true (show l + 1 ≤ m by omega), decide_eq_true (show m ≤ valS wb by omega)]; rfl, Bool.true_and]
      rintro σ' H' ⟨⟨v3, l, v5, rfl, hok⟩, rfl⟩
      rw [List.drop_length] at hok
      have hok' : okSrc (valS wb) 1 ((r.map valS).map V.int) = true := hok
      refine ⟨_, rfl, q, _, 0, .int (valS wb), rfl, rfl, SqL.of hq6, atI_nat (j := 0) rfl, _, 4, rfl, rfl, _, rfl, ite2 (fun h => ?_) (fun h => ?_)⟩
      · have h4 : 4 < valS wb := of_decide_eq_true h
        refine k2 (rdP_no fun q => ?_) _ e16
        have h3 := q.2.2
        unfold sigOk at h3
        rw [Bool.and_eq_true, Bool.and_eq_true] at h3
        have h5 : (decide (0 ≤ valS wb) && decide (valS wb ≤ 4)) = true := h3.1.2
        rw [decide_eq_false (show ¬ valS wb ≤ 4 by omega), Bool.and_false] at h5
        cases h5
      have h4 : ¬ 4 < valS wb := fun q => h (decide_eq_true q)
      have hwb : wb ∈ digS := hdig wb List.mem_cons_self
      have hallN : ∀ w ∈ wb :: r, w ∈ numS := fun w hw => by
        refine dig_num w (hdig w hw) ?_
        rcases List.mem_cons.mp hw with rfl | hw
        · omega
        · have := okSrc_le _ _ hok' (valS w) (List.mem_map.mpr ⟨w, hw, rfl⟩)
          omega
      have hsig : sigOk (.str wa) (.int (valS wb)) (some ((r.map valS).map V.int)) = true := by
        unfold sigOk
        rw [hnm, show inI (.int (valS wb)) 0 4 = true by show (decide (0 ≤ valS wb) && decide (valS wb ≤ 4)) = true; rw [decide_eq_true (dig_val wb hwb), decide_eq_true (show valS wb ≤ 4 by omega)]; rfl]
        exact hok'
      refine ⟨_, rfl, p, _, 1, .str wa, rfl, rfl, SqL.of hp6, atI_nat (j := 1) rfl, _, rfl, q, _, 0, .int (valS wb), rfl, rfl, SqL.of hq6, atI_nat (j := 0) rfl, _, rfl, 1, rfl, q, _, rfl, SqL.of hq6, fun a ha => ⟨sz_of (by show 3 ≤ 100000; decide), fun b hb => ?_⟩⟩
      rw [cutn] at hb ⊢
      have e7 := Ex.new (o := .lst ((r.map valS).map V.int)) ha
      have e8 := Ex.new (o := .lst [.str wa, .int (valS wb), .ref a]) hb
      exact k1 wa (valS wb) (r.map valS) (rdP_yes ⟨hf, hallN, hsig⟩) b a _ ((e16.trans e7).trans e8) upd_same (e8 _ _ upd_same)
theorem alnum_lt : ∀ c : Nat, alnum c = true → c < 0x110000 := fun c h => by
  rw [alnum36] at h
  have h1 : c ∈ tl36 := of_decide_eq_true h
  have h2 : ∀ c ∈ tl36, c < 0x110000 := by decide +kernel
  exact h2 c h1
theorem okS_all {z : Str} (h : okS z = true) : ∀ c ∈ tl z, alnum c = true := by
  unfold okS at h
  rw [Bool.and_eq_true] at h
  exact List.all_eq_true.mp h.2
theorem okS_str {z : Str} (h : okS z = true) : PyData.strOk z = true := by
  unfold PyData.strOk
  rw [← Array.all_toList, List.all_eq_true]
  exact fun c hc => decide_eq_true (alnum_lt c (okS_all h c hc))
theorem sigOk_asc {z : Str} {n : Int} {ns : List Int} (hz : okS z = true) (h0 : 0 ≤ n) (h4 : n ≤ 4) (ha : Asc n ns) : sigOk (.str z) (.int n) (some (ns.map V.int)) = true := by
  unfold sigOk
  rw [show nm (.str z) = true from hz, show inI (.int n) 0 4 = true by show (decide (0 ≤ n) && decide (n ≤ 4)) = true; rw [decide_eq_true h0, decide_eq_true h4]; rfl]
  exact asc_ok ns 1 ha.1 ha.2
/-- three parts as data -/
def dP (z : Str) (n : Int) (ns : List Int) : PyData := .list [.str z, .int n, .list (ns.map PyData.int)]
theorem dP_eqv {z z' : Str} {n n' : Int} {ns ns' : List Int} : PyData.eqv (dP z n ns) (dP z' n' ns') = (decide (z = z') && decide (n = n') && decide (ns = ns')) := by
  unfold dP PyData.eqv PyData.eqvAll
  rw [show PyData.eqv (.str z) (.str z') = decide (z = z') by unfold PyData.eqv; by_cases e : z = z' <;> simp [e]]
  unfold PyData.eqvAll
  rw [show PyData.eqv (.int n) (.int n') = decide (n = n') by unfold PyData.eqv; by_cases e : n = n' <;> simp [e]]
  unfold PyData.eqvAll
  rw [eqv_list]
  unfold PyData.eqvAll
  rw [Bool.and_true, Bool.and_assoc]
theorem dP_shaped {z : Str} {n : Int} {ns : List Int} (hz : okS z = true) : SeqAt.shaped (dP z n ns) = true := by
  obtain ⟨h1, h2⟩ := lay_ints ns
  unfold SeqAt.shaped dP
  rw [Bool.and_eq_true]
  refine ⟨?_, decide_eq_true ?_⟩
  · simp only [PyData.canLay0, PyData.canLayAll0, h1, okS_str hz, Bool.and_true]
  · simp only [PyData.depth, PyData.depthAll]
    omega
theorem dP_dp {K : PySem.W.Frag} {H : Hp} {a p : Addr} {z : Str} {n : Int} {ns : List Int} (ha : H a = some (.lst [.str z, .int n, .ref p])) (hp : SqL K H p (ns.map V.int)) : Dp K H (.ref a) (dP z n ns) :=
  .lst (SqL.of ha) (.cons (.str z) (.cons (.int n) (.cons (.lst hp (dp_ints ns)) .nil)))
theorem text_back {line z : Str} {n : Int} {ns : List Int} (h : rdP (Txt.split line " ") = some (z, n, ns)) : textOf z n ns = line ∧ okS z = true ∧ z.length ≤ line.length ∧ (0 ≤ n ∧ n < 100) ∧ (∀ m ∈ ns, 0 ≤ m ∧ m < 100) ∧ ns.length ≤ line.length := by
  obtain ⟨wl, wn⟩ := words_ok line
  obtain ⟨wb, r, hws, rfl, rfl, hall, hsig⟩ := rdP_some h
  have hz : okS z = true := by
    unfold sigOk at hsig
    rw [Bool.and_eq_true, Bool.and_eq_true] at hsig
    exact hsig.1.1
  rw [hws] at wl wn
  have hb := num_fresh wb (hall wb List.mem_cons_self)
  refine ⟨?_, hz, wl z (by simp), hb.2, fun m hm => ?_, ?_⟩
  · have hmap : (r.map valS).map strI = r := by
      rw [List.map_map]
      conv => rhs; rw [← List.map_id r]
      exact List.map_congr_left fun w hw => (num_fresh w (hall w (List.mem_cons_of_mem _ hw))).1
    unfold textOf partsOf
    rw [hmap, hb.1, ← hws, join_eq, StrLaws.join_split]
  · obtain ⟨w, hw, rfl⟩ := List.mem_map.mp hm
    exact (num_fresh w (hall w (List.mem_cons_of_mem _ hw))).2
  · rw [List.length_map]
    rw [List.length_cons, List.length_cons, List.length_cons] at wn
    omega
def spLine : Sp := fun vs H Q _ => ∃ line, vs = [.str line] ∧ line.length ≤ 900 ∧ ∀ H', Ex H H' → Q (.bl true) H'
theorem ok_line_holds (T : Tx K mg A) : FnOk P w K mg base CX0 8 A.line_holds A.d_line_holds p_line_holds spLine := by
  refine T.F_line_holds.ok sc_line_holds (fun vs H Q E h => ?_) (fun cdv Ar outer s H vs Q E hr h => ?_)
  · obtain ⟨line, rfl, _⟩ := h
    rfl
  · obtain ⟨line, rfl, hlen, k⟩ := h
    obtain ⟨mv, kb_sig_init_2⟩ := T.F_sig_init.kbinds0 (ps := p_sig_init) 3 ["sources"] [] (fun us _ ws => us ++ ws) (by simp) (fun q h => (nomatch h)) (fun a _ c => a.append c) (fun D doc pm an cdv ct us mv ws h1 h2 h3 => by
      match us, h1, mv, h2, ws, h3 with
      | [_, _, _], _, [], _, [_], _ => exact rfl)
    refine ⟨_, (pss_cons (ps_set (i := 1) sc_line_holds.nd rfl (Or.inl rfl) (pe_call (ok_read_signature T) (hr.mono (by decide)) (by rfl) T.g_read_signature T.F_read_signature.kp T.b_read_signature .nil pass0 (pa_cons (pv 0) pa_nil)))
      (pss_cons (ps_set (i := 2) sc_line_holds.nd rfl (Or.inl rfl) pe_non)
      (pss_cons (ps_set (i := 3) sc_line_holds.nd rfl (Or.inl rfl) pe_bl)
      (pss_cons (ps_set (i := 4) sc_line_holds.nd rfl (Or.inl rfl) pe_non)
      (pss_cons (ps_try_as (i := 5) rfl rfl sc_line_holds.nd rfl rfl ⟨rfl, by decide, Or.inl T.g_InvalidSignature⟩ takes0 (fun W pn xe tk _ => (pss_one (ps_set (i := 2) sc_line_holds.nd rfl (Or.inl rfl) (UL.pe_smS (E := WE W) (pe_glob (v := .ref A.Signature) (by rfl) T.g_Signature rfl) T.sm_sig_read (ok_sig_read T) (hr.mono (by decide)) T.b_sig_read (fun σ => passAt tk σ) (pa_cons (pv 0) pa_nil))))) (fun a oe cls d pn hz hf => (pss_cons (ps_set (i := 3) sc_line_holds.nd rfl (Or.inl rfl) pe_bl)
        (pss_one (ps_set (i := 4) sc_line_holds.nd rfl (Or.inl rfl) (pe_xf T.ex_InvalidSignature.xf T.ex_InvalidSignature.nw hz hf (pv 5)))))))
      (pss_cons (ps_if (pt_cmpR op_isN (pv 1) pe_non (nomark _)) (pss_one (ps_ret (pe_and (pv 3) (pe_and (pe_callB call_isi (by rfl) T.m_isinstance (by decide +kernel) (pa_cons (pv 4) (pa_cons (pe_bltn (v := .ty "str") (u := .type "str") (by rfl) T.m_str (by decide +kernel) rfl) pa_nil))) (pe_one (pe_cmpR op_eq (pv 4) (pv 0) (nomark _))))))) pss_nil)
      (pss_cons (ps_if (PW.pt (pw_or (pt_val (pv 3)) (pw_or (pt_not (pt_val (pe_callB call_isi (by rfl) T.m_isinstance (by decide +kernel) (pa_cons (pv 2) (pa_cons (pe_glob (v := .ref A.Signature) (by rfl) T.g_Signature rfl) pa_nil))))) (pw_or (pt_not (pt_val (pe_call (ok_integer T) (hr.mono (by decide)) (by rfl) T.g_integer T.F_integer.kp T.b_integer .nil pass0 (pa_cons (pe_fld (pv 2) rfl) pa_nil)))) (pw_or1 (pt_not (pt_val (pe_callB call_isi (by rfl) T.m_isinstance (by decide +kernel) (pa_cons (pe_fld (pv 2) rfl) (pa_cons (pe_bltn (v := .ty "tuple") (u := .type "tuple") (by rfl) T.m_tuple (by decide +kernel) rfl) pa_nil)))))))))) (pss_one (ps_ret pe_bl)) pss_nil)
      (pss_cons (ps_set (i := 6) sc_line_holds.nd rfl (Or.inl rfl) (pe_meth0 (pv 2) T.cl_Signature T.e_sig_text (ok_sig_text T) (hr.mono (by decide)) T.b_sig_text .nil pass0))
      (pss_cons (ps_if (PW.pt (pw_or (pt_not (pt_val (pe_callB call_isi (by rfl) T.m_isinstance (by decide +kernel) (pa_cons (pv 6) (pa_cons (pe_bltn (v := .ty "str") (u := .type "str") (by rfl) T.m_str (by decide +kernel) rfl) pa_nil))))) (pw_or1 (pt_cmpR op_ne (pv 6) (pv 0) (nomark _))))) (pss_one (ps_ret pe_bl)) pss_nil)
      (pss_one (ps_ret (pe_and (pe_cmpR (op_eqD hr.units) (pe_lst (pa_cons (pe_fld (pv 2) rfl) (pa_cons (pe_fld (pv 2) rfl) (pa_cons (pe_callTy call_list_of (by rfl) T.m_list (by decide +kernel) (pa_cons (pe_fld (pv 2) rfl) pa_nil)) pa_nil)))) (pv 1) (nomark _)) (pe_one (pe_cmpR (UL.op_ownEq (ok_sig_eq T) (hr.mono (by decide)) T.e_sig_eq.at_ T.e_sig_eq.fn T.b_sig_eq pass0) (pv 2) (pe_makeK (n := 2) T.mk_Signature (ok_sig_init T) (hr.mono (by decide)) (by rfl) T.g_Signature kb_sig_init_2 passL (pa_cons (pe_ix ix_list (pv 1) pe_int (fun _ _ => rfl)) (pa_cons (pe_ix ix_list (pv 1) pe_int (fun _ _ => rfl)) pa_nil)) (pk_cons (pe_ix ix_list (pv 1) pe_int (fun _ _ => rfl)) pk_nil)) (nomark _))))))))))))))), ?_⟩
    cases hr0 : rdP (Txt.split line " ") with
    | none =>
      refine ⟨_, rfl, line, rfl, by omega, (fun z n ns h => by rw [hr0] at h; cases h), fun _ H1 e1 => ?_⟩
      refine ⟨rfl, _, rfl, line, rfl, by omega, (fun z n ns h => by rw [hr0] at h; cases h), fun _ d H2 e2 hd => ?_⟩
      refine ⟨true, T.te1, fun _ a ha => ?_, fun q => Bool.noConfusion q⟩
      refine ⟨_, rfl, rfl, rfl, d, _, .str line, rfl, hd, rfl, ?_⟩
      refine ⟨_, rfl, rfl, _, rfl, iteT ?_⟩
      refine ⟨_, rfl, _, rfl, iteT ⟨_, rfl, .str line, _, _, _, true, rfl, .ty "str", .base (.str line), kit_ty (by decide +kernel), _, rfl, iteT ⟨_, rfl, _, rfl, rfl, ?_⟩⟩⟩
      rw [decide_eq_true rfl]
      exact k _ (e1.trans e2)
    | some t3 =>
      obtain ⟨z, n, ns⟩ := t3
      obtain ⟨ht, hz, hzl, ⟨n0, n1⟩, hns, hnl⟩ := text_back hr0
      obtain ⟨_, _, _, _, _, _, hsig⟩ := rdP_some hr0
      refine ⟨_, rfl, line, rfl, by omega, fun z' n' ns' h p l H1 e1 hp hl => ?_, (fun h => by rw [hr0] at h; cases h)⟩
      rw [hr0] at h
      cases h
      refine ⟨rfl, _, rfl, line, rfl, by omega, fun z' n' ns' h a H2 e2 sg => ?_, (fun h => by rw [hr0] at h; cases h)⟩
      rw [hr0] at h
      cases h
      have hp2 := e2 _ _ hp
      have hl2 := e2 _ _ hl
      obtain ⟨dx, t, ha, hta⟩ := id sg
      refine ⟨_, rfl, rfl, _, rfl, iteF ?_⟩
      refine ⟨_, rfl, _, rfl, iteF ?_⟩
      refine ⟨_, rfl, .ref a, _, _, _, true, rfl, .own A.Signature, tyx_ins ha T.cl_Signature T.ty_Signature, T.ks_own, _, rfl, iteF ?_⟩
      refine ⟨_, rfl, a, _, dx, _, _, rfl, ha, T.cl_Signature, T.na_Signature_count, f_count _ _ _, _, rfl, .inr (.inr (.inr (.inl ⟨n, rfl⟩))), _, rfl, iteF ?_⟩
      refine ⟨_, rfl, a, _, dx, _, _, rfl, ha, T.cl_Signature, T.na_Signature_sources, f_sources _ _ _, .ref t, _, _, _, true, rfl, .ty "tuple", sqT_ty hta, kit_ty (by decide +kernel), _, rfl, iteF ?_⟩
      refine ⟨_, rfl, a, dx, _, rfl, ha, rfl, a, z, n, ns, rfl, sg, by omega, n0, n1, hns, by omega, fun H3 e3 => ?_⟩
      rw [ht]
      refine ⟨_, rfl, .str line, _, _, _, true, rfl, .ty "str", .base (.str line), kit_ty (by decide +kernel), _, rfl, iteF ?_⟩
      refine ⟨_, rfl, _, rfl, rfl, _, rfl, ?_⟩
      rw [decide_eq_true rfl]
      refine iteF ?_
      have ha3 := e3 _ _ ha
      have ht3 := ex_t e3 hta
      have hp3 := e3 _ _ hp2
      have hl3 := e3 _ _ hl2
      refine ⟨_, rfl, a, _, dx, _, _, rfl, ha3, T.cl_Signature, T.na_Signature_name, f_name _ _ _, _, rfl, a, _, dx, _, _, rfl, ha3, T.cl_Signature, T.na_Signature_count, f_count _ _ _, _, rfl, a, _, dx, _, _, rfl, ha3, T.cl_Signature, T.na_Signature_sources, f_sources _ _ _, t, _, rfl, .inr ht3, fun u hu => ⟨sz_of (by show 3 ≤ 100000; decide), fun v hv => ?_⟩⟩
      have e4 := Ex.new (o := .lst (ns.map V.int)) hu
      have e5 := Ex.new (o := .lst [.str z, .int n, .ref u]) hv
      have e45 := e4.trans e5
      refine ⟨_, rfl, dP z n ns, dP z n ns, dP_dp upd_same (SqL.of (e5 _ _ upd_same)), dP_dp (e45 _ _ hp3) (SqL.of (e45 _ _ hl3)), dP_shaped hz, dP_shaped hz, _, rfl, ?_⟩
      rw [dP_eqv, decide_eq_true rfl, decide_eq_true rfl, decide_eq_true rfl]
      refine iteT ?_
      have hp5 := e45 _ _ hp3
      have hl5 := e45 _ _ hl3
      have ha5 := e45 _ _ ha3
      have sg5 := (sg.mono e3).mono e45
      show tOp _ _ _ _ (upd (upd H3 u (.lst (ns.map V.int))) v (.lst [.str z, .int n, .ref u])) _
      revert hp5 hl5 ha5 sg5 e45
      generalize upd (upd H3 u (.lst (ns.map V.int))) v (.lst [.str z, .int n, .ref u]) = H5
      intro e45 hp5 hl5 ha5 sg5
      have th : ∀ {H' : Hp} {ms : List Int}, ∀ x ∈ ms.map V.int, Th H' x := fun x hx => by
        obtain ⟨m, _, rfl⟩ := List.mem_map.mp hx
        exact .inr (.inr (.inr (.inl ⟨m, rfl⟩)))
      refine ⟨_, rfl, _, rfl, p, _, 0, _, rfl, rfl, SqL.of hp5, atI_nat (j := 0) rfl, _, rfl, p, _, 1, _, rfl, rfl, SqL.of hp5, atI_nat (j := 1) rfl, _, rfl, p, _, 2, _, rfl, rfl, SqL.of hp5, atI_nat (j := 2) rfl, rfl, rfl, fun x dx2 hx hdx ne => ?_⟩
      have e8 := made_in (C := A.Signature) hx hdx
      refine ⟨x, dx2, .str z, .int n, .ref l, some (ns.map V.int), rfl, upd_same, rfl, th_str (by omega), .inr (.inr (.inr (.inl ⟨n, rfl⟩))), ⟨⟨l, rfl, .inl (e8 _ _ hl5)⟩, th, by rw [List.length_map]; omega⟩, fun _ H7 t7 e9 h7 ht7 => ⟨rfl, ?_⟩, (fun h => by rw [hsig] at h; cases h)⟩
      have e10 := made_ex hx hdx e9
      have sg7 : Sig K A.Signature H7 x z n ns := ⟨dx2, t7, h7, ht7⟩
      refine ⟨a, dx, _, rfl, e10 _ _ ha5, .inl ⟨x, dx2, _, rfl, h7⟩, a, z, n, ns, .ref x, true, rfl, sg5.mono e10, .inl ⟨x, z, n, ns, rfl, sg7, by rw [decide_eq_true rfl, decide_eq_true rfl, decide_eq_true rfl]; rfl⟩, ⟨_, rfl⟩, k _ ((((e1.trans e2).trans e3).trans e45).trans e10)⟩
theorem joinL_cons (c : List Nat) : ∀ (p : List Nat) (ps : List (List Nat)), joinL c (p :: ps) = p ++ (ps.map (c ++ ·)).flatten
  | p, [] => by
    show p = p ++ []
    rw [List.append_nil]
  | p, q :: r => by
    show p ++ (c ++ joinL c (q :: r)) = _
    rw [joinL_cons c q r, List.map_cons, List.flatten_cons, List.append_assoc]
theorem text_is (z : Str) (n : Int) (ns : List Int) (J : Str) (hJ : tl J = ((ns.map strI).map (fun w => tl ((" " : Str) ++ w))).flatten) : ((("fun " : Str) ++ z ++ " ") ++ strI n) ++ J = textOf z n ns := by
  refine ext_tl ?_
  unfold textOf partsOf
  rw [join_eq, tl_join, List.map_cons, List.map_cons, List.map_cons, joinL_cons, List.map_cons, List.map_cons, List.flatten_cons, List.flatten_cons, tl_append, tl_append, tl_append, tl_append, hJ, List.map_map, List.map_map]
  have e1 : tl ("fun " : Str) = tl ("fun" : Str) ++ tl (" " : Str) := by decide +kernel
  have e2 : (ns.map strI).map (fun w => tl ((" " : Str) ++ w)) = (ns.map strI).map ((fun x => tl (" " : Str) ++ x) ∘ tl) := List.map_congr_left fun w _ => tl_append _ _
  rw [e1, List.map_map] at *
  rw [e2]
  simp only [List.append_assoc, List.map_map]
def spLaw (K : PySem.W.Frag) : Sp := fun vs H Q _ => ∃ (a : Addr) (ns : List Int), vs = [.ref a] ∧ SqL K H a (ns.map V.int) ∧ ns.length ≤ 63 ∧ ∀ H', Q (.bl true) H'
theorem ok_law (T : Tx K mg A) : FnOk P w K mg base CX0 9 A.law A.d_law p_law (spLaw K) := by
  refine T.F_law.ok sc_law (fun vs H Q E h => ?_) (fun cdv Ar outer s H vs Q E hr h => ?_)
  · obtain ⟨a, ns, rfl, _⟩ := h
    rfl
  · obtain ⟨a, ns, rfl, hS, hlen, k⟩ := h
    obtain ⟨mv, kb_sig_init_2⟩ := T.F_sig_init.kbinds0 (ps := p_sig_init) 3 ["sources"] [] (fun us _ ws => us ++ ws) (by simp) (fun q h => (nomatch h)) (fun a _ c => a.append c) (fun D doc pm an cdv ct us mv ws h1 h2 h3 => by
      match us, h1, mv, h2, ws, h3 with
      | [_, _, _], _, [], _, [_], _ => exact rfl)
    refine ⟨_, (pss_cons (ps_set (i := 1) sc_law.nd rfl (Or.inl rfl) (pe_call (ok_draws T) (hr.mono (by decide)) (by rfl) T.g_draws T.F_draws.kp T.b_draws .nil pass0 (pa_cons (pv 0) pa_nil)))
      (pss_cons (ps_set (i := 2) sc_law.nd rfl (Or.inl rfl) (pe_call (ok_name T) (hr.mono (by decide)) (by rfl) T.g_name T.F_name.kp T.b_name .nil pass0 (pa_cons (pv 1) (pa_cons (pe_call (ok_take T) (hr.mono (by decide)) (by rfl) T.g_take T.F_take.kp T.b_take .nil pass0 (pa_cons (pv 1) (pa_cons pe_int pa_nil))) pa_nil))))
      (pss_cons (ps_set (i := 3) sc_law.nd rfl (Or.inl rfl) (pe_call (ok_take T) (hr.mono (by decide)) (by rfl) T.g_take T.F_take.kp T.b_take .nil pass0 (pa_cons (pv 1) (pa_cons pe_int pa_nil))))
      (pss_cons (ps_set (i := 4) sc_law.nd rfl (Or.inl rfl) (pe_call (ok_within T) (hr.mono (by decide)) (by rfl) T.g_within T.F_within.kp T.b_within .nil pass0 (pa_cons (pv 1) (pa_cons (pv 3) pa_nil))))
      (pss_cons (ps_set (i := 5) sc_law.nd rfl (Or.inl rfl) (pe_op op_add_str (pe_op op_add_str (pe_op op_add_str (pe_op op_add_str pe_str (pv 2)) pe_str) (pe_callTy call_str_int (by rfl) T.m_str (by decide +kernel) (pa_cons (pv 3) pa_nil))) (pe_bm PySem.F.plainAttrs_str PySem.F.slot_str_join PySem.F.type_str_join mt_join pe_str (pa_cons (pe_lc (own := [("_law_number", 9)]) (g := gName 9) (tt := tYes) rfl sc_law.nd (pi_list (pv 4)) (blkOk_by (N := n_law) (sc := defScope s_law) (by decide +kernel)) (fun _ _ _ _ _ => pg_name (i := 9) sc_law.nd rfl (Or.inl rfl)) (fun _ _ _ _ _ => pts_nil) (fun _ _ _ _ _ => (pe_op op_add_str pe_str (pe_callTy call_str_int (by rfl) T.m_str (by decide +kernel) (pa_cons (pv 9) pa_nil))))) pa_nil))))
      (pss_cons (ps_set (i := 6) sc_law.nd rfl (Or.inl rfl) (pe_meth0 (pe_makeK (n := 2) T.mk_Signature (ok_sig_init T) (hr.mono (by decide)) (by rfl) T.g_Signature kb_sig_init_2 passL (pa_cons (pv 2) (pa_cons (pv 3) pa_nil)) (pk_cons (pv 4) pk_nil)) T.cl_Signature T.e_sig_text (ok_sig_text T) (hr.mono (by decide)) T.b_sig_text .nil pass0))
      (pss_cons (ps_if (PW.pt (pw_or (pt_not (pt_val (pe_callB call_isi (by rfl) T.m_isinstance (by decide +kernel) (pa_cons (pv 6) (pa_cons (pe_bltn (v := .ty "str") (u := .type "str") (by rfl) T.m_str (by decide +kernel) rfl) pa_nil))))) (pw_or (pt_cmpR op_ne (pv 6) (pv 5) (nomark _)) (pw_or1 (pt_not (pt_val (pe_call (ok_line_holds T) (hr.mono (by decide)) (by rfl) T.g_line_holds T.F_line_holds.kp T.b_line_holds .nil pass0 (pa_cons (pv 5) pa_nil)))))))) (pss_one (ps_ret pe_bl)) pss_nil)
      (pss_cons (ps_for PassesOwn.never rfl (pi_range1 (by rfl) T.m_range (pa_cons pe_int pa_nil)) (pg_name (i := 7) sc_law.nd rfl (Or.inl rfl)) (pss_one (ps_if (pt_not (pt_val (pe_call (ok_line_holds T) (hr.mono (by decide)) (by rfl) T.g_line_holds T.F_line_holds.kp T.b_line_holds .nil pass0 (pa_cons (pe_call (ok_spoilt_line T) (hr.mono (by decide)) (by rfl) T.g_spoilt_line T.F_spoilt_line.kp T.b_spoilt_line .nil pass0 (pa_cons (pv 1) (pa_cons (pv 5) pa_nil))) pa_nil)))) (pss_one (ps_ret pe_bl)) pss_nil)))
      (pss_cons (ps_for PassesOwn.never rfl (pi_list (pe_lst (pa_cons (pe_op op_add_str (pv 5) pe_str) (pa_cons (pe_op op_add_str (pv 5) pe_str) (pa_cons (pe_op op_add_str pe_str (pv 5)) (pa_cons (pe_op op_add_str pe_str (pv 5)) (pa_cons (pe_op op_add_str (pe_op op_add_str (pv 5) pe_str) (pv 5)) (pa_cons pe_str pa_nil)))))))) (pg_name (i := 8) sc_law.nd rfl (Or.inl rfl)) (pss_one (ps_if (pt_not (pt_val (pe_call (ok_line_holds T) (hr.mono (by decide)) (by rfl) T.g_line_holds T.F_line_holds.kp T.b_line_holds .nil pass0 (pa_cons (pv 8) pa_nil)))) (pss_one (ps_ret pe_bl)) pss_nil)))
      (pss_cons (ps_if (pt_not (pt_val (pe_call (ok_line_holds T) (hr.mono (by decide)) (by rfl) T.g_line_holds T.F_line_holds.kp T.b_line_holds .nil pass0 (pa_cons (pe_call (ok_words_line T) (hr.mono (by decide)) (by rfl) T.g_words_line T.F_words_line.kp T.b_words_line .nil pass0 (pa_cons (pv 1) (pa_cons (pv 2) (pa_cons pe_int pa_nil)))) pa_nil)))) (pss_one (ps_ret pe_bl)) pss_nil)
      (pss_one (ps_ret (pe_call (ok_line_holds T) (hr.mono (by decide)) (by rfl) T.g_line_holds T.F_line_holds.kp T.b_line_holds .nil pass0 (pa_cons (pe_op op_add_str pe_str (pe_call (ok_words_line T) (hr.mono (by decide)) (by rfl) T.g_words_line T.F_words_line.kp T.b_words_line .nil pass0 (pa_cons (pv 1) (pa_cons (pv 2) (pa_cons pe_int pa_nil))))) pa_nil)))))))))))))), ?_⟩
    refine ⟨_, rfl, a, ns, rfl, hS, hlen, fun d hd0 => ?_⟩
    have hd : upd H d (DrO d) d = some (DrO d) := upd_same
    revert hd
    generalize upd H d (DrO d) = H0
    intro hd
    refine ⟨_, rfl, _, rfl, d, _, rfl, hd, by decide, fun r r0 r1 => ?_⟩
    refine ⟨d, r, rfl, hd, r0, by omega, fun z H1 hz e1 => ?_⟩
    refine ⟨_, rfl, d, _, rfl, e1 _ _ hd, by decide, fun n n0 n1 => ?_⟩
    refine ⟨_, rfl, _, rfl, d, n, rfl, e1 _ _ hd, n0, by omega, fun p H2 ns hp e2 hL ha hl4 => ?_⟩
    have hzl := okS_len hz
    have hns : ∀ m ∈ ns, 0 ≤ m ∧ m < 100 := fun m hm => by have := ha.2 m hm; omega
    have e02 := e1.trans e2
    have hlen2 : (textOf z n ns).length ≤ 63 := by
      have h1 : (partsOf z n ns).length ≤ 7 := by
        show (ns.map strI).length + 1 + 1 + 1 ≤ 7
        rw [List.length_map]
        omega
      have h2 := join_len (partsOf z n ns) fun w hw => by
        rcases List.mem_cons.mp hw with rfl | hw
        · decide
        · rcases List.mem_cons.mp hw with rfl | hw
          · exact hzl
          · rcases List.mem_cons.mp hw with rfl | hw
            · exact Nat.le_trans (lenI n0 (by omega)) (by decide)
            · obtain ⟨m, hm, rfl⟩ := List.mem_map.mp hw
              exact Nat.le_trans (lenI (hns m hm).1 (hns m hm).2) (by decide)
      show (Txt.join " " (partsOf z n ns)).length ≤ 63
      omega
    have hl0 : (strI n).length ≤ 2 := lenI n0 (by omega)
    refine ⟨_, rfl, _, _, rfl, rfl, sz_of (by show 4 + z.length ≤ 100000; omega), _, _, rfl, rfl, sz_of (by rw [len_app]; show 4 + z.length + 1 ≤ 100000; omega), _, rfl, n, rfl, lgI n0 (by omega), _, _, rfl, rfl, sz_of (by rw [len_app, len_app]; show 4 + z.length + 1 + (strI n).length ≤ 100000; omega), ?_⟩
    refine ⟨rfl, _, rfl, p, rfl, ⟨_, SqL.of hL⟩, fun D hD => ?_⟩
    refine lc_map (K := K) (xs := ns.map V.int) (f := fun v => match v with | .int m => .str (" " ++ strI m) | _ => .non) walk_list (by rw [List.length_map]; omega) hD (fun H' e => SqL.of (e _ _ hL)) (fun _ => rfl) (fun x H' hx e Q' q => ?_) ?_
    · obtain ⟨m, hm, rfl⟩ := List.mem_map.mp hx
      have h2 := lenI (hns m hm).1 (hns m hm).2
      exact ⟨_, rfl, m, rfl, lgI (hns m hm).1 (hns m hm).2, _, _, rfl, rfl, sz_of (by show 1 + (strI m).length ≤ 100000; omega), q⟩
    rw [List.map_map, show (List.map ((fun v => match v with | .int m => .str (" " ++ strI m) | _ => .non) ∘ V.int) ns : List V) = ((ns.map strI).map (fun w => (" " : Str) ++ w)).map V.str by rw [List.map_map, List.map_map]; rfl]
    generalize hys : (ns.map strI).map (fun w => (" " : Str) ++ w) = ys
    have eD := Ex.new (o := .lst (ys.map V.str)) hD
    have hD1 : upd H2 D (.lst (ys.map V.str)) D = some (.lst (ys.map V.str)) := upd_same
    revert hD1 eD
    generalize upd H2 D (.lst (ys.map V.str)) = H3
    intro eD hD1
    have hT : ((("fun " : Str) ++ z ++ " ") ++ strI n) ++ Txt.join "" ys = textOf z n ns := by
      refine text_is _ _ _ _ ?_
      rw [← hys, join_eq, tl_join, show tl ("" : Str) = [] from rfl, List.map_map]
      have jn : ∀ ps : List (List Nat), joinL [] ps = ps.flatten := fun ps => by
        cases ps with
        | nil => rfl
        | cons q r =>
          rw [joinL_cons, List.flatten_cons]
          show q ++ (r.map fun x => [] ++ x).flatten = _
          simp only [List.nil_append, List.map_id']
      rw [jn]
      rfl
    have hJ : ((("fun " : Str) ++ z ++ " ") ++ strI n).length + (Txt.join "" ys).length = (textOf z n ns).length := by rw [← len_app, hT]
    refine ⟨"", D, ys, rfl, rfl, .inl (SqL.of hD1), ?_, _, _, rfl, rfl, sz_of (by show ((("fun " : Str) ++ z ++ " ") ++ strI n).length + (Txt.join "" ys).length ≤ 100000; omega), ?_⟩
    · have h1 : (ys.map (·.length)).sum ≤ ys.length * 3 := sum_le _ _ fun w hw => by
        rw [← hys] at hw
        obtain ⟨u, hu, rfl⟩ := List.mem_map.mp hw
        obtain ⟨m, hm, rfl⟩ := List.mem_map.mp hu
        have := lenI (hns m hm).1 (hns m hm).2
        rw [len_app]
        show 1 + (strI m).length ≤ 3
        omega
      have h2 : ys.length ≤ 4 := by
        rw [← hys, List.length_map, List.length_map]
        exact hl4
      show (ys.map (·.length)).sum + ys.length * 0 ≤ 16777216
      omega
    have hT' : ((("fun " : Str) ++ z ++ " ") ++ Str.ofString (toString n)) ++ Txt.join "" ys = textOf z n ns := hT
    rw [hT']
    generalize hline : textOf z n ns = line at hlen2
    refine ⟨_, rfl, _, rfl, _, rfl, rfl, rfl, fun x dx hx hdx ne => ?_⟩
    have ex0 := made_in (C := A.Signature) hx hdx
    have hL3 := eD _ _ hL
    have th : ∀ {H' : Hp} {ms : List Int}, ∀ x ∈ ms.map V.int, Th H' x := fun x hx => by
      obtain ⟨m, _, rfl⟩ := List.mem_map.mp hx
      exact .inr (.inr (.inr (.inl ⟨m, rfl⟩)))
    refine ⟨x, dx, .str z, .int n, .ref p, some (ns.map V.int), rfl, upd_same, rfl, th_str (by omega), .inr (.inr (.inr (.inl ⟨n, rfl⟩))), ⟨⟨p, rfl, .inl (ex0 _ _ hL3)⟩, th, by rw [List.length_map]; omega⟩, fun _ H4 t e4' h4 ht4 => ⟨rfl, ?_⟩, (fun h => by rw [sigOk_asc hz n0 (by omega) ha] at h; cases h)⟩
    have e4 := made_ex hx hdx e4'
    have sg : Sig K A.Signature H4 x z n ns := ⟨dx, t, h4, ht4⟩
    refine ⟨x, dx, _, rfl, h4, rfl, x, z, n, ns, rfl, sg, by omega, n0, by omega, hns, by omega, fun H5 e5 => ?_⟩
    rw [hline]
    refine ⟨_, rfl, .str line, _, _, _, true, rfl, .ty "str", .base (.str line), kit_ty (by decide +kernel), _, rfl, iteF ?_⟩
    refine ⟨_, rfl, _, rfl, rfl, _, rfl, ?_⟩
    rw [decide_eq_true rfl]
    refine iteF ?_
    refine ⟨_, rfl, line, rfl, by omega, fun H6 e6 => ⟨_, rfl, iteF ?_⟩⟩
    have e06 := (((e02.trans eD).trans e4).trans e5).trans e6
    refine ⟨3, rfl, forR1 ⟨by decide, by decide⟩ (fun i σ H' => (∃ v7, σ = [some (.ref a), some (.ref d), some (.str z), some (.int n), some (.ref p), some (.str line), some (.str line), v7, none, none]) ∧ Ex H0 H') ⟨⟨_, rfl⟩, e06⟩ ?_ ?_⟩
    · rintro i σ' H7 hi ⟨⟨v7, rfl⟩, e⟩
      refine ⟨_, rfl, _, rfl, d, line, rfl, e _ _ hd, by omega, fun y hy => ?_⟩
      exact ⟨y, rfl, by omega, fun H8 e8 => ⟨_, rfl, iteF ⟨⟨_, rfl⟩, e.trans e8⟩⟩⟩
    rintro σ' H7 ⟨⟨v7, rfl⟩, e7⟩
    let odd : List Str := [line ++ "\n", line ++ " ", " " ++ line, "\n" ++ line, line ++ "\n" ++ line, ""]
    have hodd : ∀ y ∈ odd, y.length ≤ 900 := by
      intro y hy
      have l1 : ("\n" : Str).length = 1 := by decide +kernel
      have l2 : (" " : Str).length = 1 := by decide +kernel
      simp only [odd, List.mem_cons, List.not_mem_nil, or_false] at hy
      rcases hy with rfl | rfl | rfl | rfl | rfl | rfl
      · rw [len_app]; omega
      · rw [len_app]; omega
      · rw [len_app]; omega
      · rw [len_app]; omega
      · rw [len_app, len_app]; omega
      · decide
    refine ⟨_, rfl, _, _, rfl, rfl, sz_of (by show line.length + 1 ≤ 100000; omega), _, rfl, _, _, rfl, rfl, sz_of (by show line.length + 1 ≤ 100000; omega), _, rfl, _, _, rfl, rfl, sz_of (by show 1 + line.length ≤ 100000; omega), _, rfl, _, _, rfl, rfl, sz_of (by show 1 + line.length ≤ 100000; omega), _, rfl, _, _, rfl, rfl, sz_of (by show line.length + 1 ≤ 100000; omega), _, rfl, _, _, rfl, rfl, sz_of (by rw [len_app]; show line.length + 1 + line.length ≤ 100000; omega), sz_of (by show 6 ≤ 100000; decide), fun u hu => ?_⟩
    have e8 := Ex.new (o := .lst (odd.map V.str)) hu
    have hu8 : upd H7 u (.lst (odd.map V.str)) u = some (.lst (odd.map V.str)) := upd_same
    show ∃ _, _
    refine ⟨u, rfl, ⟨_, SqL.of hu8⟩, for_list (xs := odd.map V.str) (fun i σ H' => (∃ v7 v8, σ = [some (.ref a), some (.ref d), some (.str z), some (.int n), some (.ref p), some (.str line), some (.str line), v7, v8, none]) ∧ Ex (upd H7 u (.lst (odd.map V.str))) H') ⟨⟨_, _, rfl⟩, Ex.refl _⟩ (fun i σ H' _ h => SqL.of (h.2 _ _ hu8)) ?_ ?_⟩
    · rintro i x σ' H' hi ⟨⟨v7, v8, rfl⟩, e⟩
      obtain ⟨y, hy, rfl⟩ := List.mem_map.mp (List.mem_of_getElem? hi)
      exact ⟨_, rfl, y, rfl, hodd y hy, fun H9 e9 => ⟨_, rfl, iteF ⟨⟨_, _, rfl⟩, e.trans e9⟩⟩⟩
    rintro σ' H9 ⟨⟨v7, v8, rfl⟩, e9⟩
    have e09 := (e7.trans e8).trans e9
    refine ⟨_, rfl, _, rfl, d, z, 0, rfl, e09 _ _ hd, hzl, by decide, by decide, fun y hy H10 e10 => ?_⟩
    refine ⟨y, rfl, by omega, fun H11 e11 => ⟨_, rfl, iteF ?_⟩⟩
    refine ⟨_, rfl, _, rfl, d, z, 1, rfl, ((e09.trans e10).trans e11) _ _ hd, hzl, by decide, by decide, fun y2 hy2 H12 e12 => ?_⟩
    exact ⟨_, _, rfl, rfl, sz_of (by show 4 + y2.length ≤ 100000; omega), _, rfl, by rw [len_app]; show 4 + y2.length ≤ 900; omega, fun H13 e13 => k _⟩

end
theorem all_mk {l : PySem.W.OpenLaw} {w : World} {K : PySem.W.Frag} {h : Heap} {mg : Str → Option Value} {fa : Addr} (X : K.In h) (G : h.Ns mainGlobals mg) (hfa : mg "law" = some (.ref fa))
    {f0 f1 f2 f3 f4 f5 f6 f7 f8 f9 f10 f11 f12 f13 f14 f15 f16 f17 f18 f19 f20 f21 f22 f23 : Addr}
    {od0 an0 od1 an1 od2 an2 od3 an3 od4 an4 od5 an5 od6 an6 od7 an7 od8 an8 od9 an9 od10 an10 od11 an11 od12 an12 od13 an13 od14 an14 od15 an15 od16 an16 od17 an17 od18 an18 od19 an19 od20 an20 od21 an21 od22 an22 od23 an23 : Option Addr}
    {sl0 sl1 sl2 sl3 sl4 sl5 sl6 sl7 sl8 sl9 sl10 sl11 sl12 sl13 sl14 sl15 sl16 sl17 sl18 sl19 sl20 sl21 sl22 sl23 : Array (Option Value)}
    {oc0 kV0 dc0 pm0 cd0 ct0 oc1 kV1 dc1 pm1 cd1 ct1 oc2 kV2 dc2 pm2 cd2 ct2 oc3 kV3 dc3 pm3 cd3 ct3 oc4 kV4 dc4 pm4 cd4 ct4 oc5 kV5 dc5 pm5 cd5 ct5 oc6 kV6 dc6 pm6 cd6 ct6 oc7 dc7 pm7 cd7 ct7 oc8 kV8 dc8 pm8 cd8 ct8 oc9 kV9 dc9 pm9 cd9 ct9 oc10 kV10 dc10 pm10 cd10 ct10 oc11 kV11 dc11 pm11 cd11 ct11 oc12 kV12 dc12 pm12 cd12 ct12 oc13 kV13 dc13 pm13 cd13 ct13 oc14 kV14 dc14 pm14 cd14 ct14 oc15 kV15 dc15 pm15 cd15 ct15 oc16 kV16 dc16 pm16 cd16 ct16 oc17 kV17 dc17 pm17 cd17 ct17 oc18 kV18 dc18 pm18 cd18 ct18 oc19 kV19 dc19 pm19 cd19 ct19 oc20 kV20 dc20 pm20 cd20 ct20 oc21 kV21 dc21 pm21 cd21 ct21 oc22 kV22 dc22 pm22 cd22 ct22 oc23 kV23 dc23 pm23 cd23 ct23 : Value}
    {xLivesError : Addr}
    {xInvalidSignature : Addr}
    {xSignature : Addr}
    {tDIGITS : Nat}
    {tLETTERS : Nat}
    {tMOST_CHARACTERS : Nat}
    {tMOST_PARAMETERS : Nat}
    {xNUMERALS : Addr} {vNUMERALS : List Value} {odNUMERALS : Option Addr} {nnNUMERALS : Nat} {slNUMERALS : Array (Option Value)}
    {xRESERVED : Addr} {vRESERVED : List Value} {odRESERVED : Option Addr} {nnRESERVED : Nat} {slRESERVED : Array (Option Value)}
    {dT0 : Addr} {dO0 : Option Addr} {dN0 : Nat} {dS0 : Array (Option Value)} {dt0x0 : Nat}
    {kD7 : Addr}
    {kT7sources : Addr} {kO7sources : Option Addr} {kN7sources : Nat} {kS7sources : Array (Option Value)}
    {pr9 : Addr} {re9 : List Value}
    {nmLivesError qLivesError : Str} {NLivesError : Addr} {bsLivesError bmLivesError : List Value} {snLivesError : List Str} {subLivesError : List Value} {abLivesError : Bool} {colLivesError : Option Bool} {ddLivesError : Option Addr} {m0LivesError m1LivesError m2LivesError m3LivesError m5LivesError : Option Value}
    {nmInvalidSignature qInvalidSignature : Str} {NInvalidSignature : Addr} {bsInvalidSignature bmInvalidSignature : List Value} {snInvalidSignature : List Str} {subInvalidSignature : List Value} {abInvalidSignature : Bool} {colInvalidSignature : Option Bool} {ddInvalidSignature : Option Addr} {m0InvalidSignature m1InvalidSignature m2InvalidSignature m3InvalidSignature m5InvalidSignature : Option Value}
    (aCLivesError : PySem.W.nsIn K mainGlobals "LivesError" = some (some (.ref xLivesError)))
    (aCInvalidSignature : PySem.W.nsIn K mainGlobals "InvalidSignature" = some (some (.ref xInvalidSignature)))
    (aCSignature : PySem.W.nsIn K mainGlobals "Signature" = some (some (.ref xSignature)))
    (a0 : PySem.W.nsIn K mainGlobals "copied" = some (some (.ref f0)))
    (l0 : K.lookup f0 = some ⟨oc0, od0, .func (PySem.W.fnOf "copied" "copied" (defArgs s_copied) (defBody s_copied) (defScope s_copied) (.ref dT0) kV0 dc0 pm0 an0 cd0 ct0), sl0⟩)
    (dl0 : K.lookup dT0 = some ⟨.type "tuple", dO0, .seq ([.int 4 dt0x0] : List Value).toArray dN0, dS0⟩)
    (c0 : PySem.W.codeIn K cd0 "copied" = true)
    (k0 : PySem.W.keepIn K (.ref f0) = true)
    (a1 : PySem.W.findIn K (.ref xLivesError) "__init__" = some (some (.ref f1)))
    (i1 : PySem.W.typeIn K (.ref f1) = some (.type "function"))
    (l1 : K.lookup f1 = some ⟨oc1, od1, .func (PySem.W.fnOf "__init__" "LivesError.__init__" (defArgs s_lives_init) (defBody s_lives_init) (defScope s_lives_init) .none kV1 dc1 pm1 an1 cd1 ct1), sl1⟩)
    (c1 : PySem.W.codeIn K cd1 "LivesError.__init__" = true)
    (k1 : PySem.W.keepIn K (.ref f1) = true)
    (a2 : PySem.W.nsIn K mainGlobals "is_whole" = some (some (.ref f2)))
    (l2 : K.lookup f2 = some ⟨oc2, od2, .func (PySem.W.fnOf "is_whole" "is_whole" (defArgs s_is_whole) (defBody s_is_whole) (defScope s_is_whole) .none kV2 dc2 pm2 an2 cd2 ct2), sl2⟩)
    (c2 : PySem.W.codeIn K cd2 "is_whole" = true)
    (k2 : PySem.W.keepIn K (.ref f2) = true)
    (a3 : PySem.W.nsIn K mainGlobals "is_integer_in" = some (some (.ref f3)))
    (l3 : K.lookup f3 = some ⟨oc3, od3, .func (PySem.W.fnOf "is_integer_in" "is_integer_in" (defArgs s_is_int) (defBody s_is_int) (defScope s_is_int) .none kV3 dc3 pm3 an3 cd3 ct3), sl3⟩)
    (c3 : PySem.W.codeIn K cd3 "is_integer_in" = true)
    (k3 : PySem.W.keepIn K (.ref f3) = true)
    (a4 : PySem.W.nsIn K mainGlobals "is_name" = some (some (.ref f4)))
    (l4 : K.lookup f4 = some ⟨oc4, od4, .func (PySem.W.fnOf "is_name" "is_name" (defArgs s_is_name) (defBody s_is_name) (defScope s_is_name) .none kV4 dc4 pm4 an4 cd4 ct4), sl4⟩)
    (c4 : PySem.W.codeIn K cd4 "is_name" = true)
    (k4 : PySem.W.keepIn K (.ref f4) = true)
    (a5 : PySem.W.nsIn K mainGlobals "are_sources" = some (some (.ref f5)))
    (l5 : K.lookup f5 = some ⟨oc5, od5, .func (PySem.W.fnOf "are_sources" "are_sources" (defArgs s_are_sources) (defBody s_are_sources) (defScope s_are_sources) .none kV5 dc5 pm5 an5 cd5 ct5), sl5⟩)
    (c5 : PySem.W.codeIn K cd5 "are_sources" = true)
    (k5 : PySem.W.keepIn K (.ref f5) = true)
    (a6 : PySem.W.nsIn K mainGlobals "is_signature" = some (some (.ref f6)))
    (l6 : K.lookup f6 = some ⟨oc6, od6, .func (PySem.W.fnOf "is_signature" "is_signature" (defArgs s_is_signature) (defBody s_is_signature) (defScope s_is_signature) .none kV6 dc6 pm6 an6 cd6 ct6), sl6⟩)
    (c6 : PySem.W.codeIn K cd6 "is_signature" = true)
    (k6 : PySem.W.keepIn K (.ref f6) = true)
    (a7 : PySem.W.findIn K (.ref xSignature) "__init__" = some (some (.ref f7)))
    (i7 : PySem.W.isFn K (.ref f7) = true)
    (l7 : K.lookup f7 = some ⟨oc7, od7, .func (PySem.W.fnOf "__init__" "Signature.__init__" (defArgs s_sig_init) (defBody s_sig_init) (defScope s_sig_init) .none (.ref kD7) dc7 pm7 an7 cd7 ct7), sl7⟩)
    (c7 : PySem.W.codeIn K cd7 "Signature.__init__" = true)
    (k7 : PySem.W.keepIn K (.ref f7) = true)
    (kw7sources : PySem.W.nsIn K kD7 "sources" = some (some (.ref kT7sources)))
    (kl7sources : K.lookup kT7sources = some ⟨.type "tuple", kO7sources, .seq (([] : List Value).toArray) kN7sources, kS7sources⟩)
    (a8 : PySem.W.findIn K (.ref xSignature) "text" = some (some (.ref f8)))
    (i8 : PySem.W.isFn K (.ref f8) = true)
    (l8 : K.lookup f8 = some ⟨oc8, od8, .func (PySem.W.fnOf "text" "Signature.text" (defArgs s_sig_text) (defBody s_sig_text) (defScope s_sig_text) .none kV8 dc8 pm8 an8 cd8 ct8), sl8⟩)
    (c8 : PySem.W.codeIn K cd8 "Signature.text" = true)
    (k8 : PySem.W.keepIn K (.ref f8) = true)
    (a9 : PySem.W.findCls K (.ref xSignature) (.type "type") "read" = some (.get (.builtin "staticmethod.__get__") (.ref pr9) .none (.ref xSignature)))
    (pc9 : PySem.W.recIn K pr9 "staticmethod" = some (.ref f9 :: re9))
    (rd9 : PySem.W.readsIn K xSignature (.type "type") = true)
    (rg9 : PySem.W.specialIn K (.ref xSignature) "__getattribute__" = some (some (.builtin "type.__getattribute__")))
    (l9 : K.lookup f9 = some ⟨oc9, od9, .func (PySem.W.fnOf "read" "Signature.read" (defArgs s_sig_read) (defBody s_sig_read) (defScope s_sig_read) .none kV9 dc9 pm9 an9 cd9 ct9), sl9⟩)
    (c9 : PySem.W.codeIn K cd9 "Signature.read" = true)
    (k9 : PySem.W.keepIn K (.ref f9) = true)
    (a10 : PySem.W.findIn K (.ref xSignature) "__eq__" = some (some (.ref f10)))
    (i10 : PySem.W.isFn K (.ref f10) = true)
    (l10 : K.lookup f10 = some ⟨oc10, od10, .func (PySem.W.fnOf "__eq__" "Signature.__eq__" (defArgs s_sig_eq) (defBody s_sig_eq) (defScope s_sig_eq) .none kV10 dc10 pm10 an10 cd10 ct10), sl10⟩)
    (c10 : PySem.W.codeIn K cd10 "Signature.__eq__" = true)
    (k10 : PySem.W.keepIn K (.ref f10) = true)
    (a11 : PySem.W.nsIn K mainGlobals "_law_draws" = some (some (.ref f11)))
    (l11 : K.lookup f11 = some ⟨oc11, od11, .func (PySem.W.fnOf "_law_draws" "_law_draws" (defArgs s_draws) (defBody s_draws) (defScope s_draws) .none kV11 dc11 pm11 an11 cd11 ct11), sl11⟩)
    (c11 : PySem.W.codeIn K cd11 "_law_draws" = true)
    (k11 : PySem.W.keepIn K (.ref f11) = true)
    (a12 : PySem.W.nsIn K mainGlobals "_law_take" = some (some (.ref f12)))
    (l12 : K.lookup f12 = some ⟨oc12, od12, .func (PySem.W.fnOf "_law_take" "_law_take" (defArgs s_take) (defBody s_take) (defScope s_take) .none kV12 dc12 pm12 an12 cd12 ct12), sl12⟩)
    (c12 : PySem.W.codeIn K cd12 "_law_take" = true)
    (k12 : PySem.W.keepIn K (.ref f12) = true)
    (a13 : PySem.W.nsIn K mainGlobals "_law_name" = some (some (.ref f13)))
    (l13 : K.lookup f13 = some ⟨oc13, od13, .func (PySem.W.fnOf "_law_name" "_law_name" (defArgs s_name) (defBody s_name) (defScope s_name) .none kV13 dc13 pm13 an13 cd13 ct13), sl13⟩)
    (c13 : PySem.W.codeIn K cd13 "_law_name" = true)
    (k13 : PySem.W.keepIn K (.ref f13) = true)
    (a14 : PySem.W.nsIn K mainGlobals "_law_words" = some (some (.ref f14)))
    (l14 : K.lookup f14 = some ⟨oc14, od14, .func (PySem.W.fnOf "_law_words" "_law_words" (defArgs s_words) (defBody s_words) (defScope s_words) .none kV14 dc14 pm14 an14 cd14 ct14), sl14⟩)
    (c14 : PySem.W.codeIn K cd14 "_law_words" = true)
    (k14 : PySem.W.keepIn K (.ref f14) = true)
    (a15 : PySem.W.nsIn K mainGlobals "_law_is_name" = some (some (.ref f15)))
    (l15 : K.lookup f15 = some ⟨oc15, od15, .func (PySem.W.fnOf "_law_is_name" "_law_is_name" (defArgs s_lname) (defBody s_lname) (defScope s_lname) .none kV15 dc15 pm15 an15 cd15 ct15), sl15⟩)
    (c15 : PySem.W.codeIn K cd15 "_law_is_name" = true)
    (k15 : PySem.W.keepIn K (.ref f15) = true)
    (a16 : PySem.W.nsIn K mainGlobals "_law_integer" = some (some (.ref f16)))
    (l16 : K.lookup f16 = some ⟨oc16, od16, .func (PySem.W.fnOf "_law_integer" "_law_integer" (defArgs s_integer) (defBody s_integer) (defScope s_integer) .none kV16 dc16 pm16 an16 cd16 ct16), sl16⟩)
    (c16 : PySem.W.codeIn K cd16 "_law_integer" = true)
    (k16 : PySem.W.keepIn K (.ref f16) = true)
    (a17 : PySem.W.nsIn K mainGlobals "_law_within" = some (some (.ref f17)))
    (l17 : K.lookup f17 = some ⟨oc17, od17, .func (PySem.W.fnOf "_law_within" "_law_within" (defArgs s_within) (defBody s_within) (defScope s_within) .none kV17 dc17 pm17 an17 cd17 ct17), sl17⟩)
    (c17 : PySem.W.codeIn K cd17 "_law_within" = true)
    (k17 : PySem.W.keepIn K (.ref f17) = true)
    (a18 : PySem.W.nsIn K mainGlobals "_law_sign" = some (some (.ref f18)))
    (l18 : K.lookup f18 = some ⟨oc18, od18, .func (PySem.W.fnOf "_law_sign" "_law_sign" (defArgs s_sign) (defBody s_sign) (defScope s_sign) .none kV18 dc18 pm18 an18 cd18 ct18), sl18⟩)
    (c18 : PySem.W.codeIn K cd18 "_law_sign" = true)
    (k18 : PySem.W.keepIn K (.ref f18) = true)
    (a19 : PySem.W.nsIn K mainGlobals "_law_spoilt_line" = some (some (.ref f19)))
    (l19 : K.lookup f19 = some ⟨oc19, od19, .func (PySem.W.fnOf "_law_spoilt_line" "_law_spoilt_line" (defArgs s_spoilt_line) (defBody s_spoilt_line) (defScope s_spoilt_line) .none kV19 dc19 pm19 an19 cd19 ct19), sl19⟩)
    (c19 : PySem.W.codeIn K cd19 "_law_spoilt_line" = true)
    (k19 : PySem.W.keepIn K (.ref f19) = true)
    (a20 : PySem.W.nsIn K mainGlobals "_law_words_line" = some (some (.ref f20)))
    (l20 : K.lookup f20 = some ⟨oc20, od20, .func (PySem.W.fnOf "_law_words_line" "_law_words_line" (defArgs s_words_line) (defBody s_words_line) (defScope s_words_line) .none kV20 dc20 pm20 an20 cd20 ct20), sl20⟩)
    (c20 : PySem.W.codeIn K cd20 "_law_words_line" = true)
    (k20 : PySem.W.keepIn K (.ref f20) = true)
    (a21 : PySem.W.nsIn K mainGlobals "_law_read_signature" = some (some (.ref f21)))
    (l21 : K.lookup f21 = some ⟨oc21, od21, .func (PySem.W.fnOf "_law_read_signature" "_law_read_signature" (defArgs s_read_signature) (defBody s_read_signature) (defScope s_read_signature) .none kV21 dc21 pm21 an21 cd21 ct21), sl21⟩)
    (c21 : PySem.W.codeIn K cd21 "_law_read_signature" = true)
    (k21 : PySem.W.keepIn K (.ref f21) = true)
    (a22 : PySem.W.nsIn K mainGlobals "_law_line_holds" = some (some (.ref f22)))
    (l22 : K.lookup f22 = some ⟨oc22, od22, .func (PySem.W.fnOf "_law_line_holds" "_law_line_holds" (defArgs s_line_holds) (defBody s_line_holds) (defScope s_line_holds) .none kV22 dc22 pm22 an22 cd22 ct22), sl22⟩)
    (c22 : PySem.W.codeIn K cd22 "_law_line_holds" = true)
    (k22 : PySem.W.keepIn K (.ref f22) = true)
    (a23 : PySem.W.nsIn K mainGlobals "law" = some (some (.ref f23)))
    (l23 : K.lookup f23 = some ⟨oc23, od23, .func (PySem.W.fnOf "law" "law" (defArgs s_law) (defBody s_law) (defScope s_law) .none kV23 dc23 pm23 an23 cd23 ct23), sl23⟩)
    (c23 : PySem.W.codeIn K cd23 "law" = true)
    (k23 : PySem.W.keepIn K (.ref f23) = true)
    (zValueError : PySem.W.nsIn K mainGlobals "ValueError" = some none)
    (zabs : PySem.W.nsIn K mainGlobals "abs" = some none)
    (zall : PySem.W.nsIn K mainGlobals "all" = some none)
    (zbool : PySem.W.nsIn K mainGlobals "bool" = some none)
    (zdict : PySem.W.nsIn K mainGlobals "dict" = some none)
    (zint : PySem.W.nsIn K mainGlobals "int" = some none)
    (zisinstance : PySem.W.nsIn K mainGlobals "isinstance" = some none)
    (zlen : PySem.W.nsIn K mainGlobals "len" = some none)
    (zlist : PySem.W.nsIn K mainGlobals "list" = some none)
    (zmin : PySem.W.nsIn K mainGlobals "min" = some none)
    (zrange : PySem.W.nsIn K mainGlobals "range" = some none)
    (zstr : PySem.W.nsIn K mainGlobals "str" = some none)
    (ztuple : PySem.W.nsIn K mainGlobals "tuple" = some none)
    (xL_LivesError : K.lookup xLivesError = some (excClassObj nmLivesError qLivesError xLivesError NLivesError bsLivesError bmLivesError true snLivesError subLivesError abLivesError colLivesError ddLivesError m0LivesError m1LivesError m2LivesError m3LivesError m5LivesError "ValueError.__new__"))
    (xR_LivesError : PySem.HandSPX.refsVE bmLivesError = true)
    (sa_LivesError : PySem.W.findIn K (.ref xLivesError) "__setattr__" = some (some (.builtin "object.__setattr__")))
    (eC_LivesError : PySem.W.subIn K (.ref xLivesError) (.type "BaseException") = some true)
    (tC_LivesError : PySem.W.typeIn K (.ref xLivesError) = some (.type "type"))
    (kc_LivesError : PySem.W.keepIn K (.ref xLivesError) = true)
    (nw_LivesError : PySem.W.findIn K (.ref xLivesError) "what" = some none)
    (ii_LivesError : PySem.W.findIn K (.ref xLivesError) "__init__" = some (some (.ref f1)))
    (ga_LivesError : PySem.W.findIn K (.ref xLivesError) "__getattribute__" = some (some (.builtin "BaseException.__getattribute__")))
    (gg_LivesError : PySem.W.findIn K (.ref xLivesError) "__getattr__" = some none)
    (hd_LivesError : PySem.W.hasDictIn K xLivesError = true)
    (xL_InvalidSignature : K.lookup xInvalidSignature = some (excClassObj nmInvalidSignature qInvalidSignature xInvalidSignature NInvalidSignature bsInvalidSignature bmInvalidSignature true snInvalidSignature subInvalidSignature abInvalidSignature colInvalidSignature ddInvalidSignature m0InvalidSignature m1InvalidSignature m2InvalidSignature m3InvalidSignature m5InvalidSignature "ValueError.__new__"))
    (xR_InvalidSignature : PySem.HandSPX.refsVE bmInvalidSignature = true)
    (sa_InvalidSignature : PySem.W.findIn K (.ref xInvalidSignature) "__setattr__" = some (some (.builtin "object.__setattr__")))
    (eC_InvalidSignature : PySem.W.subIn K (.ref xInvalidSignature) (.type "BaseException") = some true)
    (tC_InvalidSignature : PySem.W.typeIn K (.ref xInvalidSignature) = some (.type "type"))
    (kc_InvalidSignature : PySem.W.keepIn K (.ref xInvalidSignature) = true)
    (nw_InvalidSignature : PySem.W.findIn K (.ref xInvalidSignature) "what" = some none)
    (ii_InvalidSignature : PySem.W.findIn K (.ref xInvalidSignature) "__init__" = some (some (.ref f1)))
    (ga_InvalidSignature : PySem.W.findIn K (.ref xInvalidSignature) "__getattribute__" = some (some (.builtin "BaseException.__getattribute__")))
    (gg_InvalidSignature : PySem.W.findIn K (.ref xInvalidSignature) "__getattr__" = some none)
    (hd_InvalidSignature : PySem.W.hasDictIn K xInvalidSignature = true)
    (ha_InvalidSignature : PySem.W.findIn K (.ref xInvalidSignature) "__class__" = some (some (.builtin "object.__class__")))
    (hm_InvalidSignature : PySem.W.mroIn K xInvalidSignature (.type "object") = some true)
    (pg_Signature : PySem.W.plainGet K xSignature Str.empty = true)
    (hd_Signature : PySem.W.hasDictIn K xSignature = true)
    (po_Signature : PySem.W.plainOver K xSignature = true)
    (sa_Signature : PySem.W.findIn K (.ref xSignature) "__setattr__" = some (some (.builtin "object.__setattr__")))
    (mk_Signature : PySem.W.makesIn K xSignature = true)
    (kc_Signature : PySem.W.keepIn K (.ref xSignature) = true)
    (ha_Signature : PySem.W.findIn K (.ref xSignature) "__class__" = some (some (.builtin "object.__class__")))
    (hm_Signature : PySem.W.mroIn K xSignature (.type "object") = some true)
    (na_Signature_name : PySem.W.findIn K (.ref xSignature) "name" = some none)
    (na_Signature_count : PySem.W.findIn K (.ref xSignature) "count" = some none)
    (na_Signature_sources : PySem.W.findIn K (.ref xSignature) "sources" = some none)
    (hnO : PySem.W.specialIn K (.builtin "object.__class__") "__get__" = some (some (.builtin "getset_descriptor.__get__")))
    (htO : PySem.W.takesIn K (.builtin "object.__class__") = some true)
    (fa_tyS : PySem.W.typeIn K (.ref xSignature) = some (.type "type"))
    (fa_sb_str : PySem.W.subIn K (.type "str") (.ref xSignature) = some false)
    (fa_sb_tup : PySem.W.subIn K (.type "tuple") (.ref xSignature) = some false)
    (fa_si_ve : PySem.W.subIn K (.ref xInvalidSignature) (.type "ValueError") = some true)
    (fa_si_is : PySem.W.subIn K (.ref xInvalidSignature) (.ref xInvalidSignature) = some true)
    (fa_si_le : PySem.W.subIn K (.ref xInvalidSignature) (.ref xLivesError) = some true)
    (eDIGITS : PySem.W.nsIn K mainGlobals "DIGITS" = some (some (.str "0123456789" tDIGITS)))
    (eLETTERS : PySem.W.nsIn K mainGlobals "LETTERS" = some (some (.str "abcdefghijklmnopqrstuvwxyz" tLETTERS)))
    (eMOST_CHARACTERS : PySem.W.nsIn K mainGlobals "MOST_CHARACTERS" = some (some (.int 8 tMOST_CHARACTERS)))
    (eMOST_PARAMETERS : PySem.W.nsIn K mainGlobals "MOST_PARAMETERS" = some (some (.int 4 tMOST_PARAMETERS)))
    (eNUMERALS : PySem.W.nsIn K mainGlobals "NUMERALS" = some (some (.ref xNUMERALS)))
    (oNUMERALS : K.lookup xNUMERALS = some ⟨.type "tuple", odNUMERALS, .seq vNUMERALS.toArray nnNUMERALS, slNUMERALS⟩)
    (wNUMERALS : Vals k_NUMERALS vNUMERALS)
    (eRESERVED : PySem.W.nsIn K mainGlobals "RESERVED" = some (some (.ref xRESERVED)))
    (oRESERVED : K.lookup xRESERVED = some ⟨.type "tuple", odRESERVED, .seq vRESERVED.toArray nnRESERVED, slRESERVED⟩)
    (wRESERVED : Vals k_RESERVED vRESERVED)
    : ∃ fd : FuncData, (∀ (s : Shared) (v : Value), BindsTo s fd ⟨[v], []⟩ [("_law_script", v)]) ∧ ∀ base : Heap, K.In base → base.Ns mainGlobals mg → FnOk l.prog w K mg base CX0 9 fa fd ["_law_script"] (spLaw K) := by
  have e := hfa.symm.trans (PySem.W.mg_of X G a23)
  cases e
  have F1 := fun_mk (st := s_lives_init) l1 c1 k1
  have b1 := F1.binds (ps := p_lives_init) fun _ _ _ _ _ _ us hl => match us, hl with | [_, _], _ => rfl
  have F2 := fun_mk (st := s_is_whole) l2 c2 k2
  have b2 := F2.binds (ps := p_is_whole) fun _ _ _ _ _ _ us hl => match us, hl with | [_], _ => rfl
  have F3 := fun_mk (st := s_is_int) l3 c3 k3
  have b3 := F3.binds (ps := p_is_int) fun _ _ _ _ _ _ us hl => match us, hl with | [_, _, _], _ => rfl
  have F4 := fun_mk (st := s_is_name) l4 c4 k4
  have b4 := F4.binds (ps := p_is_name) fun _ _ _ _ _ _ us hl => match us, hl with | [_], _ => rfl
  have F5 := fun_mk (st := s_are_sources) l5 c5 k5
  have b5 := F5.binds (ps := p_are_sources) fun _ _ _ _ _ _ us hl => match us, hl with | [_, _], _ => rfl
  have F6 := fun_mk (st := s_is_signature) l6 c6 k6
  have b6 := F6.binds (ps := p_is_signature) fun _ _ _ _ _ _ us hl => match us, hl with | [_, _, _], _ => rfl
  have F8 := fun_mk (st := s_sig_text) l8 c8 k8
  have b8 := F8.binds (ps := p_sig_text) fun _ _ _ _ _ _ us hl => match us, hl with | [_], _ => rfl
  have F9 := fun_mk (st := s_sig_read) l9 c9 k9
  have b9 := F9.binds (ps := p_sig_read) fun _ _ _ _ _ _ us hl => match us, hl with | [_], _ => rfl
  have F10 := fun_mk (st := s_sig_eq) l10 c10 k10
  have b10 := F10.binds (ps := p_sig_eq) fun _ _ _ _ _ _ us hl => match us, hl with | [_, _], _ => rfl
  have F11 := fun_mk (st := s_draws) l11 c11 k11
  have b11 := F11.binds (ps := p_draws) fun _ _ _ _ _ _ us hl => match us, hl with | [_], _ => rfl
  have F12 := fun_mk (st := s_take) l12 c12 k12
  have b12 := F12.binds (ps := p_take) fun _ _ _ _ _ _ us hl => match us, hl with | [_, _], _ => rfl
  have F13 := fun_mk (st := s_name) l13 c13 k13
  have b13 := F13.binds (ps := p_name) fun _ _ _ _ _ _ us hl => match us, hl with | [_, _], _ => rfl
  have F14 := fun_mk (st := s_words) l14 c14 k14
  have b14 := F14.binds (ps := p_words) fun _ _ _ _ _ _ us hl => match us, hl with | [], _ => rfl
  have F15 := fun_mk (st := s_lname) l15 c15 k15
  have b15 := F15.binds (ps := p_lname) fun _ _ _ _ _ _ us hl => match us, hl with | [_], _ => rfl
  have F16 := fun_mk (st := s_integer) l16 c16 k16
  have b16 := F16.binds (ps := p_integer) fun _ _ _ _ _ _ us hl => match us, hl with | [_], _ => rfl
  have F17 := fun_mk (st := s_within) l17 c17 k17
  have b17 := F17.binds (ps := p_within) fun _ _ _ _ _ _ us hl => match us, hl with | [_, _], _ => rfl
  have F18 := fun_mk (st := s_sign) l18 c18 k18
  have b18 := F18.binds (ps := p_sign) fun _ _ _ _ _ _ us hl => match us, hl with | [_], _ => rfl
  have F19 := fun_mk (st := s_spoilt_line) l19 c19 k19
  have b19 := F19.binds (ps := p_spoilt_line) fun _ _ _ _ _ _ us hl => match us, hl with | [_, _], _ => rfl
  have F20 := fun_mk (st := s_words_line) l20 c20 k20
  have b20 := F20.binds (ps := p_words_line) fun _ _ _ _ _ _ us hl => match us, hl with | [_, _, _], _ => rfl
  have F21 := fun_mk (st := s_read_signature) l21 c21 k21
  have b21 := F21.binds (ps := p_read_signature) fun _ _ _ _ _ _ us hl => match us, hl with | [_], _ => rfl
  have F22 := fun_mk (st := s_line_holds) l22 c22 k22
  have b22 := F22.binds (ps := p_line_holds) fun _ _ _ _ _ _ us hl => match us, hl with | [_], _ => rfl
  have F23 := fun_mk (st := s_law) l23 c23 k23
  have b23 := F23.binds (ps := p_law) fun _ _ _ _ _ _ us hl => match us, hl with | [_], _ => rfl
  let A : Adr := ⟨f0, (PySem.W.fnOf "copied" "copied" (defArgs s_copied) (defBody s_copied) (defScope s_copied) (.ref dT0) kV0 dc0 pm0 an0 cd0 ct0), f1, (PySem.W.fnOf "__init__" "LivesError.__init__" (defArgs s_lives_init) (defBody s_lives_init) (defScope s_lives_init) .none kV1 dc1 pm1 an1 cd1 ct1), f2, (PySem.W.fnOf "is_whole" "is_whole" (defArgs s_is_whole) (defBody s_is_whole) (defScope s_is_whole) .none kV2 dc2 pm2 an2 cd2 ct2), f3, (PySem.W.fnOf "is_integer_in" "is_integer_in" (defArgs s_is_int) (defBody s_is_int) (defScope s_is_int) .none kV3 dc3 pm3 an3 cd3 ct3), f4, (PySem.W.fnOf "is_name" "is_name" (defArgs s_is_name) (defBody s_is_name) (defScope s_is_name) .none kV4 dc4 pm4 an4 cd4 ct4), f5, (PySem.W.fnOf "are_sources" "are_sources" (defArgs s_are_sources) (defBody s_are_sources) (defScope s_are_sources) .none kV5 dc5 pm5 an5 cd5 ct5), f6, (PySem.W.fnOf "is_signature" "is_signature" (defArgs s_is_signature) (defBody s_is_signature) (defScope s_is_signature) .none kV6 dc6 pm6 an6 cd6 ct6), f7, (PySem.W.fnOf "__init__" "Signature.__init__" (defArgs s_sig_init) (defBody s_sig_init) (defScope s_sig_init) .none (.ref kD7) dc7 pm7 an7 cd7 ct7), f8, (PySem.W.fnOf "text" "Signature.text" (defArgs s_sig_text) (defBody s_sig_text) (defScope s_sig_text) .none kV8 dc8 pm8 an8 cd8 ct8), f9, (PySem.W.fnOf "read" "Signature.read" (defArgs s_sig_read) (defBody s_sig_read) (defScope s_sig_read) .none kV9 dc9 pm9 an9 cd9 ct9), f10, (PySem.W.fnOf "__eq__" "Signature.__eq__" (defArgs s_sig_eq) (defBody s_sig_eq) (defScope s_sig_eq) .none kV10 dc10 pm10 an10 cd10 ct10), f11, (PySem.W.fnOf "_law_draws" "_law_draws" (defArgs s_draws) (defBody s_draws) (defScope s_draws) .none kV11 dc11 pm11 an11 cd11 ct11), f12, (PySem.W.fnOf "_law_take" "_law_take" (defArgs s_take) (defBody s_take) (defScope s_take) .none kV12 dc12 pm12 an12 cd12 ct12), f13, (PySem.W.fnOf "_law_name" "_law_name" (defArgs s_name) (defBody s_name) (defScope s_name) .none kV13 dc13 pm13 an13 cd13 ct13), f14, (PySem.W.fnOf "_law_words" "_law_words" (defArgs s_words) (defBody s_words) (defScope s_words) .none kV14 dc14 pm14 an14 cd14 ct14), f15, (PySem.W.fnOf "_law_is_name" "_law_is_name" (defArgs s_lname) (defBody s_lname) (defScope s_lname) .none kV15 dc15 pm15 an15 cd15 ct15), f16, (PySem.W.fnOf "_law_integer" "_law_integer" (defArgs s_integer) (defBody s_integer) (defScope s_integer) .none kV16 dc16 pm16 an16 cd16 ct16), f17, (PySem.W.fnOf "_law_within" "_law_within" (defArgs s_within) (defBody s_within) (defScope s_within) .none kV17 dc17 pm17 an17 cd17 ct17), f18, (PySem.W.fnOf "_law_sign" "_law_sign" (defArgs s_sign) (defBody s_sign) (defScope s_sign) .none kV18 dc18 pm18 an18 cd18 ct18), f19, (PySem.W.fnOf "_law_spoilt_line" "_law_spoilt_line" (defArgs s_spoilt_line) (defBody s_spoilt_line) (defScope s_spoilt_line) .none kV19 dc19 pm19 an19 cd19 ct19), f20, (PySem.W.fnOf "_law_words_line" "_law_words_line" (defArgs s_words_line) (defBody s_words_line) (defScope s_words_line) .none kV20 dc20 pm20 an20 cd20 ct20), f21, (PySem.W.fnOf "_law_read_signature" "_law_read_signature" (defArgs s_read_signature) (defBody s_read_signature) (defScope s_read_signature) .none kV21 dc21 pm21 an21 cd21 ct21), f22, (PySem.W.fnOf "_law_line_holds" "_law_line_holds" (defArgs s_line_holds) (defBody s_line_holds) (defScope s_line_holds) .none kV22 dc22 pm22 an22 cd22 ct22), fa, (PySem.W.fnOf "law" "law" (defArgs s_law) (defBody s_law) (defScope s_law) .none kV23 dc23 pm23 an23 cd23 ct23), kT7sources, pr9, xLivesError, xInvalidSignature, xSignature, tDIGITS, tLETTERS, tMOST_CHARACTERS, tMOST_PARAMETERS, xNUMERALS, xRESERVED⟩
  have T : Tx K mg A := {
    F_copied := ⟨⟨_, _, _, _, _, _, _, _, _, _, rfl, l0, c0, .inr ⟨(fun z => nomatch z), _, _, _, _, rfl, dl0, rfl, (.cons ⟨_, rfl⟩ .nil)⟩, .inl rfl⟩, k0⟩,
    g_copied := PySem.W.mg_of X G a0,
    F_lives_init := F1,
    b_lives_init := b1,
    ti_lives_init := i1,
    F_is_whole := F2,
    b_is_whole := b2,
    g_is_whole := PySem.W.mg_of X G a2,
    F_is_int := F3,
    b_is_int := b3,
    g_is_int := PySem.W.mg_of X G a3,
    F_is_name := F4,
    b_is_name := b4,
    g_is_name := PySem.W.mg_of X G a4,
    F_are_sources := F5,
    b_are_sources := b5,
    g_are_sources := PySem.W.mg_of X G a5,
    F_is_signature := F6,
    b_is_signature := b6,
    g_is_signature := PySem.W.mg_of X G a6,
    F_sig_init := ⟨⟨_, _, _, _, _, _, _, _, _, _, rfl, l7, c7, .inl ⟨rfl, rfl⟩, .inr ⟨_, rfl, fun q hq => by
      simp only [List.mem_cons, List.not_mem_nil, or_false] at hq
      rcases hq with rfl
      · exact ⟨_, kw7sources, rfl⟩⟩⟩, k7⟩,
    q_sig_init_sources := fun H => .inr ⟨_, _, _, kl7sources, rfl, rfl, by decide, .nil⟩,
    o_sig_init_sources := ⟨_, kl7sources, rfl⟩,
    e_sig_init := ⟨a7, i7, k7⟩,
    F_sig_text := F8,
    b_sig_text := b8,
    e_sig_text := ⟨a8, i8, k8⟩,
    F_sig_read := F9,
    b_sig_read := b9,
    sm_sig_read := ⟨rd9, rg9, a9, ⟨_, pc9⟩, k9⟩,
    F_sig_eq := F10,
    b_sig_eq := b10,
    e_sig_eq := ⟨a10, i10, k10⟩,
    F_draws := F11,
    b_draws := b11,
    g_draws := PySem.W.mg_of X G a11,
    F_take := F12,
    b_take := b12,
    g_take := PySem.W.mg_of X G a12,
    F_name := F13,
    b_name := b13,
    g_name := PySem.W.mg_of X G a13,
    F_words := F14,
    b_words := b14,
    g_words := PySem.W.mg_of X G a14,
    F_lname := F15,
    b_lname := b15,
    g_lname := PySem.W.mg_of X G a15,
    F_integer := F16,
    b_integer := b16,
    g_integer := PySem.W.mg_of X G a16,
    F_within := F17,
    b_within := b17,
    g_within := PySem.W.mg_of X G a17,
    F_sign := F18,
    b_sign := b18,
    g_sign := PySem.W.mg_of X G a18,
    F_spoilt_line := F19,
    b_spoilt_line := b19,
    g_spoilt_line := PySem.W.mg_of X G a19,
    F_words_line := F20,
    b_words_line := b20,
    g_words_line := PySem.W.mg_of X G a20,
    F_read_signature := F21,
    b_read_signature := b21,
    g_read_signature := PySem.W.mg_of X G a21,
    F_line_holds := F22,
    b_line_holds := b22,
    g_line_holds := PySem.W.mg_of X G a22,
    F_law := F23,
    b_law := b23,
    g_law := PySem.W.mg_of X G a23,
    m_ValueError := PySem.W.mg_none_of X G zValueError,
    m_abs := PySem.W.mg_none_of X G zabs,
    m_all := PySem.W.mg_none_of X G zall,
    m_bool := PySem.W.mg_none_of X G zbool,
    m_dict := PySem.W.mg_none_of X G zdict,
    m_int := PySem.W.mg_none_of X G zint,
    m_isinstance := PySem.W.mg_none_of X G zisinstance,
    m_len := PySem.W.mg_none_of X G zlen,
    m_list := PySem.W.mg_none_of X G zlist,
    m_min := PySem.W.mg_none_of X G zmin,
    m_range := PySem.W.mg_none_of X G zrange,
    m_str := PySem.W.mg_none_of X G zstr,
    m_tuple := PySem.W.mg_none_of X G ztuple,
    g_LivesError := PySem.W.mg_of X G aCLivesError,
    ex_LivesError := ⟨⟨⟨_, _, _, _, _, _, _, _, _, _, _, _, _, _, _, xL_LivesError, xR_LivesError⟩, sa_LivesError, eC_LivesError, tC_LivesError, kc_LivesError⟩, ii_LivesError, nw_LivesError, ⟨ga_LivesError, gg_LivesError, eC_LivesError, hd_LivesError⟩⟩,
    g_InvalidSignature := PySem.W.mg_of X G aCInvalidSignature,
    ex_InvalidSignature := ⟨⟨⟨_, _, _, _, _, _, _, _, _, _, _, _, _, _, _, xL_InvalidSignature, xR_InvalidSignature⟩, sa_InvalidSignature, eC_InvalidSignature, tC_InvalidSignature, kc_InvalidSignature⟩, ii_InvalidSignature, nw_InvalidSignature, ⟨ga_InvalidSignature, gg_InvalidSignature, eC_InvalidSignature, hd_InvalidSignature⟩⟩,
    xi_InvalidSignature := ⟨UL.cls_some hd_InvalidSignature, ga_InvalidSignature, gg_InvalidSignature, eC_InvalidSignature, ha_InvalidSignature, hnO, htO, hm_InvalidSignature⟩,
    g_Signature := PySem.W.mg_of X G aCSignature,
    cl_Signature := ⟨pg_Signature, hd_Signature, po_Signature, sa_Signature⟩,
    ty_Signature := ⟨ha_Signature, hnO, htO, hm_Signature⟩,
    mk_Signature := ⟨mk_Signature, a7, i7, kc_Signature⟩,
    na_Signature_name := na_Signature_name,
    na_Signature_count := na_Signature_count,
    na_Signature_sources := na_Signature_sources,
    ks_str := UL.kit_type_ref hd_Signature fa_tyS fa_sb_str,
    ks_tup := UL.kit_type_ref hd_Signature fa_tyS fa_sb_tup,
    ks_own := UL.kit_own,
    kv_ve := UL.kit_ref_type (by decide +kernel) fa_si_ve,
    kv_is := UL.kit_own,
    te1 := UL.exm_cls eC_InvalidSignature hd_InvalidSignature tC_InvalidSignature fa_si_is,
    te2 := UL.exm_cls eC_LivesError hd_LivesError tC_LivesError fa_si_le,
    tyS := fa_tyS,
    sb_str := fa_sb_str,
    sb_tup := fa_sb_tup,
    si_ve := fa_si_ve,
    si_is := fa_si_is,
    si_le := fa_si_le,
    c_DIGITS := PySem.W.mg_of X G eDIGITS,
    c_LETTERS := PySem.W.mg_of X G eLETTERS,
    c_MOST_CHARACTERS := PySem.W.mg_of X G eMOST_CHARACTERS,
    c_MOST_PARAMETERS := PySem.W.mg_of X G eMOST_PARAMETERS,
    c_NUMERALS := PySem.W.mg_of X G eNUMERALS,
    q_NUMERALS := fun H => .inr ⟨_, _, _, oNUMERALS, rfl, rfl, (by rw [List.size_toArray, ← Paired.length wNUMERALS]; decide), wNUMERALS⟩,
    o_NUMERALS := ⟨_, oNUMERALS, rfl⟩,
    c_RESERVED := PySem.W.mg_of X G eRESERVED,
    q_RESERVED := fun H => .inr ⟨_, _, _, oRESERVED, rfl, rfl, (by rw [List.size_toArray, ← Paired.length wRESERVED]; decide), wRESERVED⟩,
    o_RESERVED := ⟨_, oRESERVED, rfl⟩ }
  exact ⟨_, fun s v => .of_eq rfl, fun base _ _ => ok_law T⟩
end K03
open PySem PySem.W PyProof.Rows
set_option maxHeartbeats 0 in
theorem PySem.Challenge.cw_unnamedlives_k03_signature_text_holds : PySem.Challenge.rw_unnamedlives_k03_signature_text.Holds := by
  w_on; o_law; k_head; (case hw => w_witness2)
  k_fill
  refine L2.walk_of (l := PySem.Challenge.rw_unnamedlives_k03_signature_text) (n := 63) (k := 9) (x := "_law_script") (CX := fun _ => L2.CX0) (sp := fun w => K03.spLaw _) rfl (by decide) rfl ⟨rfl, by decide, by decide⟩ (fun w h Y => PySem.W.kIn_of Y) ?F (fun _ _ a ns hl _ hS => ⟨a, ns, rfl, hS, hl, fun _ => rfl⟩) (fun _ _ _ _ _ h => h)
  case F =>
    intro w mg fa h KX G hmg
    refine' K03.all_mk KX G hmg ?aCLivesError ?aCInvalidSignature ?aCSignature ?a0 ?l0 ?dl0 ?c0 ?k0 ?a1 ?i1 ?l1 ?c1 ?k1 ?a2 ?l2 ?c2 ?k2 ?a3 ?l3 ?c3 ?k3 ?a4 ?l4 ?c4 ?k4 ?a5 ?l5 ?c5 ?k5 ?a6 ?l6 ?c6 ?k6 ?a7 ?i7 ?l7 ?c7 ?k7 ?kw7sources ?kl7sources ?a8 ?i8 ?l8 ?c8 ?k8 ?a9 ?pc9 ?rd9 ?rg9 ?l9 ?c9 ?k9 ?a10 ?i10 ?l10 ?c10 ?k10 ?a11 ?l11 ?c11 ?k11 ?a12 ?l12 ?c12 ?k12 ?a13 ?l13 ?c13 ?k13 ?a14 ?l14 ?c14 ?k14 ?a15 ?l15 ?c15 ?k15 ?a16 ?l16 ?c16 ?k16 ?a17 ?l17 ?c17 ?k17 ?a18 ?l18 ?c18 ?k18 ?a19 ?l19 ?c19 ?k19 ?a20 ?l20 ?c20 ?k20 ?a21 ?l21 ?c21 ?k21 ?a22 ?l22 ?c22 ?k22 ?a23 ?l23 ?c23 ?k23 ?zValueError ?zabs ?zall ?zbool ?zdict ?zint ?zisinstance ?zlen ?zlist ?zmin ?zrange ?zstr ?ztuple ?xL_LivesError ?xR_LivesError ?sa_LivesError ?eC_LivesError ?tC_LivesError ?kc_LivesError ?nw_LivesError ?ii_LivesError ?ga_LivesError ?gg_LivesError ?hd_LivesError ?xL_InvalidSignature ?xR_InvalidSignature ?sa_InvalidSignature ?eC_InvalidSignature ?tC_InvalidSignature ?kc_InvalidSignature ?nw_InvalidSignature ?ii_InvalidSignature ?ga_InvalidSignature ?gg_InvalidSignature ?hd_InvalidSignature ?ha_InvalidSignature ?hm_InvalidSignature ?pg_Signature ?hd_Signature ?po_Signature ?sa_Signature ?mk_Signature ?kc_Signature ?ha_Signature ?hm_Signature ?na_Signature_name ?na_Signature_count ?na_Signature_sources ?hnO ?htO ?fa_tyS ?fa_sb_str ?fa_sb_tup ?fa_si_ve ?fa_si_is ?fa_si_le ?eDIGITS ?eLETTERS ?eMOST_CHARACTERS ?eMOST_PARAMETERS ?eNUMERALS ?oNUMERALS ?wNUMERALS ?eRESERVED ?oRESERVED ?wRESERVED
    (case aCLivesError => k_is)
    (case aCInvalidSignature => k_is)
    (case aCSignature => k_is)
    (case a0 => k_is)
    (case l0 => k_is)
    (case dl0 => k_is)
    (case c0 => k_is)
    (case k0 => k_is)
    (case a1 => k_is)
    (case i1 => k_is)
    (case l1 => k_is)
    (case c1 => k_is)
    (case k1 => k_is)
    (case a2 => k_is)
    (case l2 => k_is)
    (case c2 => k_is)
    (case k2 => k_is)
    (case a3 => k_is)
    (case l3 => k_is)
    (case c3 => k_is)
    (case k3 => k_is)
    (case a4 => k_is)
    (case l4 => k_is)
    (case c4 => k_is)
    (case k4 => k_is)
    (case a5 => k_is)
    (case l5 => k_is)
    (case c5 => k_is)
    (case k5 => k_is)
    (case a6 => k_is)
    (case l6 => k_is)
    (case c6 => k_is)
    (case k6 => k_is)
    (case a7 => k_is)
    (case i7 => k_is)
    (case l7 => k_is)
    (case c7 => k_is)
    (case k7 => k_is)
    (case kw7sources => k_is)
    (case kl7sources => k_is)
    (case a8 => k_is)
    (case i8 => k_is)
    (case l8 => k_is)
    (case c8 => k_is)
    (case k8 => k_is)
    (case a9 => k_is)
    (case pc9 => k_is)
    (case rd9 => k_is)
    (case rg9 => k_is)
    (case l9 => k_is)
    (case c9 => k_is)
    (case k9 => k_is)
    (case a10 => k_is)
    (case i10 => k_is)
    (case l10 => k_is)
    (case c10 => k_is)
    (case k10 => k_is)
    (case a11 => k_is)
    (case l11 => k_is)
    (case c11 => k_is)
    (case k11 => k_is)
    (case a12 => k_is)
    (case l12 => k_is)
    (case c12 => k_is)
    (case k12 => k_is)
    (case a13 => k_is)
    (case l13 => k_is)
    (case c13 => k_is)
    (case k13 => k_is)
    (case a14 => k_is)
    (case l14 => k_is)
    (case c14 => k_is)
    (case k14 => k_is)
    (case a15 => k_is)
    (case l15 => k_is)
    (case c15 => k_is)
    (case k15 => k_is)
    (case a16 => k_is)
    (case l16 => k_is)
    (case c16 => k_is)
    (case k16 => k_is)
    (case a17 => k_is)
    (case l17 => k_is)
    (case c17 => k_is)
    (case k17 => k_is)
    (case a18 => k_is)
    (case l18 => k_is)
    (case c18 => k_is)
    (case k18 => k_is)
    (case a19 => k_is)
    (case l19 => k_is)
    (case c19 => k_is)
    (case k19 => k_is)
    (case a20 => k_is)
    (case l20 => k_is)
    (case c20 => k_is)
    (case k20 => k_is)
    (case a21 => k_is)
    (case l21 => k_is)
    (case c21 => k_is)
    (case k21 => k_is)
    (case a22 => k_is)
    (case l22 => k_is)
    (case c22 => k_is)
    (case k22 => k_is)
    (case a23 => k_is)
    (case l23 => k_is)
    (case c23 => k_is)
    (case k23 => k_is)
    (case zValueError => k_is)
    (case zabs => k_is)
    (case zall => k_is)
    (case zbool => k_is)
    (case zdict => k_is)
    (case zint => k_is)
    (case zisinstance => k_is)
    (case zlen => k_is)
    (case zlist => k_is)
    (case zmin => k_is)
    (case zrange => k_is)
    (case zstr => k_is)
    (case ztuple => k_is)
    (case xL_LivesError => k_is)
    (case xR_LivesError => decide +kernel)
    (case sa_LivesError => k_is)
    (case eC_LivesError => k_is)
    (case tC_LivesError => k_is)
    (case kc_LivesError => k_is)
    (case nw_LivesError => k_is)
    (case ii_LivesError => k_is)
    (case ga_LivesError => k_is)
    (case gg_LivesError => k_is)
    (case hd_LivesError => k_is)
    (case xL_InvalidSignature => k_is)
    (case xR_InvalidSignature => decide +kernel)
    (case sa_InvalidSignature => k_is)
    (case eC_InvalidSignature => k_is)
    (case tC_InvalidSignature => k_is)
    (case kc_InvalidSignature => k_is)
    (case nw_InvalidSignature => k_is)
    (case ii_InvalidSignature => k_is)
    (case ga_InvalidSignature => k_is)
    (case gg_InvalidSignature => k_is)
    (case hd_InvalidSignature => k_is)
    (case ha_InvalidSignature => k_is)
    (case hm_InvalidSignature => k_is)
    (case pg_Signature => k_is)
    (case hd_Signature => k_is)
    (case po_Signature => k_is)
    (case sa_Signature => k_is)
    (case mk_Signature => k_is)
    (case kc_Signature => k_is)
    (case ha_Signature => k_is)
    (case hm_Signature => k_is)
    (case na_Signature_name => k_is)
    (case na_Signature_count => k_is)
    (case na_Signature_sources => k_is)
    (case hnO => k_is)
    (case htO => k_is)
    (case fa_tyS => k_is)
    (case fa_sb_str => k_is)
    (case fa_sb_tup => k_is)
    (case fa_si_ve => k_is)
    (case fa_si_is => k_is)
    (case fa_si_le => k_is)
    (case eDIGITS => k_is)
    (case eLETTERS => k_is)
    (case eMOST_CHARACTERS => k_is)
    (case eMOST_PARAMETERS => k_is)
    (case eNUMERALS => k_is)
    (case oNUMERALS => k_is)
    (case wNUMERALS => exact UL.vals_of rfl)
    (case eRESERVED => k_is)
    (case oRESERVED => k_is)
    (case wRESERVED => exact UL.vals_of rfl)
