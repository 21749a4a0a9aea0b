import PyProof.Rows.All
import Wide.All
import OpenK.AllK
import Wide.FinOn
import HandS.ForMost
import HandS.FStr
import HandS.TupAny
import HandS.TupMul
import HandS.Evl
import HandS.Lambda
import PyProof.ReprRoads
import PyProof.AutoSeq1
import HandS.Star
import PySem.Challenge.RW_fairshown_k08_texts_written
set_option Elab.async false
set_option linter.all false
set_option maxRecDepth 100000
/-! Tuples that are known to hold nothing but their items: made by a display, by tuple(a list), by a slice. -/
namespace Fsh
open PySem PySem.Spec PyProof.Rows L2
def isPr : PyData → Bool
  | .tuple [.int _, .int _] => true
  | _ => false
/-- all are pairs of ints -/
def pairsD (ds : List PyData) : Bool := ds.all isPr
def PlT (K : PySem.W.Frag) (B : Hp) (p : Addr) : Prop := (∃ o vs, B p = some (.frz o (.tup vs)) ∧ o.dict = none) ∨ ∃ o, K.lookup p = some o ∧ o.dict = none
/-- a new tuple that nobody writes -/
abbrev NewT (xs : List V) (H : Hp) (Q : VK) : Prop := ∀ (p : Addr) (o : Obj), H p = none → o.dict = none → Q (.ref p) (upd H p (.frz o (.tup xs)))
section
variable {X : Cx} {pins : List (Addr × Obj)} {σ : L2.St} {H : Hp} {s : Shared}
theorem laidT {xs : List V} {its : List Value} (I : Inv X pins σ H s) (r : Vals xs its) (z : xs.length ≤ sizeLine) {Q : VK} (q : NewT xs H Q) :
    EP X pins σ Q (.ref s.heap.objs.size) { s with heap := s.heap.push { cls := .type "tuple", data := .seq its.toArray } } := by
  have J := I.laid (a := s.heap.objs.size) (o := .frz { cls := .type "tuple", data := .seq its.toArray } (.tup xs)) (t' := s.toks) (h' := s.heap.push { cls := .type "tuple", data := .seq its.toArray }) (fun b u e => Heap.get?_push_of_some _ e) (Nat.le_refl _)
    ⟨Heap.get?_push_size _ rfl, z, its, r, IsTup.new _ _⟩
  exact ⟨.ref s.heap.objs.size, _, J, rfl, q _ _ (I.hok.fresh (Nat.le_refl _)) rfl⟩
end
section
variable {X : Cx} {es : List Expr} {pos : Pos} {t : TA}
def tTupP (t : TA) : TE := fun σ H Q => t σ H fun xs H1 => xs.length ≤ sizeLine ∧ NewT xs H1 Q
theorem pe_tupP {x1 : Nat} (h : PA X es t) : PE X (.Tuple es x1 pos) (tTupP t) :=
  ⟨fun pins s σ H Q I hq => wpAny_Tuple_spliced (thn (h.run pos pins s σ H _ I hq) fun us s1 w => by
    obtain ⟨xs, H1, I1, r, z, q⟩ := w
    exact ⟨Nat.le_trans (Nat.le_of_eq r.length.symm) z, laidT I1 r z q⟩)⟩
def rTupP (K : PySem.W.Frag) : List V → Hp → VK → Prop := fun xs H Q => ∃ p ys, xs = [.ref p] ∧ ((SqL K H p ys ∧ NewT ys H Q) ∨ (SqT K H p ys ∧ Q (.ref p) H))
theorem call_tupP : CallR X (.type "tuple") (rTupP X.K) := fun pins s σ H xs us Q I r hh => by
  obtain ⟨p, ys, ex, hh⟩ := hh
  subst ex
  obtain ⟨u, eu, ru⟩ := vals1 r
  subst eu
  cases ru
  rcases hh with ⟨hs, q⟩ | ⟨hs, q⟩
  · obtain ⟨its, rv, pl, hz⟩ := I.list hs
    have hl : its.toArray.size ≤ sizeLine := by
      rw [List.size_toArray, ← rv.length]
      exact hz
    exact call_tuple_list pl.isList (fun h' kp => laidT (I.kept (t' := s.toks) kp) rv hz q) hl
  · obtain ⟨its, rv, pt, hz⟩ := I.tuple hs
    exact call_tuple_same pt ⟨.ref p, H, I, rfl, q⟩
def rSlP (K : PySem.W.Frag) : V → Option Int → Option Int → Hp → VK → Prop := fun x lo hi H Q => ∃ a xs, x = .ref a ∧ SqT K H a xs ∧
  ((HT.sIx xs.length 0 lo = 0 ∧ HT.sIx xs.length xs.length hi = xs.length) → Q (.ref a) H) ∧ (¬ (HT.sIx xs.length 0 lo = 0 ∧ HT.sIx xs.length xs.length hi = xs.length) → NewT (cutV xs lo hi) H Q)
theorem sl_tupP : SlR X (rSlP X.K) := fun pins s σ H x v vl vu lo hi sl Q I rx hs pl pu hh => by
  obtain ⟨a, xs, ex, hx, q1, q2⟩ := hh
  subst ex
  cases rx
  obtain ⟨its, r, ht, hz⟩ := I.tuple hx
  have el : its.toArray.size = xs.length := (List.size_toArray).trans r.length.symm
  refine ⟨"tuple", _, PyProof.Rows.slot_tuple_getitem.lookup, ht.typeIs, ?_⟩
  by_cases w : HT.sIx xs.length 0 lo = 0 ∧ HT.sIx xs.length xs.length hi = xs.length
  · refine getItem_tuple_whole ht hs pl pu ?_ ⟨.ref a, H, I, rfl, q1 w⟩
    rw [el]
    exact w
  · refine HT.getItem_tuple_cut ht hs pl pu (by rw [el]; exact w) ?_ (by rw [el]; exact hz)
    rw [el]
    exact laidT I ((r.drop (HT.sIx xs.length 0 lo)).take (HT.sIx xs.length xs.length hi - HT.sIx xs.length 0 lo)) (Nat.le_trans (cutV_length xs lo hi) hz) (q2 w)
end
end Fsh

set_option Elab.async false
set_option linter.all false
set_option maxRecDepth 100000
/-! A program logic over data: what an expression gives, told by plain data, an environment and a store. -/
namespace Fsh
open PySem PySem.Spec PyProof.Rows L2
abbrev Ex := Evl.Ex

/-! ### data in a heap that is never written -/
/-- a key as data; a dict's pairs as data -/
def kD : Key → PyData
  | .inl i => .int i
  | .inr s => .str s
def dctD (kds : List (Key × PyData)) : List (PyData × PyData) := kds.map fun p => (kD p.1, p.2)
theorem kD_inj {a b : Key} (h : kD a = kD b) : a = b := by
  cases a <;> cases b <;> simp [kD] at h <;> rw [h]
theorem dctD_inj : ∀ {a b : List (Key × PyData)}, dctD a = dctD b → a = b
  | [], [], _ => rfl
  | [], _ :: _, h => by simp [dctD] at h
  | _ :: _, [], h => by simp [dctD] at h
  | (k, d) :: a, (j, e) :: b, h => by
    have h1 : (kD k, d) :: dctD a = (kD j, e) :: dctD b := h
    obtain ⟨h2, h3⟩ := List.cons.inj h1
    obtain ⟨h4, h5⟩ := Prod.mk.inj h2
    rw [kD_inj h4, h5, dctD_inj h3]
mutual
inductive Rp (K : PySem.W.Frag) (B : Hp) : V → PyData → Prop
  | rnon : Rp K B .non .none
  | rbl (t : Bool) : Rp K B (.bl t) (.bool t)
  | rint (n : Int) : Rp K B (.int n) (.int n)
  | rstr (z : Str) : Rp K B (.str z) (.str z)
  | rlst {p : Addr} {vs : List V} {ds : List PyData} (h : SqL K B p vs) (r : Rps K B vs ds) : Rp K B (.ref p) (.list ds)
  | rtup {p : Addr} {vs : List V} {ds : List PyData} (h : SqT K B p vs) (r : Rps K B vs ds) (pl : pairsD ds = true → PlT K B p) : Rp K B (.ref p) (.tuple ds)
  | rdct {p : Addr} {o : Obj} {kvs : List (Key × V)} {kds : List (Key × PyData)} (h : B p = some (.frz o (.dK kvs))) (hk : kvs.map (·.1) = kds.map (·.1)) (r : Rps K B (kvs.map (·.2)) (kds.map (·.2))) : Rp K B (.ref p) (.dict (dctD kds))
inductive Rps (K : PySem.W.Frag) (B : Hp) : List V → List PyData → Prop
  | nil : Rps K B [] []
  | cons {v : V} {d : PyData} {vs : List V} {ds : List PyData} (h : Rp K B v d) (r : Rps K B vs ds) : Rps K B (v :: vs) (d :: ds)
end
section
variable {K : PySem.W.Frag} {B B2 : Hp}
theorem PlT.mono (e : Ex B B2) {p : Addr} : PlT K B p → PlT K B2 p
  | .inl ⟨o, vs, h, d⟩ => .inl ⟨o, vs, e _ _ h, d⟩
  | .inr h => .inr h
mutual
theorem Rp.mono (e : Ex B B2) : ∀ {v : V} {d : PyData}, Rp K B v d → Rp K B2 v d
  | _, _, .rnon => .rnon
  | _, _, .rbl t => .rbl t
  | _, _, .rint n => .rint n
  | _, _, .rstr z => .rstr z
  | _, _, .rlst h r => .rlst (Evl.ex_l e h) (Rps.mono e r)
  | _, _, .rtup h r pl => .rtup (Evl.ex_t e h) (Rps.mono e r) fun z => (pl z).mono e
  | _, _, .rdct h hk r => .rdct (e _ _ h) hk (Rps.mono e r)
theorem Rps.mono (e : Ex B B2) : ∀ {vs : List V} {ds : List PyData}, Rps K B vs ds → Rps K B2 vs ds
  | _, _, .nil => .nil
  | _, _, .cons h r => .cons (Rp.mono e h) (Rps.mono e r)
end
theorem Rps.len : ∀ {vs : List V} {ds : List PyData}, Rps K B vs ds → vs.length = ds.length
  | _, _, .nil => rfl
  | _, _, .cons _ r => congrArg Nat.succ r.len
theorem Rps.at : ∀ {vs : List V} {ds : List PyData} {i : Nat} {d : PyData}, Rps K B vs ds → ds[i]? = some d → ∃ v, vs[i]? = some v ∧ Rp K B v d
  | _, _, _, _, .nil, h => by simp at h
  | _, _, 0, _, .cons h _, e => by
    simp at e
    subst e
    exact ⟨_, rfl, h⟩
  | _, _, i + 1, _, .cons _ r, e => by
    obtain ⟨v, h1, h2⟩ := r.at (i := i) (by simpa using e)
    exact ⟨v, by simpa using h1, h2⟩
theorem Rps.back : ∀ {vs : List V} {ds : List PyData} {i : Nat} {v : V}, Rps K B vs ds → vs[i]? = some v → ∃ d, ds[i]? = some d ∧ Rp K B v d
  | _, _, _, _, .nil, h => by simp at h
  | _, _, 0, _, .cons h _, e => by
    simp at e
    subst e
    exact ⟨_, rfl, h⟩
  | _, _, i + 1, _, .cons _ r, e => by
    obtain ⟨v, h1, h2⟩ := r.back (i := i) (by simpa using e)
    exact ⟨v, by simpa using h1, h2⟩
theorem Rps.app : ∀ {vs ws : List V} {ds es : List PyData}, Rps K B vs ds → Rps K B ws es → Rps K B (vs ++ ws) (ds ++ es)
  | _, _, _, _, .nil, s => s
  | _, _, _, _, .cons h r, s => .cons h (r.app s)
theorem Rps.drop : ∀ {vs : List V} {ds : List PyData} (n : Nat), Rps K B vs ds → Rps K B (vs.drop n) (ds.drop n)
  | _, _, 0, r => r
  | _, _, _ + 1, .nil => .nil
  | _, _, n + 1, .cons _ r => r.drop n
theorem Rps.take : ∀ {vs : List V} {ds : List PyData} (n : Nat), Rps K B vs ds → Rps K B (vs.take n) (ds.take n)
  | _, _, 0, _ => .nil
  | _, _, _ + 1, .nil => .nil
  | _, _, n + 1, .cons h r => .cons h (r.take n)
theorem Rps.strs : ∀ {l : List Str} {vs : List V}, Rps K B vs (l.map PyData.str) → vs = l.map V.str
  | [], _, .nil => rfl
  | x :: l, _, .cons h r => by
    cases h
    rw [Rps.strs r]
    rfl
theorem Rps.ints : ∀ {l : List Int} {vs : List V}, Rps K B vs (l.map PyData.int) → vs = l.map V.int
  | [], _, .nil => rfl
  | x :: l, _, .cons h r => by
    cases h
    rw [Rps.ints r]
    rfl
theorem Rps.of_ints : ∀ (l : List Int), Rps K B (l.map V.int) (l.map PyData.int)
  | [] => .nil
  | x :: l => .cons (.rint x) (Rps.of_ints l)
/-- a dict with its keys -/
theorem Rp.dct {v : V} {kds : List (Key × PyData)} (r : Rp K B v (.dict (dctD kds))) : ∃ p o kvs, v = .ref p ∧ B p = some (.frz o (.dK kvs)) ∧ kvs.map (·.1) = kds.map (·.1) ∧ Rps K B (kvs.map (·.2)) (kds.map (·.2)) := by
  generalize hd : PyData.dict (dctD kds) = d at r
  cases r with
  | rdct h hk r =>
    have e := dctD_inj (PyData.dict.inj hd)
    subst e
    exact ⟨_, _, _, rfl, h, hk, r⟩
  | _ => cases hd
/-- what a dict is made of -/
theorem Rp.dctE {v : V} {xs : List (PyData × PyData)} (r : Rp K B v (.dict xs)) : ∃ kds, xs = dctD kds := by
  generalize hd : PyData.dict xs = d at r
  cases r with
  | rdct h hk r => exact ⟨_, PyData.dict.inj hd⟩
  | _ => cases hd
theorem hasDict_cons {d : PyData} {ds : List PyData} (h : PyData.hasDictAll (d :: ds) = false) : d.hasDict = false ∧ PyData.hasDictAll ds = false := by
  rw [PyData.hasDictAll, Bool.or_eq_false_iff] at h
  exact h
mutual
theorem Rp.dp : ∀ {v : V} {d : PyData}, Rp K B v d → d.hasDict = false → Dp K B v d
  | _, _, .rnon, _ => .non
  | _, _, .rbl t, _ => .bl t
  | _, _, .rint n, _ => .int n
  | _, _, .rstr z, _ => .str z
  | _, _, .rlst h r, n => .lst h (Rps.dp r (by simpa [PyData.hasDict] using n))
  | _, _, .rtup h r _, n => .tup h (Rps.dp r (by simpa [PyData.hasDict] using n))
  | _, _, .rdct _ _ _, n => by simp [PyData.hasDict] at n
theorem Rps.dp : ∀ {vs : List V} {ds : List PyData}, Rps K B vs ds → PyData.hasDictAll ds = false → DpAll K B vs ds
  | _, _, .nil, _ => .nil
  | _, _, .cons h r, n => .cons (Rp.dp h (hasDict_cons n).1) (Rps.dp r (hasDict_cons n).2)
end
theorem nd_of_shaped {d : PyData} (h : SeqAt.shaped d = true) : d.hasDict = false := PyData.hasDict_of_canLay d (SeqAt.canLay_of_shaped h)
theorem nd_list {ds : List PyData} (h : PyData.canLayAll0 ds = true) : (PyData.list ds).hasDict = false := by
  simp only [PyData.hasDict]
  exact PyData.hasDictAll_of_canLayAll ds h
theorem nd_tuple {ds : List PyData} (h : PyData.canLayAll0 ds = true) : (PyData.tuple ds).hasDict = false := by
  simp only [PyData.hasDict]
  exact PyData.hasDictAll_of_canLayAll ds h
/-! data without a list in it -/
mutual
def noL : PyData → Bool
  | .list _ => false
  | .dict kvs => noLp kvs
  | .tuple xs => noLs xs
  | .none => true
  | .bool _ => true
  | .int _ => true
  | .str _ => true
def noLs : List PyData → Bool
  | [] => true
  | d :: ds => noL d && noLs ds
def noLp : List (PyData × PyData) → Bool
  | [] => true
  | (_, d) :: ds => noL d && noLp ds
end
theorem noLp_is : ∀ kds : List (Key × PyData), noLp (dctD kds) = noLs (kds.map (·.2))
  | [] => rfl
  | (k, d) :: r => by
    show (noL d && noLp (dctD r)) = (noL d && noLs (r.map (·.2)))
    rw [noLp_is r]
def del (B : Hp) (l : Addr) : Hp := fun q => if q = l then none else B q
theorem del_ne {l q : Addr} (h : q ≠ l) : del B l q = B q := if_neg h
theorem del_at {l : Addr} : del B l l = none := if_pos rfl
theorem ex_del {l : Addr} (e : Ex B B2) (h : B l = none) : Ex B (del B2 l) := fun q o hq => by
  rw [del_ne (ne_of_none hq h)]
  exact e q o hq
theorem ex_of_del {l : Addr} : Ex (del B l) B := fun q o hq => by
  by_cases h : q = l
  · subst h
    rw [del_at] at hq
    cases hq
  · rw [del_ne h] at hq
    exact hq
theorem PlT.del {l : Addr} {zs : List V} (hl : B l = some (.lst zs)) {p : Addr} : PlT K B p → PlT K (del B l) p
  | .inl ⟨o, us, h, d⟩ => .inl ⟨o, us, by
    rw [del_ne (ne_of h hl (by intro q; cases q))]
    exact h, d⟩
  | .inr h => .inr h
mutual
theorem Rp.del {l : Addr} {zs : List V} (hl : B l = some (.lst zs)) : ∀ {v : V} {d : PyData}, Rp K B v d → noL d = true → Rp K (del B l) v d
  | _, _, .rnon, _ => .rnon
  | _, _, .rbl t, _ => .rbl t
  | _, _, .rint n, _ => .rint n
  | _, _, .rstr z, _ => .rstr z
  | _, _, .rlst _ _, h => by simp [noL] at h
  | _, _, .rtup (p := p) (vs := vs) h r pl, hn => by
    refine .rtup ?_ (Rps.del hl r (by simpa [noL] using hn)) fun z => (pl z).del hl
    rcases h with (h | ⟨o, h⟩) | h
    · refine .inl (.inl ?_)
      rw [del_ne (ne_of h hl (by intro q; cases q))]
      exact h
    · refine .inl (.inr ⟨o, ?_⟩)
      rw [del_ne (ne_of h hl (by intro q; cases q))]
      exact h
    · exact .inr h
  | _, _, .rdct (p := p) (o := o) h hk r, hn => by
    refine Rp.rdct (o := o) ?_ hk (Rps.del hl r ?_)
    · rw [del_ne (ne_of h hl (by intro q; cases q))]
      exact h
    · rw [← noLp_is]
      simpa [noL] using hn
theorem Rps.del {l : Addr} {zs : List V} (hl : B l = some (.lst zs)) : ∀ {vs : List V} {ds : List PyData}, Rps K B vs ds → noLs ds = true → Rps K (del B l) vs ds
  | _, _, .nil, _ => .nil
  | _, _, .cons h r, hn => by
    rw [noLs, Bool.and_eq_true] at hn
    exact .cons (Rp.del hl h hn.1) (Rps.del hl r hn.2)
end
end

/-! ### values of slots, the store -/
inductive DV where
  | d (x : PyData)
  | a (p : Addr)
  | lam (f c : Addr) (q : Str) (vs : List V) (ds : List PyData)
inductive Cell where
  | lst (xs : List PyData)
  | dct (kvs : List (Key × DV))
  | xd (fs : List (Str × DV))
  | tab (q : Str)
abbrev Store := List (Addr × Cell)
abbrev Env := List (Option DV)
abbrev Pst := DV → Store → Prop

def Rv (K : PySem.W.Frag) (B : Hp) : V → DV → Prop
  | v, .d x => Rp K B v x
  | v, .a p => v = .ref p
  | v, .lam f c q vs ds => v = .ref f ∧ B c = some (LamX.CodeO c q) ∧ Rps K B vs ds
inductive Kvs (K : PySem.W.Frag) (B : Hp) : List (Key × V) → List (Key × DV) → Prop
  | nil : Kvs K B [] []
  | cons {k : Key} {v : V} {x : DV} {r : List (Key × V)} {t : List (Key × DV)} (h : Rv K B v x) (q : Kvs K B r t) : Kvs K B ((k, v) :: r) ((k, x) :: t)
inductive Fvs (K : PySem.W.Frag) (B : Hp) : List (Str × V) → List (Str × DV) → Prop
  | nil : Fvs K B [] []
  | cons {k : Str} {v : V} {x : DV} {r : List (Str × V)} {t : List (Str × DV)} (h : Rv K B v x) (q : Fvs K B r t) : Fvs K B ((k, v) :: r) ((k, x) :: t)
def CellOk (K : PySem.W.Frag) (B H : Hp) (p : Addr) : Cell → Prop
  | .lst xs => ∃ vs, H p = some (.lst vs) ∧ Rps K B vs xs
  | .dct kvs => ∃ ws, H p = some (.dK ws) ∧ Kvs K B ws kvs
  | .xd fs => ∃ ws, H p = some (.xd ws) ∧ Fvs K B ws fs
  | .tab q => ∃ ps, H p = some (.tbl ps) ∧ TriplesOk ps.toList ∧ ∀ (pos : Pos) (cv : Value), codeAmong pos ps.toList = some cv → ∃ c, cv = .ref c ∧ B c = some (LamX.CodeO c q)
structure Cfg (K : PySem.W.Frag) (F : Hp) (G : Store) (B H : Hp) : Prop where
  ex : Ex B H
  fr : Ex F H
  ce : ∀ p ∈ G, CellOk K B H p.1 p.2
  fb : ∀ q, F q ≠ none → B q = none
  gb : ∀ p ∈ G, B p.1 = none
  gf : ∀ p ∈ G, F p.1 = none
  nd : (G.map (·.1)).Nodup
section
variable {K : PySem.W.Frag} {F B B2 H H2 : Hp} {G G1 G2 : Store} {p q : Addr}
theorem Rv.mono (e : Ex B B2) {v : V} {x : DV} (h : Rv K B v x) : Rv K B2 v x := by
  cases x with
  | d x => exact Rp.mono e h
  | a p => exact h
  | lam f c q vs ds => exact ⟨h.1, e _ _ h.2.1, Rps.mono e h.2.2⟩
theorem Kvs.mono (e : Ex B B2) : ∀ {ws : List (Key × V)} {kvs : List (Key × DV)}, Kvs K B ws kvs → Kvs K B2 ws kvs
  | _, _, .nil => .nil
  | _, _, .cons h q => .cons (h.mono e) (q.mono e)
theorem Fvs.mono (e : Ex B B2) : ∀ {ws : List (Str × V)} {fs : List (Str × DV)}, Fvs K B ws fs → Fvs K B2 ws fs
  | _, _, .nil => .nil
  | _, _, .cons h q => .cons (h.mono e) (q.mono e)
theorem CellOk.mono (e : Ex B B2) {c : Cell} (h : CellOk K B H p c) (s : H2 p = H p) : CellOk K B2 H2 p c := by
  cases c with
  | lst xs =>
    obtain ⟨vs, a, b⟩ := h
    exact ⟨vs, s.trans a, b.mono e⟩
  | dct kvs =>
    obtain ⟨ws, a, b⟩ := h
    exact ⟨ws, s.trans a, b.mono e⟩
  | xd fs =>
    obtain ⟨ws, a, b⟩ := h
    exact ⟨ws, s.trans a, b.mono e⟩
  | tab q =>
    obtain ⟨ps, a, b, c⟩ := h
    exact ⟨ps, s.trans a, b, fun pos cv hc => let ⟨x, e1, e2⟩ := c pos cv hc; ⟨x, e1, e x _ e2⟩⟩
theorem CellOk.there {c : Cell} (h : CellOk K B H p c) : H p ≠ none := by
  cases c with
  | lst xs =>
    obtain ⟨vs, a, b⟩ := h
    rw [a]
    exact fun z => nomatch z
  | dct kvs =>
    obtain ⟨ws, a, b⟩ := h
    rw [a]
    exact fun z => nomatch z
  | xd fs =>
    obtain ⟨ws, a, b⟩ := h
    rw [a]
    exact fun z => nomatch z
  | tab q =>
    obtain ⟨ps, a, b⟩ := h
    rw [a]
    exact fun z => nomatch z
theorem Ex.free (e : Ex B H) (h : H p = none) : B p = none := by
  cases z : B p with
  | none => rfl
  | some o =>
    rw [e p o z] at h
    cases h
theorem Ex.new (e : Ex B H) (h : H p = none) (o : HO) : Ex (upd B p o) (upd H p o) := fun c u z => by
  by_cases hc : c = p
  · subst hc
    rw [upd_same] at z ⊢
    exact z
  · rw [upd_ne hc] at z ⊢
    exact e c u z
theorem Ex.new' (e : Ex B H) (h : B p = none) {o : HO} : Ex (upd B p o) (upd H p o) := fun c u z => by
  by_cases hc : c = p
  · subst hc
    rw [upd_same] at z ⊢
    exact z
  · rw [upd_ne hc] at z ⊢
    exact e c u z
theorem Ex.out (e : Ex B H) (h : B p = none) (o : HO) : Ex B (upd H p o) := fun c u z => by
  rw [upd_ne (ne_of_none z h)]
  exact e c u z
theorem ex_new (h : B p = none) (o : HO) : Ex B (upd B p o) := Ex.out (Evl.Ex.refl B) h o
theorem Cfg.neG (c : Cfg K F G B H) (hp : H p = none) : ∀ x ∈ G, x.1 ≠ p := fun x hx z => (c.ce x hx).there (z ▸ hp)
/-- a new object that is data -/
theorem Cfg.new (c : Cfg K F G B H) (hp : H p = none) (o : HO) : Cfg K F G (upd B p o) (upd H p o) where
  ex := Ex.new c.ex hp o
  fr := Ex.out c.fr (Ex.free c.fr hp) o
  ce := fun x hx => (c.ce x hx).mono (ex_new (Ex.free c.ex hp) o) (upd_ne (c.neG hp x hx))
  fb := fun y hy => by
    have ne : y ≠ p := fun z => hy (z ▸ Ex.free c.fr hp)
    rw [upd_ne ne]
    exact c.fb y hy
  gb := fun x hx => by
    rw [upd_ne (c.neG hp x hx)]
    exact c.gb x hx
  gf := c.gf
  nd := c.nd
/-- a new object that is a cell -/
theorem Cfg.cell (c : Cfg K F G B H) (hp : H p = none) {o : HO} {x : Cell} (hx : CellOk K B (upd H p o) p x) : Cfg K F ((p, x) :: G) B (upd H p o) where
  ex := Ex.out c.ex (Ex.free c.ex hp) o
  fr := Ex.out c.fr (Ex.free c.fr hp) o
  ce := fun y hy => by
    rcases List.mem_cons.mp hy with z | z
    · subst z
      exact hx
    · exact (c.ce y z).mono (Evl.Ex.refl B) (upd_ne (c.neG hp y z))
  fb := c.fb
  gb := fun y hy => by
    rcases List.mem_cons.mp hy with z | z
    · subst z
      exact Ex.free c.ex hp
    · exact c.gb y z
  gf := fun y hy => by
    rcases List.mem_cons.mp hy with z | z
    · subst z
      exact Ex.free c.fr hp
    · exact c.gf y z
  nd := by
    rw [List.map_cons, List.nodup_cons]
    refine ⟨fun z => ?_, c.nd⟩
    obtain ⟨y, hy, e⟩ := List.mem_map.mp z
    exact c.neG hp y hy e
/-- a cell is written -/
theorem Cfg.set {x x' : Cell} (c : Cfg K F (G1 ++ (p, x) :: G2) B H) {o : HO} (hx : CellOk K B (upd H p o) p x') : Cfg K F (G1 ++ (p, x') :: G2) B (upd H p o) := by
  have me : (p, x) ∈ G1 ++ (p, x) :: G2 := List.mem_append_right _ List.mem_cons_self
  have nB : B p = none := c.gb _ me
  have nF : F p = none := c.gf _ me
  have nd := c.nd
  rw [List.map_append, List.map_cons, List.nodup_append] at nd
  have ne : ∀ y, y ∈ G1 ∨ y ∈ G2 → y.1 ≠ p := fun y hy z => by
    rcases hy with hy | hy
    · exact nd.2.2 y.1 (List.mem_map.mpr ⟨y, hy, rfl⟩) p List.mem_cons_self z
    · exact (List.nodup_cons.mp nd.2.1).1 (List.mem_map.mpr ⟨y, hy, z⟩)
  have old : ∀ y, y ∈ G1 ∨ y ∈ G2 → y ∈ G1 ++ (p, x) :: G2 := fun y hy => by
    rcases hy with hy | hy
    · exact List.mem_append_left _ hy
    · exact List.mem_append_right _ (List.mem_cons_of_mem _ hy)
  have cs : ∀ y ∈ G1 ++ (p, x') :: G2, y = (p, x') ∨ y ∈ G1 ∨ y ∈ G2 := fun y hy => by
    rcases List.mem_append.mp hy with z | z
    · exact .inr (.inl z)
    · rcases List.mem_cons.mp z with z | z
      · exact .inl z
      · exact .inr (.inr z)
  refine ⟨Ex.out c.ex nB o, Ex.out c.fr nF o, fun y hy => ?_, c.fb, fun y hy => ?_, fun y hy => ?_, ?_⟩
  · rcases cs y hy with z | z
    · subst z
      exact hx
    · exact (c.ce y (old y z)).mono (Evl.Ex.refl B) (upd_ne (ne y z))
  · rcases cs y hy with z | z
    · subst z
      exact nB
    · exact c.gb y (old y z)
  · rcases cs y hy with z | z
    · subst z
      exact nF
    · exact c.gf y (old y z)
  · have h := c.nd
    rw [List.map_append, List.map_cons] at h ⊢
    exact h
/-- the frame: a callee sees a part of the store -/
theorem Cfg.frame (c : Cfg K F (G1 ++ G2) B H) : ∃ F', Cfg K F' G2 B H ∧ ∀ G3 B2 H2, Ex B B2 → Cfg K F' G3 B2 H2 → Cfg K F (G1 ++ G3) B2 H2 := by
  let F' : Hp := fun a => match F a with
    | some o => some o
    | none => if a ∈ G1.map (·.1) then H a else none
  have f1 : ∀ a, a ∈ G1.map (·.1) → F' a = H a := fun a ha => by
    obtain ⟨y, hy, e⟩ := List.mem_map.mp ha
    have nF : F a = none := e ▸ c.gf y (List.mem_append_left _ hy)
    show (match F a with | some o => some o | none => if a ∈ G1.map (·.1) then H a else none) = H a
    rw [nF]
    exact if_pos ha
  have f2 : ∀ a o, F a = some o → F' a = some o := fun a o h => by
    show (match F a with | some o => some o | none => if a ∈ G1.map (·.1) then H a else none) = some o
    rw [h]
  have f3 : ∀ a, F' a ≠ none → F a ≠ none ∨ a ∈ G1.map (·.1) := fun a h => by
    by_cases ha : a ∈ G1.map (·.1)
    · exact .inr ha
    · refine .inl fun z => h ?_
      show (match F a with | some o => some o | none => if a ∈ G1.map (·.1) then H a else none) = none
      rw [z]
      exact if_neg ha
  have f4 : Ex F' H := fun a o h => by
    rcases f3 a (by rw [h]; exact fun z => nomatch z) with z | z
    · cases y : F a with
      | none => exact absurd y z
      | some u =>
        rw [f2 a u y] at h
        cases h
        exact c.fr a _ y
    · rw [f1 a z] at h
      exact h
  have nd := c.nd
  rw [List.map_append, List.nodup_append] at nd
  refine ⟨F', ⟨c.ex, f4, fun y hy => c.ce y (List.mem_append_right _ hy), fun a h => ?_, fun y hy => c.gb y (List.mem_append_right _ hy), fun y hy => ?_, nd.2.1⟩, fun G3 B2 H2 e c2 => ?_⟩
  · rcases f3 a h with z | z
    · exact c.fb a z
    · obtain ⟨y, hy, e⟩ := List.mem_map.mp z
      exact e ▸ c.gb y (List.mem_append_left _ hy)
  · cases z : F' y.1 with
    | none => rfl
    | some o =>
      rcases f3 y.1 (by rw [z]; exact fun z => nomatch z) with w | w
      · exact absurd (c.gf y (List.mem_append_right _ hy)) w
      · exact absurd rfl (nd.2.2 y.1 w y.1 (List.mem_map.mpr ⟨y, hy, rfl⟩))
  · have t1 : ∀ y ∈ G1, F' y.1 ≠ none := fun y hy z => by
      rw [f1 y.1 (List.mem_map.mpr ⟨y, hy, rfl⟩)] at z
      exact (c.ce y (List.mem_append_left _ hy)).there z
    have t2 : ∀ y ∈ G1, H2 y.1 = H y.1 := fun y hy => by
      have h1 := f1 y.1 (List.mem_map.mpr ⟨y, hy, rfl⟩)
      cases z : F' y.1 with
      | none => exact absurd z (t1 y hy)
      | some o => rw [c2.fr _ _ z, ← h1, z]
    refine ⟨c2.ex, fun a o h => c2.fr a o (f2 a o h), fun y hy => ?_, fun a h => c2.fb a ?_, fun y hy => ?_, fun y hy => ?_, ?_⟩
    · rcases List.mem_append.mp hy with z | z
      · exact (c.ce y (List.mem_append_left _ z)).mono e (t2 y z)
      · exact c2.ce y z
    · cases z : F a with
      | none => exact absurd z h
      | some o =>
        rw [f2 a o z]
        exact fun z => nomatch z
    · rcases List.mem_append.mp hy with z | z
      · exact c2.fb _ (t1 y z)
      · exact c2.gb y z
    · rcases List.mem_append.mp hy with z | z
      · exact c.gf y (List.mem_append_left _ z)
      · cases w : F y.1 with
        | none => rfl
        | some o =>
          have := c2.gf y z
          rw [f2 _ _ w] at this
          cases this
    · rw [List.map_append, List.nodup_append]
      refine ⟨nd.1, c2.nd, fun a ha b hb z => ?_⟩
      subst z
      obtain ⟨y, hy, e1⟩ := List.mem_map.mp ha
      obtain ⟨x, hx, e2⟩ := List.mem_map.mp hb
      have h1 := t1 y hy
      have h2 := c2.gf x hx
      rw [e1] at h1
      rw [e2] at h2
      exact h1 h2
/-- a list of the store is taken as data -/
theorem Cfg.freeze {xs : List PyData} (c : Cfg K F ((p, .lst xs) :: G) B H) : ∃ vs, B p = none ∧ Rps K B vs xs ∧ Cfg K F G (upd B p (.lst vs)) H := by
  obtain ⟨vs, h1, h2⟩ := c.ce (p, .lst xs) List.mem_cons_self
  have nB := c.gb (p, .lst xs) List.mem_cons_self
  have nF := c.gf (p, .lst xs) List.mem_cons_self
  have nd := List.nodup_cons.mp (show (p :: G.map (·.1)).Nodup from c.nd)
  have ne : ∀ y ∈ G, y.1 ≠ p := fun y hy z => nd.1 (List.mem_map.mpr ⟨y, hy, z⟩)
  refine ⟨vs, nB, h2, fun a o h => ?_, c.fr, fun y hy => (c.ce y (List.mem_cons_of_mem _ hy)).mono (ex_new nB _) rfl, fun a h => ?_, fun y hy => ?_, fun y hy => c.gf y (List.mem_cons_of_mem _ hy), nd.2⟩
  · by_cases z : a = p
    · subst z
      rw [upd_same] at h
      cases h
      exact h1
    · rw [upd_ne z] at h
      exact c.ex a o h
  · have z : a ≠ p := fun z => h (z ▸ nF)
    rw [upd_ne z]
    exact c.fb a h
  · rw [upd_ne (ne y hy)]
    exact c.gb y (List.mem_cons_of_mem _ hy)
def noLc : Cell → Bool
  | .lst xs => noLs xs
  | .dct kvs => kvs.all fun kv => match kv.2 with
    | .d x => noL x
    | .a _ => true
    | .lam _ _ _ _ ds => noLs ds
  | .xd _ => false
  | .tab _ => true
def noLv : DV → Bool
  | .d x => noL x
  | .a _ => true
  | .lam _ _ _ _ ds => noLs ds
theorem Rv.del {zs : List V} (hl : B p = some (.lst zs)) {v : V} {x : DV} (h : Rv K B v x) (n : noLv x = true) : Rv K (del B p) v x := by
  cases x with
  | d x => exact Rp.del hl h n
  | a q => exact h
  | lam f c q vs ds =>
    refine ⟨h.1, ?_, Rps.del hl h.2.2 n⟩
    rw [del_ne (ne_of h.2.1 hl fun z => by unfold LamX.CodeO at z; cases z)]
    exact h.2.1
theorem Kvs.del {zs : List V} (hl : B p = some (.lst zs)) : ∀ {ws : List (Key × V)} {kvs : List (Key × DV)}, Kvs K B ws kvs → noLc (.dct kvs) = true → Kvs K (del B p) ws kvs
  | _, _, .nil, _ => .nil
  | _, _, .cons (x := x) (t := t) h q, n => by
    have n' : (noLv x && noLc (.dct t)) = true := by
      cases x <;> exact n
    rw [Bool.and_eq_true] at n'
    exact .cons (h.del hl n'.1) (q.del hl n'.2)
theorem CellOk.del {zs : List V} (hl : B p = some (.lst zs)) {c : Cell} (h : CellOk K B H q c) (n : noLc c = true) : CellOk K (del B p) H q c := by
  cases c with
  | lst xs =>
    obtain ⟨vs, a, b⟩ := h
    exact ⟨vs, a, b.del hl n⟩
  | dct kvs =>
    obtain ⟨ws, a, b⟩ := h
    exact ⟨ws, a, b.del hl n⟩
  | xd fs => cases n
  | tab q =>
    obtain ⟨ps, a, b, c⟩ := h
    exact ⟨ps, a, b, fun pos cv hc => by
      obtain ⟨x, e1, e2⟩ := c pos cv hc
      refine ⟨x, e1, ?_⟩
      rw [del_ne (ne_of e2 hl fun z => by unfold LamX.CodeO at z; cases z)]
      exact e2⟩
/-- and back -/
theorem Cfg.thaw {xs : List PyData} {vs : List V} (nB : B p = none) (nF : F p = none) (r : Rps K B vs xs) (e : Ex (upd B p (.lst vs)) B2) (c : Cfg K F G2 B2 H2) (n : ∀ y ∈ G2, noLc y.2 = true) :
    Cfg K F ((p, .lst xs) :: G2) (del B2 p) H2 ∧ Ex B (del B2 p) := by
  have hl : B2 p = some (.lst vs) := e _ _ upd_same
  have eB : Ex B (del B2 p) := ex_del (fun a o h => e a o (ex_new nB _ a o h)) nB
  have ne : ∀ y ∈ G2, y.1 ≠ p := fun y hy z => by
    have := c.gb y hy
    rw [z, hl] at this
    cases this
  refine ⟨⟨fun a o h => c.ex a o (ex_of_del a o h), c.fr, fun y hy => ?_, fun a h => ?_, fun y hy => ?_, fun y hy => ?_, ?_⟩, eB⟩
  · rcases List.mem_cons.mp hy with z | z
    · subst z
      exact ⟨vs, c.ex _ _ hl, r.mono eB⟩
    · exact (c.ce y z).del hl (n y z)
  · by_cases z : a = p
    · subst z
      exact del_at
    · rw [del_ne z]
      exact c.fb a h
  · rcases List.mem_cons.mp hy with z | z
    · subst z
      exact del_at
    · rw [del_ne (ne y z)]
      exact c.gb y z
  · rcases List.mem_cons.mp hy with z | z
    · subst z
      exact nF
    · exact c.gf y z
  · rw [List.map_cons, List.nodup_cons]
    refine ⟨fun z => ?_, c.nd⟩
    obtain ⟨y, hy, e⟩ := List.mem_map.mp z
    exact ne y hy e
end
end Fsh

set_option Elab.async false
set_option linter.all false
set_option maxRecDepth 100000
namespace Fsh
open PySem PySem.Spec PyProof.Rows L2

/-! ### slots -/
def Slots (K : PySem.W.Frag) (B : Hp) (σ : L2.St) (ρ : Env) : Prop := σ.length = ρ.length ∧ ∀ (i : Nat) (x : DV), ρ[i]? = some (some x) → ∃ v, σ[i]? = some (some v) ∧ Rv K B v x
def wipeE (ρ : Env) : List Nat → Env
  | [] => ρ
  | v :: vs => (wipeE ρ vs).set v none
section
variable {K : PySem.W.Frag} {B B2 : Hp} {σ : L2.St} {ρ : Env}
theorem Slots.mono (e : Ex B B2) (s : Slots K B σ ρ) : Slots K B2 σ ρ := ⟨s.1, fun i x h => let ⟨v, a, b⟩ := s.2 i x h; ⟨v, a, b.mono e⟩⟩
theorem Slots.set {v : V} {x : DV} (s : Slots K B σ ρ) (r : Rv K B v x) (i : Nat) : Slots K B (σ.set i (some v)) (ρ.set i (some x)) := by
  refine ⟨by rw [List.length_set, List.length_set]; exact s.1, fun j y h => ?_⟩
  by_cases e : j = i
  · subst e
    have hj : j < ρ.length := by
      have := (List.getElem?_eq_some_iff.mp h).1
      rw [List.length_set] at this
      exact this
    rw [List.getElem?_set_self hj] at h
    have h' : x = y := Option.some.inj (Option.some.inj h)
    subst h'
    exact ⟨v, List.getElem?_set_self (by rw [s.1]; exact hj), r⟩
  · rw [List.getElem?_set_ne (Ne.symm e)] at h
    obtain ⟨w, a, b⟩ := s.2 j y h
    exact ⟨w, by rw [List.getElem?_set_ne (Ne.symm e)]; exact a, b⟩
theorem Slots.clear (s : Slots K B σ ρ) (i : Nat) : Slots K B (σ.set i none) (ρ.set i none) := by
  refine ⟨by rw [List.length_set, List.length_set]; exact s.1, fun j y h => ?_⟩
  by_cases e : j = i
  · subst e
    have hj : j < ρ.length := by
      have := (List.getElem?_eq_some_iff.mp h).1
      rw [List.length_set] at this
      exact this
    rw [List.getElem?_set_self hj] at h
    cases h
  · rw [List.getElem?_set_ne (Ne.symm e)] at h
    obtain ⟨w, a, b⟩ := s.2 j y h
    exact ⟨w, by rw [List.getElem?_set_ne (Ne.symm e)]; exact a, b⟩
theorem Slots.wiped (s : Slots K B σ ρ) : ∀ vs : List Nat, Slots K B (wipe σ vs) (wipeE ρ vs)
  | [] => s
  | v :: vs => (s.wiped vs).clear v
theorem wipe_at (σ : L2.St) : ∀ (vs : List Nat) (i : Nat), (wipe σ vs)[i]? = if i ∈ vs then (σ[i]?).map (fun _ => none) else σ[i]?
  | [], i => by simp [wipe]
  | v :: vs, i => by
    unfold wipe
    by_cases e : i = v
    · subst e
      rw [List.getElem?_set, if_pos rfl, wipe_length, if_pos (List.mem_cons_self)]
      by_cases h : i < σ.length
      · rw [if_pos h, List.getElem?_eq_getElem h]
        rfl
      · rw [if_neg h, List.getElem?_eq_none (by omega)]
        rfl
    · rw [List.getElem?_set_ne (Ne.symm e), wipe_at σ vs i]
      have : (i ∈ v :: vs) ↔ i ∈ vs := by simp [e]
      simp only [this]
theorem wipe_set {vs : List Nat} {j : Nat} (h : j ∈ vs) (x : Option V) : wipe (σ.set j x) vs = wipe σ vs := by
  apply List.ext_getElem?
  intro i
  rw [wipe_at, wipe_at]
  by_cases e : i = j
  · subst e
    rw [if_pos h, if_pos h, List.getElem?_set, if_pos rfl]
    by_cases h2 : i < σ.length
    · rw [if_pos h2, List.getElem?_eq_getElem h2]
      rfl
    · rw [if_neg h2, List.getElem?_eq_none (by omega)]
  · rw [List.getElem?_set_ne (Ne.symm e)]
theorem wipe_wipe (vs : List Nat) : wipe (wipe σ vs) vs = wipe σ vs := by
  apply List.ext_getElem?
  intro i
  rw [wipe_at, wipe_at]
  by_cases h : i ∈ vs
  · rw [if_pos h, if_pos h]
    cases σ[i]? <;> rfl
  · rw [if_neg h, if_neg h]
end

/-! ### judgements -/
def Kp (K : PySem.W.Frag) (F B : Hp) (Φ : Pst) (Q : VK) : Prop := ∀ v x G2 B2 H2, Ex B B2 → Cfg K F G2 B2 H2 → Rv K B2 v x → Φ x G2 → Q v H2
def R (K : PySem.W.Frag) (t : TE) (ρ : Env) (G : Store) (Φ : Pst) : Prop := ∀ F σ B H Q, Cfg K F G B H → Slots K B σ ρ → Kp K F B Φ Q → t σ H Q
def KpT (K : PySem.W.Frag) (F B : Hp) (Φ : Bool → Store → Prop) (Q : Bool → Hp → Prop) : Prop := ∀ b G2 B2 H2, Ex B B2 → Cfg K F G2 B2 H2 → Φ b G2 → Q b H2
def RT (K : PySem.W.Frag) (t : TT) (ρ : Env) (G : Store) (Φ : Bool → Store → Prop) : Prop := ∀ F σ B H Q, Cfg K F G B H → Slots K B σ ρ → KpT K F B Φ Q → t σ H Q
inductive Rvs (K : PySem.W.Frag) (B : Hp) : List V → List DV → Prop
  | nil : Rvs K B [] []
  | cons {v : V} {x : DV} {vs : List V} {xs : List DV} (h : Rv K B v x) (r : Rvs K B vs xs) : Rvs K B (v :: vs) (x :: xs)
theorem Rvs.mono {K : PySem.W.Frag} {B B2 : Hp} (e : Ex B B2) : ∀ {vs : List V} {xs : List DV}, Rvs K B vs xs → Rvs K B2 vs xs
  | _, _, .nil => .nil
  | _, _, .cons h r => .cons (h.mono e) (r.mono e)
theorem Rvs.len {K : PySem.W.Frag} {B : Hp} : ∀ {vs : List V} {xs : List DV}, Rvs K B vs xs → vs.length = xs.length
  | _, _, .nil => rfl
  | _, _, .cons _ r => congrArg Nat.succ r.len
theorem Rvs.data {K : PySem.W.Frag} {B : Hp} : ∀ {ds : List PyData} {vs : List V}, Rvs K B vs (ds.map DV.d) → Rps K B vs ds
  | [], _, .nil => .nil
  | _ :: _, _, .cons h r => .cons h r.data
def KpA (K : PySem.W.Frag) (F B : Hp) (Φ : List DV → Store → Prop) (Q : List V → Hp → Prop) : Prop := ∀ vs xs G2 B2 H2, Ex B B2 → Cfg K F G2 B2 H2 → Rvs K B2 vs xs → Φ xs G2 → Q vs H2
def RA (K : PySem.W.Frag) (t : TA) (ρ : Env) (G : Store) (Φ : List DV → Store → Prop) : Prop := ∀ F σ B H Q, Cfg K F G B H → Slots K B σ ρ → KpA K F B Φ Q → t σ H Q
def RS (K : PySem.W.Frag) (t : TS) (ρ : Env) (G : Store) (N : Env → Store → Prop) (Φ : Pst) : Prop := ∀ F σ B H D, Cfg K F G B H → Slots K B σ ρ →
  (∀ ρ' σ' G2 B2 H2, Ex B B2 → Cfg K F G2 B2 H2 → Slots K B2 σ' ρ' → N ρ' G2 → D.nx σ' H2) → Kp K F B Φ D.rt → t D σ H
def RG (K : PySem.W.Frag) (g : TG) (js : List Nat) (x : DV) (ρ ρ' : Env) : Prop := ∀ σ B H v Q, Ex B H → Slots K B σ ρ → Rv K B v x →
  (∀ σ', Slots K B σ' ρ' → (∀ vs : List Nat, (∀ j ∈ js, j ∈ vs) → wipe σ' vs = wipe σ vs) → Q σ' H) → g v σ H Q
def RGs (K : PySem.W.Frag) (g : TGs) (js : List Nat) (ds : List PyData) (ρ ρ' : Env) : Prop := ∀ σ B H vs Q, Ex B H → Slots K B σ ρ → Rps K B vs ds →
  (∀ σ', Slots K B σ' ρ' → (∀ vs : List Nat, (∀ j ∈ js, j ∈ vs) → wipe σ' vs = wipe σ vs) → Q σ' H) → g vs σ H Q
/-- a value that is told, nothing changed -/
abbrev Is (x : DV) (G : Store) : Pst := fun y G2 => y = x ∧ G2 = G
abbrev IsT (b : Bool) (G : Store) : Bool → Store → Prop := fun y G2 => y = b ∧ G2 = G
abbrev IsA (xs : List DV) (G : Store) : List DV → Store → Prop := fun y G2 => y = xs ∧ G2 = G
/-- a new list -/
abbrev New (ds : List PyData) (G : Store) : Pst := fun y G2 => ∃ l, y = .a l ∧ G2 = (l, .lst ds) :: G

section
variable {K : PySem.W.Frag} {F B B2 H : Hp} {ρ : Env} {G G' : Store} {Φ Φ' : Pst} {Q : VK} {ta tb te : TE}
theorem Kp.mono (e : Ex B B2) (k : Kp K F B Φ Q) : Kp K F B2 Φ Q := fun v x G2 B3 H3 a c r p => k v x G2 B3 H3 (e.trans a) c r p
theorem Kp.ret {v : V} {x : DV} (k : Kp K F B Φ Q) (c : Cfg K F G B H) (r : Rv K B v x) (p : Φ x G) : Q v H := k v x G B H (Evl.Ex.refl B) c r p
theorem Kp.imp (k : Kp K F B Φ' Q) (h : ∀ x G2, Φ x G2 → Φ' x G2) : Kp K F B Φ Q := fun v x G2 B2 H2 e c r p => k v x G2 B2 H2 e c r (h _ _ p)
theorem R.imp (r : R K te ρ G Φ) (h : ∀ x G2, Φ x G2 → Φ' x G2) : R K te ρ G Φ' := fun F σ B H Q c s k => r F σ B H Q c s (k.imp h)
theorem R.is {x : DV} (r : R K te ρ G (Is x G)) (h : Φ x G) : R K te ρ G Φ := r.imp fun y G2 z => by rw [z.1, z.2]; exact h
/-- a list of the store becomes data for good -/
theorem R.give (r : R K te ρ G fun y G2 => ∃ l xs G3, y = .a l ∧ G2 = (l, .lst xs) :: G3 ∧ Φ (.d (.list xs)) G3) : R K te ρ G Φ := fun F σ B H Q c s k =>
  r F σ B H Q c s fun v x G2 B2 H2 e c2 rv ⟨l, xs, G3, e1, e2, p⟩ => by
    subst e1 e2
    obtain ⟨vs, nB, rr, c3⟩ := c2.freeze
    have rv' : v = .ref l := rv
    subst rv'
    exact k (.ref l) (.d (.list xs)) _ _ _ (e.trans (ex_new nB _)) c3 (show Rp K _ _ _ from Rp.rlst (Evl.sq_of upd_same) (rr.mono (ex_new nB _))) p
theorem R.gives {ds : List PyData} (r : R K te ρ G (New ds G)) : R K te ρ G (Is (.d (.list ds)) G) := R.give (r.imp fun y G2 ⟨l, a, b⟩ => ⟨l, ds, G, a, b, rfl, rfl⟩)
/-- a list of the store is read as data by what gives nothing with a list in it -/
def thawE (l : Addr) (xs : List PyData) : Env → Env := List.map fun o => match o with
  | some (.a q) => if q = l then some (.d (.list xs)) else some (.a q)
  | o => o
theorem Slots.froze {l : Addr} {xs : List PyData} {vs : List V} {σ : L2.St} (nB : B l = none) (rr : Rps K B vs xs) (s : Slots K B σ ρ) : Slots K (upd B l (.lst vs)) σ (thawE l xs ρ) := by
  refine ⟨by rw [s.1]; unfold thawE; rw [List.length_map], fun i x h => ?_⟩
  unfold thawE at h
  rw [List.getElem?_map] at h
  cases z : ρ[i]? with
  | none =>
    rw [z] at h
    cases h
  | some o =>
    rw [z] at h
    cases o with
    | none => cases h
    | some y =>
      obtain ⟨v, a, b⟩ := s.2 i y z
      refine ⟨v, a, ?_⟩
      cases y with
      | d y =>
        have e : x = .d y := (Option.some.inj (Option.some.inj h)).symm
        subst e
        exact b.mono (ex_new nB _)
      | lam f2 c2 q2 vs2 ds2 =>
        have e : x = .lam f2 c2 q2 vs2 ds2 := (Option.some.inj (Option.some.inj h)).symm
        subst e
        exact b.mono (ex_new nB _)
      | a q =>
        have h' : some (if q = l then some (DV.d (.list xs)) else some (DV.a q)) = some (some x) := h
        by_cases e : q = l
        · rw [if_pos e] at h'
          have e2 : x = .d (.list xs) := (Option.some.inj (Option.some.inj h')).symm
          subst e2 e
          have b' : v = .ref q := b
          subst b'
          exact Rp.rlst (Evl.sq_of upd_same) (rr.mono (ex_new nB _))
        · rw [if_neg e] at h'
          have e2 : x = .a q := (Option.some.inj (Option.some.inj h')).symm
          subst e2
          exact b
theorem R.frozen {l : Addr} {xs : List PyData} (h : R K te (thawE l xs ρ) G fun y G2 => noLv y = true ∧ (∀ p ∈ G2, noLc p.2 = true) ∧ Φ y ((l, .lst xs) :: G2)) : R K te ρ ((l, .lst xs) :: G) Φ := fun F σ B H Q c s k => by
  have nF := c.gf (l, .lst xs) List.mem_cons_self
  obtain ⟨vs, nB, rr, c3⟩ := c.freeze
  refine h F σ _ H Q c3 (s.froze nB rr) fun v x G2 B2 H2 e c2 rv ⟨n1, n2, p⟩ => ?_
  obtain ⟨c4, e4⟩ := Cfg.thaw nB nF rr e c2 n2
  exact k v x _ _ H2 e4 c4 (rv.del (e _ _ upd_same) n1) p
/-- two in a row -/
def Op (K : PySem.W.Frag) (r : R2) (x y : DV) (G : Store) (Φ : Pst) : Prop := ∀ F B H v u Q, Cfg K F G B H → Rv K B v x → Rv K B u y → Kp K F B Φ Q → r v u H Q
theorem r_op {r : R2} {Φa : Pst} {Φb : DV → Pst} (ha : R K ta ρ G Φa) (hb : ∀ x G1, Φa x G1 → R K tb ρ G1 (Φb x)) (hr : ∀ x G1 y G2, Φa x G1 → Φb x y G2 → Op K r x y G2 Φ) : R K (tOp r ta tb) ρ G Φ := by
  intro F σ B H Q c s k
  refine ha F σ B H _ c s fun v x G1 B1 H1 e1 c1 r1 p1 => ?_
  refine hb x G1 p1 F σ B1 H1 _ c1 (s.mono e1) fun u y G2 B2 H2 e2 c2 r2 p2 => ?_
  exact hr x G1 y G2 p1 p2 F B2 H2 v u Q c2 (r1.mono e2) r2 (k.mono (e1.trans e2))
theorem r_opD {r : R2} {x y : DV} (ha : R K ta ρ G (Is x G)) (hb : R K tb ρ G (Is y G)) (hr : Op K r x y G Φ) : R K (tOp r ta tb) ρ G Φ :=
  r_op (Φb := fun _ => Is y G) ha (fun x' G1 h => by rw [h.2]; exact hb) fun x' G1 y' G2 h1 h2 => by rw [h1.1, h2.1, h2.2]; exact hr
def Un1 (K : PySem.W.Frag) (r : V → Hp → VK → Prop) (x : DV) (G : Store) (Φ : Pst) : Prop := ∀ F B H v Q, Cfg K F G B H → Rv K B v x → Kp K F B Φ Q → r v H Q
theorem r_un {r : V → Hp → VK → Prop} {Φa : Pst} (ha : R K ta ρ G Φa) (hr : ∀ x G1, Φa x G1 → Un1 K r x G1 Φ) : R K (tUn r ta) ρ G Φ := by
  intro F σ B H Q c s k
  refine ha F σ B H _ c s fun v x G1 B1 H1 e1 c1 r1 p1 => ?_
  exact hr x G1 p1 F B1 H1 v Q c1 r1 (k.mono e1)
theorem ra_nil : RA K tNil ρ G (IsA [] G) := fun F σ B H Q c s k => k [] [] G B H (Evl.Ex.refl B) c .nil ⟨rfl, rfl⟩
theorem ra_cons {tr : TA} {Φa : Pst} {Φr : DV → List DV → Store → Prop} {Φl : List DV → Store → Prop} (ha : R K ta ρ G Φa) (hr : ∀ x G1, Φa x G1 → RA K tr ρ G1 (Φr x)) (h : ∀ x G1 xs G2, Φa x G1 → Φr x xs G2 → Φl (x :: xs) G2) : RA K (tCons ta tr) ρ G Φl := by
  intro F σ B H Q c s k
  refine ha F σ B H _ c s fun v x G1 B1 H1 e1 c1 r1 p1 => ?_
  refine hr x G1 p1 F σ B1 H1 _ c1 (s.mono e1) fun vs xs G2 B2 H2 e2 c2 r2 p2 => ?_
  exact k _ _ G2 B2 H2 (e1.trans e2) c2 (.cons (r1.mono e2) r2) (h x G1 xs G2 p1 p2)
def CallOp (K : PySem.W.Frag) (r : List V → Hp → VK → Prop) (xs : List DV) (G : Store) (Φ : Pst) : Prop := ∀ F B H vs Q, Cfg K F G B H → Rvs K B vs xs → Kp K F B Φ Q → r vs H Q
theorem r_cb {r : List V → Hp → VK → Prop} {t : TA} {Φa : List DV → Store → Prop} (ha : RA K t ρ G Φa) (hr : ∀ xs G1, Φa xs G1 → CallOp K r xs G1 Φ) : R K (tCB r t) ρ G Φ := by
  intro F σ B H Q c s k
  refine ha F σ B H _ c s fun vs xs G1 B1 H1 e1 c1 r1 p1 => ?_
  exact hr xs G1 p1 F B1 H1 vs Q c1 r1 (k.mono e1)
theorem r_if {t : TT} {Φc : Bool → Store → Prop} (hc : RT K t ρ G Φc) (h1 : ∀ G1, Φc true G1 → R K ta ρ G1 Φ) (h2 : ∀ G1, Φc false G1 → R K tb ρ G1 Φ) : R K (tIf t ta tb) ρ G Φ := by
  intro F σ B H Q c s k
  refine hc F σ B H _ c s fun b G1 B1 H1 e1 c1 p1 => ?_
  cases b with
  | true => exact iteT (h1 G1 p1 F σ B1 H1 Q c1 (s.mono e1) (k.mono e1))
  | false => exact iteF (h2 G1 p1 F σ B1 H1 Q c1 (s.mono e1) (k.mono e1))
theorem rt_of {Φt : Bool → Store → Prop} (h : R K te ρ G fun y G2 => ∃ b, y = .d (.bool b) ∧ Φt b G2) : RT K (tTest te) ρ G Φt := fun F σ B H Q c s k =>
  h F σ B H _ c s fun v x G1 B1 H1 e1 c1 r1 ⟨b, e, p⟩ => by
    subst e
    cases r1
    exact ⟨b, rfl, k b G1 B1 H1 e1 c1 p⟩
theorem rt_ofB {Φt : Bool → Store → Prop} (h : R K te ρ G fun y G2 => ∃ b, y = .d (.bool b) ∧ Φt b G2) : RT K (tB te) ρ G Φt := fun F σ B H Q c s k =>
  h F σ B H _ c s fun v x G1 B1 H1 e1 c1 r1 ⟨b, e, p⟩ => by
    subst e
    cases r1
    exact ⟨b, rfl, k b G1 B1 H1 e1 c1 p⟩
theorem rt_and {t u : TT} {Φa Φt : Bool → Store → Prop} (h1 : RT K t ρ G Φa) (h2 : ∀ G1, Φa true G1 → RT K u ρ G1 Φt) (h3 : ∀ G1, Φa false G1 → Φt false G1) : RT K (tAnd t u) ρ G Φt := fun F σ B H Q c s k =>
  h1 F σ B H _ c s fun b G1 B1 H1 e1 c1 p => by
    cases b with
    | true => exact iteT (h2 G1 p F σ B1 H1 Q c1 (s.mono e1) fun b G2 B2 H2 e2 c2 p2 => k b G2 B2 H2 (e1.trans e2) c2 p2)
    | false => exact iteF (k false G1 B1 H1 e1 c1 (h3 G1 p))
theorem rt_or {t u : TT} {Φa Φt : Bool → Store → Prop} (h1 : RT K t ρ G Φa) (h2 : ∀ G1, Φa false G1 → RT K u ρ G1 Φt) (h3 : ∀ G1, Φa true G1 → Φt true G1) : RT K (tOr t u) ρ G Φt := fun F σ B H Q c s k =>
  h1 F σ B H _ c s fun b G1 B1 H1 e1 c1 p => by
    cases b with
    | true => exact iteT (k true G1 B1 H1 e1 c1 (h3 G1 p))
    | false => exact iteF (h2 G1 p F σ B1 H1 Q c1 (s.mono e1) fun b G2 B2 H2 e2 c2 p2 => k b G2 B2 H2 (e1.trans e2) c2 p2)
theorem rt_not {t : TT} {Φt : Bool → Store → Prop} (h : RT K t ρ G fun b G2 => Φt (!b) G2) : RT K (tNot t) ρ G Φt := fun F σ B H Q c s k =>
  h F σ B H _ c s fun b G1 B1 H1 e1 c1 p => k (!b) G1 B1 H1 e1 c1 p
theorem r_andV {Φa : Pst} (h1 : R K ta ρ G fun y G2 => ∃ b, y = .d (.bool b) ∧ Φa y G2) (h2 : ∀ G1, Φa (.d (.bool true)) G1 → R K tb ρ G1 Φ) (h3 : ∀ G1, Φa (.d (.bool false)) G1 → Φ (.d (.bool false)) G1) : R K (tAndV ta tb) ρ G Φ := fun F σ B H Q c s k =>
  h1 F σ B H _ c s fun v x G1 B1 H1 e1 c1 r1 ⟨b, e, p⟩ => by
    subst e
    cases r1
    refine ⟨b, rfl, ?_⟩
    cases b with
    | true => exact iteT (h2 G1 p F σ B1 H1 Q c1 (s.mono e1) (k.mono e1))
    | false => exact iteF (k (.bl false) (.d (.bool false)) G1 B1 H1 e1 c1 (show Rp K _ _ _ from .rbl false) (h3 G1 p))

/-! statements -/
variable {N : Env → Store → Prop} {t u : TS}
theorem RS.imp {N' : Env → Store → Prop} (h : RS K t ρ G N Φ) (i : ∀ ρ' G2, N ρ' G2 → N' ρ' G2) : RS K t ρ G N' Φ := fun F σ B H D c s n k => h F σ B H D c s (fun ρ' σ' G2 B2 H2 e c2 s2 p => n ρ' σ' G2 B2 H2 e c2 s2 (i _ _ p)) k
theorem rs_seq {M : Env → Store → Prop} (h1 : RS K t ρ G M Φ) (h2 : ∀ ρ' G', M ρ' G' → RS K u ρ' G' N Φ) : RS K (tSeq t u) ρ G N Φ := fun F σ B H D c s n k =>
  h1 F σ B H { D with nx := u D } c s (fun ρ' σ' G2 B2 H2 e c2 s2 p => h2 ρ' G2 p F σ' B2 H2 D c2 s2 (fun ρ3 σ3 G3 B3 H3 e3 c3 s3 p3 => n ρ3 σ3 G3 B3 H3 (e.trans e3) c3 s3 p3) (k.mono e)) k
theorem rs_nx (p : N ρ G) : RS K tNext ρ G N Φ := fun F σ B H D c s n k => n ρ σ G B H (Evl.Ex.refl B) c s p
theorem rs_ret (h : R K te ρ G Φ) : RS K (tRet te) ρ G N Φ := fun F σ B H D c s n k => h F σ B H D.rt c s k
theorem rs_drop {Φe : Pst} (h : R K te ρ G Φe) (p : ∀ x G2, Φe x G2 → N ρ G2) : RS K (tDrop te) ρ G N Φ := fun F σ B H D c s n k =>
  h F σ B H _ c s fun v x G2 B2 H2 e c2 r q => n ρ σ G2 B2 H2 e c2 (s.mono e) (p x G2 q)
theorem rs_if {tc : TT} {Φc : Bool → Store → Prop} (hc : RT K tc ρ G Φc) (h1 : ∀ G1, Φc true G1 → RS K t ρ G1 N Φ) (h2 : ∀ G1, Φc false G1 → RS K u ρ G1 N Φ) : RS K (tIfS tc t u) ρ G N Φ := fun F σ B H D c s n k =>
  hc F σ B H _ c s fun b G1 B1 H1 e1 c1 p => by
    have n' : ∀ ρ' σ' G2 B2 H2, Ex B1 B2 → Cfg K F G2 B2 H2 → Slots K B2 σ' ρ' → N ρ' G2 → D.nx σ' H2 := fun ρ' σ' G2 B2 H2 e => n ρ' σ' G2 B2 H2 (e1.trans e)
    cases b with
    | true => exact iteT (h1 G1 p F σ B1 H1 D c1 (s.mono e1) n' (k.mono e1))
    | false => exact iteF (h2 G1 p F σ B1 H1 D c1 (s.mono e1) n' (k.mono e1))
theorem rg_name {i : Nat} {x : DV} : RG K (gName i) [i] x ρ (ρ.set i (some x)) := fun σ B H v Q e s r k => k _ (s.set r i) fun vs h => wipe_set (h i List.mem_cons_self) _
theorem rgs_nil : RGs K gNil [] [] ρ ρ := fun σ B H vs Q e s r k => by
  cases r
  exact ⟨rfl, k σ s fun _ _ => rfl⟩
theorem rgs_cons {g : TG} {gs : TGs} {i : List Nat} {js : List Nat} {d : PyData} {ds : List PyData} {ρ1 ρ2 : Env} (h1 : RG K g i (.d d) ρ ρ1) (h2 : RGs K gs js ds ρ1 ρ2) : RGs K (gCons g gs) (i ++ js) (d :: ds) ρ ρ2 := fun σ B H vs Q e s r k => by
  cases r with
  | cons a b =>
    refine ⟨_, _, rfl, h1 σ B H _ _ e s a fun σ1 s1 w1 => ?_⟩
    exact h2 σ1 B H _ Q e s1 b fun σ2 s2 w2 => k σ2 s2 fun vs h => (w2 vs fun j hj => h j (List.mem_append_right _ hj)).trans (w1 vs fun j hj => h j (List.mem_append_left _ hj))
theorem rg_tup {gs : TGs} {js : List Nat} {ds : List PyData} {n : Nat} {ρ' : Env} (hn : ds.length = n) (h : RGs K gs js ds ρ ρ') : RG K (gTup K n gs) js (.d (.tuple ds)) ρ ρ' := fun σ B H v Q e s r k => by
  cases r with
  | rtup p q pl => exact ⟨_, _, rfl, Evl.ex_t e p, q.len.trans hn, h σ B H _ Q e s q k⟩
theorem rs_asg {g : TG} {js : List Nat} {Φe : Pst} (h : R K te ρ G Φe) (hg : ∀ x G2, Φe x G2 → ∃ ρ', RG K g js x ρ ρ' ∧ N ρ' G2) : RS K (tAsg te g) ρ G N Φ := fun F σ B H D c s n k =>
  h F σ B H _ c s fun v x G2 B2 H2 e c2 r q => by
    obtain ⟨ρ', g1, p⟩ := hg x G2 q
    exact g1 σ B2 H2 v _ c2.ex (s.mono e) r fun σ' s' _ => n ρ' σ' G2 B2 H2 e c2 s' p
theorem rs_par {i j : Nat} {t : TA} {Φl : List DV → Store → Prop} (h : RA K t ρ G Φl) (hg : ∀ xs G2, Φl xs G2 → ∃ x y, xs = [x, y] ∧ N ((ρ.set i (some x)).set j (some y)) G2) : RS K (tPar i j t) ρ G N Φ := fun F σ B H D c s n k =>
  h F σ B H _ c s fun vs xs G2 B2 H2 e c2 r q => by
    obtain ⟨x, y, e1, p⟩ := hg xs G2 q
    subst e1
    cases r with
    | cons a b =>
      cases b with
      | cons b d =>
        cases d
        exact ⟨_, _, rfl, n _ _ G2 B2 H2 e c2 (((s.mono e).set a i).set b j) p⟩
/-- loops: I tells what holds ahead of turn i -/
theorem rs_forL {tl : TE} {g : TG} {tb : TS} {js : List Nat} {ds : List PyData} (I : Nat → Env → Store → Prop) (hl : R K tl ρ G (Is (.d (.list ds)) G)) (h0 : I 0 ρ G)
    (hs : ∀ i d ρ1 G1, ds[i]? = some d → I i ρ1 G1 → ∃ ρ2, RG K g js (.d d) ρ1 ρ2 ∧ RS K tb ρ2 G1 (I (i + 1)) Φ) (hd : ∀ ρ1 G1, I ds.length ρ1 G1 → N ρ1 G1) : RS K (tFor (iList K tl) g tb) ρ G N Φ := fun F σ B H D c s n k =>
  hl F σ B H _ c s fun v x G2 B2 H2 e c2 r q => by
    obtain ⟨e1, e2⟩ := q
    subst e1 e2
    cases r with
    | rlst p rr =>
      rename_i a vs
      refine ⟨a, rfl, ⟨vs, Evl.ex_l c2.ex p⟩, ?_⟩
      refine for_list (xs := vs) (fun i σ' H' => ∃ ρ1 G1 B1, Ex B2 B1 ∧ Cfg K F G1 B1 H' ∧ Slots K B1 σ' ρ1 ∧ I i ρ1 G1) ⟨ρ, G2, B2, Evl.Ex.refl _, c2, s.mono e, h0⟩
        (fun i σ' H' _ ⟨ρ1, G1, B1, e1, c1, s1, p1⟩ => Evl.ex_l (e1.trans c1.ex) p) (fun i y σ' H' hy ⟨ρ1, G1, B1, e1, c1, s1, p1⟩ => ?_) fun σ' H' ⟨ρ1, G1, B1, e1, c1, s1, p1⟩ => ?_
      · obtain ⟨d, hd1, hd2⟩ := rr.back hy
        obtain ⟨ρ2, g1, b1⟩ := hs i d ρ1 G1 hd1 p1
        refine g1 σ' B1 H' y _ c1.ex s1 (hd2.mono e1) fun σ2 s2 _ => ?_
        exact b1 F σ2 B1 H' _ c1 s2 (fun ρ3 σ3 G3 B3 H3 e3 c3 s3 p3 => ⟨ρ3, G3, B3, e1.trans e3, c3, s3, p3⟩) (k.mono (e.trans e1))
      · rw [rr.len] at p1
        exact n ρ1 σ' G1 B1 H' (e.trans e1) c1 s1 (hd ρ1 G1 p1)
theorem rs_forT {tl : TE} {g : TG} {tb : TS} {js : List Nat} {ds : List PyData} (I : Nat → Env → Store → Prop) (hl : R K tl ρ G (Is (.d (.tuple ds)) G)) (h0 : I 0 ρ G)
    (hs : ∀ i d ρ1 G1, ds[i]? = some d → I i ρ1 G1 → ∃ ρ2, RG K g js (.d d) ρ1 ρ2 ∧ RS K tb ρ2 G1 (I (i + 1)) Φ) (hd : ∀ ρ1 G1, I ds.length ρ1 G1 → N ρ1 G1) : RS K (tFor (iTup K tl) g tb) ρ G N Φ := fun F σ B H D c s n k =>
  hl F σ B H _ c s fun v x G2 B2 H2 e c2 r q => by
    obtain ⟨e1, e2⟩ := q
    subst e1 e2
    cases r with
    | rtup p rr pl =>
      rename_i a vs
      refine ⟨a, rfl, ⟨vs, Evl.ex_t c2.ex p⟩, ?_⟩
      refine for_tup (xs := vs) (fun i σ' H' => ∃ ρ1 G1 B1, Ex B2 B1 ∧ Cfg K F G1 B1 H' ∧ Slots K B1 σ' ρ1 ∧ I i ρ1 G1) ⟨ρ, G2, B2, Evl.Ex.refl _, c2, s.mono e, h0⟩
        (fun i σ' H' _ ⟨ρ1, G1, B1, e1, c1, s1, p1⟩ => Evl.ex_t (e1.trans c1.ex) p) (fun i y σ' H' hy ⟨ρ1, G1, B1, e1, c1, s1, p1⟩ => ?_) fun σ' H' ⟨ρ1, G1, B1, e1, c1, s1, p1⟩ => ?_
      · obtain ⟨d, hd1, hd2⟩ := rr.back hy
        obtain ⟨ρ2, g1, b1⟩ := hs i d ρ1 G1 hd1 p1
        refine g1 σ' B1 H' y _ c1.ex s1 (hd2.mono e1) fun σ2 s2 _ => ?_
        exact b1 F σ2 B1 H' _ c1 s2 (fun ρ3 σ3 G3 B3 H3 e3 c3 s3 p3 => ⟨ρ3, G3, B3, e1.trans e3, c3, s3, p3⟩) (k.mono (e.trans e1))
      · rw [rr.len] at p1
        exact n ρ1 σ' G1 B1 H' (e.trans e1) c1 s1 (hd ρ1 G1 p1)
/-- for x in range(n) -/
theorem rs_forR {ta : TA} {g : TG} {tb : TS} {js : List Nat} {Φl : List DV → Store → Prop} (I : Int → Nat → Env → Store → Prop) (hl : RA K ta ρ G Φl) (h0 : ∀ xs G1, Φl xs G1 → ∃ n : Int, xs = [.d (.int n)] ∧ n ≤ 100000 ∧ -100000 ≤ n ∧ I n 0 ρ G1)
    (hs : ∀ (n : Int) (i : Nat) ρ1 G1, (i : Int) < n → I n i ρ1 G1 → ∃ ρ2, RG K g js (.d (.int i)) ρ1 ρ2 ∧ RS K tb ρ2 G1 (I n (i + 1)) Φ) (hd : ∀ (n : Int) ρ1 G1, I n n.toNat ρ1 G1 → N ρ1 G1) : RS K (tFor (iRng1 ta) g tb) ρ G N Φ := fun F σ B H D c s nn k =>
  hl F σ B H _ c s fun vs xs G2 B2 H2 e c2 r q => by
    obtain ⟨n, e1, n1, n2, p0⟩ := h0 xs G2 q
    subst e1
    cases r with
    | cons a b =>
      cases b
      cases a
      refine ⟨n, rfl, by omega, by omega, ?_⟩
      refine for_range (lo := 0) (n := n.toNat) (fun i σ' H' => ∃ ρ1 G1 B1, Ex B2 B1 ∧ Cfg K F G1 B1 H' ∧ Slots K B1 σ' ρ1 ∧ I n i ρ1 G1) ⟨ρ, G2, B2, Evl.Ex.refl _, c2, s.mono e, p0⟩
        (fun i σ' H' hi ⟨ρ1, G1, B1, e1, c1, s1, p1⟩ => ?_) fun σ' H' ⟨ρ1, G1, B1, e1, c1, s1, p1⟩ => nn ρ1 σ' G1 B1 H' (e.trans e1) c1 s1 (hd n ρ1 G1 p1)
      obtain ⟨ρ2, g1, b1⟩ := hs n i ρ1 G1 (by omega) p1
      rw [Int.zero_add]
      refine g1 σ' B1 H' (.int i) _ c1.ex s1 (.rint i) fun σ2 s2 _ => ?_
      exact b1 F σ2 B1 H' _ c1 s2 (fun ρ3 σ3 G3 B3 H3 e3 c3 s3 p3 => ⟨ρ3, G3, B3, e1.trans e3, c3, s3, p3⟩) (k.mono (e.trans e1))
end
end Fsh

set_option Elab.async false
set_option linter.all false
set_option maxRecDepth 100000
namespace Fsh
open PySem PySem.Spec PyProof.Rows L2

section
variable {K : PySem.W.Frag} {F B H : Hp} {G : Store} {p : Addr} {o o' : HO}
theorem Cfg.hide (c : Cfg K F G B H) (hp : H p = none) : Cfg K (upd F p o) G B (upd H p o) where
  ex := Ex.out c.ex (Ex.free c.ex hp) o
  fr := Ex.new c.fr hp o
  ce := fun x hx => (c.ce x hx).mono (Evl.Ex.refl B) (upd_ne (c.neG hp x hx))
  fb := fun q hq => by
    by_cases e : q = p
    · subst e
      exact Ex.free c.ex hp
    · rw [upd_ne e] at hq
      exact c.fb q hq
  gb := c.gb
  gf := fun x hx => by
    rw [upd_ne (c.neG hp x hx)]
    exact c.gf x hx
  nd := c.nd
theorem Cfg.hidB (c : Cfg K (upd F p o) G B H) : B p = none := c.fb p (by rw [upd_same]; exact fun z => nomatch z)
theorem Cfg.hidG (c : Cfg K (upd F p o) G B H) : ∀ x ∈ G, x.1 ≠ p := fun x hx z => by
  have := c.gf x hx
  rw [z, upd_same] at this
  cases this
theorem Cfg.hidF (c : Cfg K (upd F p o) G B H) (nF : F p = none) : Cfg K (upd F p o') G B (upd H p o') where
  ex := Ex.out c.ex c.hidB o'
  fr := fun q u hq => by
    by_cases e : q = p
    · subst e
      rw [upd_same] at hq ⊢
      exact hq
    · rw [upd_ne e] at hq ⊢
      exact c.fr q u (by rw [upd_ne e]; exact hq)
  ce := fun x hx => (c.ce x hx).mono (Evl.Ex.refl B) (upd_ne (c.hidG x hx))
  fb := fun q hq => by
    by_cases e : q = p
    · subst e
      exact c.hidB
    · rw [upd_ne e] at hq
      exact c.fb q (by rw [upd_ne e]; exact hq)
  gb := c.gb
  gf := fun x hx => by
    have := c.gf x hx
    rw [upd_ne (c.hidG x hx)] at this ⊢
    exact this
  nd := c.nd
/-- what was hidden comes out as a cell -/
theorem Cfg.shown {vs : List V} {xs : List PyData} (c : Cfg K (upd F p (.lst vs)) G B H) (nF : F p = none) (r : Rps K B vs xs) : Cfg K F ((p, .lst xs) :: G) B H where
  ex := c.ex
  fr := fun q u hq => c.fr q u (by rw [upd_ne (fun e => by rw [e, nF] at hq; cases hq)]; exact hq)
  ce := fun x hx => by
    rcases List.mem_cons.mp hx with z | z
    · subst z
      exact ⟨vs, c.fr p _ upd_same, r⟩
    · exact c.ce x z
  fb := fun q hq => c.fb q (by rw [upd_ne (fun e : q = p => hq (by rw [e]; exact nF))]; exact hq)
  gb := fun x hx => by
    rcases List.mem_cons.mp hx with z | z
    · subst z
      exact c.hidB
    · exact c.gb x z
  gf := fun x hx => by
    rcases List.mem_cons.mp hx with z | z
    · subst z
      exact nF
    · have := c.gf x z
      rw [upd_ne (c.hidG x z)] at this
      exact this
  nd := by
    rw [List.map_cons, List.nodup_cons]
    refine ⟨fun z => ?_, c.nd⟩
    obtain ⟨y, hy, e⟩ := List.mem_map.mp z
    exact c.hidG y hy e
end

section
variable {K : PySem.W.Frag} {ρ : Env} {G : Store} {Φ : Pst} {tl te : TE} {tt : TT} {g : TG} {js vs : List Nat}
/-- what a turn of a comprehension asks -/
def Turn1 (K : PySem.W.Frag) (tt : TT) (te : TE) (ρ : Env) (G : Store) (J : List PyData → Store → Prop) (acc : List PyData) : Prop :=
  RT K tt ρ G fun b G2 => if b = true then R K te ρ G2 fun y G3 => ∃ z, y = .d z ∧ J (acc ++ [z]) G3 else J acc G2
theorem rt_yes {Φt : Bool → Store → Prop} (h : Φt true G) : RT K tYes ρ G Φt := fun F σ B H Q c s k => k true G B H (Evl.Ex.refl B) c h
theorem turn_all {J : List PyData → Store → Prop} {acc : List PyData} (h : R K te ρ G fun y G3 => ∃ z, y = .d z ∧ J (acc ++ [z]) G3) : Turn1 K tYes te ρ G J acc := rt_yes (by rw [if_pos rfl]; exact h)

/-- the state between two turns -/
def Mid (K : PySem.W.Frag) (F B : Hp) (D : Addr) (I : List PyData → Store → Prop) (n : Nat) (H : Hp) : Prop :=
  ∃ (av : List V) (acc : List PyData) (G1 : Store) (B1 : Hp), Ex B B1 ∧ Rps K B1 av acc ∧ acc.length ≤ n ∧ Cfg K (upd F D (.lst av)) G1 B1 H ∧ I acc G1
theorem mid_turn {F B : Hp} {D : Addr} {I J : List PyData → Store → Prop} {n : Nat} {H : Hp} {σ : L2.St} {v : V} {d : PyData} {ρ2 : Env} (nF : F D = none) (hn : n < 100000) (hj : ∀ j ∈ js, j ∈ vs) (s : Slots K B σ ρ) (r : ∀ B1, Ex B B1 → Rp K B1 v d)
    (m : Mid K F B D I n H) (hg : RG K g js (.d d) (wipeE ρ vs) ρ2) (ht : ∀ acc G1, I acc G1 → Turn1 K tt te ρ2 G1 J acc) :
    g v (wipe σ vs) H fun σ2 H2 => wipe σ2 vs = wipe σ vs ∧ tt σ2 H2 fun b H3 =>
      if b = true then te σ2 H3 fun y H4 => ∃ acc, H4 D = some (.lst acc) ∧ acc.length < sizeLine ∧ Mid K F B D J (n + 1) (upd H4 D (.lst (acc ++ [y]))) else Mid K F B D J (n + 1) H3 := by
  obtain ⟨av, acc, G1, B1, e1, ra, hl, c1, p1⟩ := m
  refine hg (wipe σ vs) B1 H v _ c1.ex ((s.mono e1).wiped vs) (r B1 e1) fun σ2 s2 w2 => ⟨(w2 vs hj).trans (wipe_wipe vs), ?_⟩
  refine ht acc G1 p1 (upd F D (.lst av)) σ2 B1 H _ c1 s2 fun b G2 B2 H2 e2 c2 p2 => ?_
  cases b with
  | true =>
    rw [if_pos rfl] at p2 ⊢
    refine p2 (upd F D (.lst av)) σ2 B2 H2 _ c2 (s2.mono e2) fun y yx G3 B3 H3 e3 c3 r3 ⟨z, ez, p3⟩ => ?_
    subst ez
    have hz : av.length < sizeLine := by
      rw [ra.len]
      exact Evl.sz_lt (by omega)
    refine ⟨av, c3.fr _ _ upd_same, hz, av ++ [y], acc ++ [z], G3, B3, (e1.trans e2).trans e3, (ra.mono (e2.trans e3)).app (.cons r3 .nil), by rw [List.length_append]; simp; omega, c3.hidF nF, p3⟩
  | false =>
    rw [if_neg Bool.false_ne_true] at p2 ⊢
    exact ⟨av, acc, G2, B2, e1.trans e2, ra.mono e2, by omega, c2, p2⟩
theorem mid_end {F B : Hp} {D : Addr} {I : List PyData → Store → Prop} {n : Nat} {H : Hp} {Q : VK} (nF : F D = none) (m : Mid K F B D I n H) (k : Kp K F B (fun y G2 => ∃ l acc G3, y = .a l ∧ G2 = (l, .lst acc) :: G3 ∧ I acc G3) Q) : Q (.ref D) H := by
  obtain ⟨av, acc, G1, B1, e1, ra, hl, c1, p1⟩ := m
  exact k (.ref D) (.a D) _ B1 H e1 (c1.shown nF ra) rfl ⟨D, acc, G1, rfl, rfl, p1⟩
theorem r_lcL {ds : List PyData} (I : Nat → List PyData → Store → Prop) (hl : R K tl ρ G (Is (.d (.list ds)) G)) (hj : ∀ j ∈ js, j ∈ vs) (hz : ds.length ≤ 100000) (h0 : I 0 [] G)
    (hs : ∀ i d, ds[i]? = some d → ∃ ρ2, RG K g js (.d d) (wipeE ρ vs) ρ2 ∧ ∀ acc G1, I i acc G1 → Turn1 K tt te ρ2 G1 (I (i + 1)) acc) :
    R K (tLc (iList K tl) g tt te vs) ρ G fun y G2 => ∃ l acc G3, y = .a l ∧ G2 = (l, .lst acc) :: G3 ∧ I ds.length acc G3 := fun F σ B H Q c s k =>
  hl F σ B H _ c s fun v x G2 B2 H2 e c2 r q => by
    obtain ⟨e1, e2⟩ := q
    subst e1 e2
    cases r with
    | rlst p rr =>
      rename_i a ws
      refine ⟨a, rfl, ⟨ws, Evl.ex_l c2.ex p⟩, fun D hD => ?_⟩
      have nF : F D = none := Ex.free c2.fr hD
      refine lc_list (xs := ws) (fun i H' => Mid K F B2 D (I i) i H') ⟨[], [], G2, B2, Evl.Ex.refl _, .nil, Nat.le_refl _, c2.hide hD, h0⟩
        (fun i H' _ ⟨av, acc, G1, B1, e1, ra, _, c1, p1⟩ => Evl.ex_l (e1.trans c1.ex) p) (fun i y H' hy m => ?_) fun H' m => ?_
      · obtain ⟨d, hd1, hd2⟩ := rr.back hy
        obtain ⟨ρ2, g1, b1⟩ := hs i d hd1
        have hi := (List.getElem?_eq_some_iff.mp hd1).1
        exact mid_turn nF (by omega) hj (s.mono e) (fun B1 e1 => hd2.mono e1) m g1 b1
      · rw [rr.len] at m
        exact mid_end nF m (k.mono e)
theorem r_lcT {ds : List PyData} (I : Nat → List PyData → Store → Prop) (hl : R K tl ρ G (Is (.d (.tuple ds)) G)) (hj : ∀ j ∈ js, j ∈ vs) (hz : ds.length ≤ 100000) (h0 : I 0 [] G)
    (hs : ∀ i d, ds[i]? = some d → ∃ ρ2, RG K g js (.d d) (wipeE ρ vs) ρ2 ∧ ∀ acc G1, I i acc G1 → Turn1 K tt te ρ2 G1 (I (i + 1)) acc) :
    R K (tLc (iTup K tl) g tt te vs) ρ G fun y G2 => ∃ l acc G3, y = .a l ∧ G2 = (l, .lst acc) :: G3 ∧ I ds.length acc G3 := fun F σ B H Q c s k =>
  hl F σ B H _ c s fun v x G2 B2 H2 e c2 r q => by
    obtain ⟨e1, e2⟩ := q
    subst e1 e2
    cases r with
    | rtup p rr pl =>
      rename_i a ws
      refine ⟨a, rfl, ⟨ws, Evl.ex_t c2.ex p⟩, fun D hD => ?_⟩
      have nF : F D = none := Ex.free c2.fr hD
      refine lc_tup (xs := ws) (fun i H' => Mid K F B2 D (I i) i H') ⟨[], [], G2, B2, Evl.Ex.refl _, .nil, Nat.le_refl _, c2.hide hD, h0⟩
        (fun i H' _ ⟨av, acc, G1, B1, e1, ra, _, c1, p1⟩ => Evl.ex_t (e1.trans c1.ex) p) (fun i y H' hy m => ?_) fun H' m => ?_
      · obtain ⟨d, hd1, hd2⟩ := rr.back hy
        obtain ⟨ρ2, g1, b1⟩ := hs i d hd1
        have hi := (List.getElem?_eq_some_iff.mp hd1).1
        exact mid_turn nF (by omega) hj (s.mono e) (fun B1 e1 => hd2.mono e1) m g1 b1
      · rw [rr.len] at m
        exact mid_end nF m (k.mono e)
theorem r_lcR {ta : TA} {Φl : List DV → Store → Prop} (I : Int → Nat → List PyData → Store → Prop) (hl : RA K ta ρ G Φl) (hj : ∀ j ∈ js, j ∈ vs) (h0 : ∀ xs G1, Φl xs G1 → ∃ n : Int, xs = [.d (.int n)] ∧ n ≤ 100000 ∧ -100000 ≤ n ∧ I n 0 [] G1)
    (hs : ∀ (n : Int) (i : Nat), (i : Int) < n → ∃ ρ2, RG K g js (.d (.int i)) (wipeE ρ vs) ρ2 ∧ ∀ acc G1, I n i acc G1 → Turn1 K tt te ρ2 G1 (I n (i + 1)) acc) :
    R K (tLc (iRng1 ta) g tt te vs) ρ G fun y G2 => ∃ l acc G3, y = .a l ∧ G2 = (l, .lst acc) :: G3 ∧ ∃ n : Int, I n n.toNat acc G3 := fun F σ B H Q c s k =>
  hl F σ B H _ c s fun vs' xs G2 B2 H2 e c2 r q => by
    obtain ⟨n, e1, n1, n2, p0⟩ := h0 xs G2 q
    subst e1
    cases r with
    | cons a b =>
      cases b
      cases a
      refine ⟨n, rfl, by omega, by omega, fun D hD => ?_⟩
      have nF : F D = none := Ex.free c2.fr hD
      refine lc_range (lo := 0) (n := n.toNat) (fun i H' => Mid K F B2 D (I n i) i H') ⟨[], [], G2, B2, Evl.Ex.refl _, .nil, Nat.le_refl _, c2.hide hD, p0⟩ (fun i H' hi m => ?_) fun H' m => ?_
      · obtain ⟨ρ2, g1, b1⟩ := hs n i (by omega)
        rw [Int.zero_add]
        exact mid_turn nF (by omega) hj (s.mono e) (fun B1 e1 => .rint i) m g1 b1
      · exact mid_end nF m ((k.mono e).imp fun y G2 ⟨l, acc, G3, a, b, p⟩ => ⟨l, acc, G3, a, b, n, p⟩)
end
end Fsh

set_option Elab.async false
set_option linter.all false
set_option maxRecDepth 100000
namespace Fsh
open PySem PySem.Spec PyProof.Rows L2

/-! ### the reading that says no more than the run does -/
/-- a lock: Lean's own evaluation stops here -/
structure Say (p : Prop) : Prop where
  run : p
def tw (X : Cx) (e : Expr) : TE := fun σ H Q => Say (∀ pins s, Inv X pins σ H s → wpAny (model X.prog X.w) X.A (eval e X.env) (EP X pins σ Q) X.xe s)
def twT (X : Cx) (e : Expr) : TT := fun σ H Q => Say (∀ pins s, Inv X pins σ H s → wpAny (model X.prog X.w) X.A (isTrue e X.env (eval e X.env)) (TP X pins σ Q) X.xe s)
def twW (X : Cx) (e : Expr) : TT := fun σ H Q => Say (∀ whole pins s, Inv X pins σ H s → wpAny (model X.prog X.w) X.A (isTrue e X.env whole) (TP X pins σ Q) X.xe s)
def twA (X : Cx) (es : List Expr) : TA := fun σ H Q => Say (∀ pos pins s, Inv X pins σ H s → wpAny (model X.prog X.w) X.A (spliced (backTo pos (starEach es X.env))) (AP X pins σ Q) X.xe s)
def twS (X : Cx) (st : Stmt) : TS := fun D σ H => Say (∀ pins s, Inv X pins σ H s → wpAny (model X.prog X.w) X.A (exec st X.env) (SP X pins D) X.xe s)
def twSs (X : Cx) (sts : List Stmt) : TS := fun D σ H => Say (∀ pins s, Inv X pins σ H s → wpAny (model X.prog X.w) X.A (execs sts X.env) (SP X pins D) X.xe s)
abbrev Xp (X : Cx) (e : Expr) (ρ : Env) (G : Store) (Φ : Pst) : Prop := R X.K (tw X e) ρ G Φ
abbrev Xt (X : Cx) (e : Expr) (ρ : Env) (G : Store) (Φ : Bool → Store → Prop) : Prop := RT X.K (twT X e) ρ G Φ
abbrev Xw (X : Cx) (e : Expr) (ρ : Env) (G : Store) (Φ : Bool → Store → Prop) : Prop := RT X.K (twW X e) ρ G Φ
abbrev Xa (X : Cx) (es : List Expr) (ρ : Env) (G : Store) (Φ : List DV → Store → Prop) : Prop := RA X.K (twA X es) ρ G Φ
abbrev Xs (X : Cx) (st : Stmt) (ρ : Env) (G : Store) (N : Env → Store → Prop) (Φ : Pst) : Prop := RS X.K (twS X st) ρ G N Φ
abbrev Xss (X : Cx) (sts : List Stmt) (ρ : Env) (G : Store) (N : Env → Store → Prop) (Φ : Pst) : Prop := RS X.K (twSs X sts) ρ G N Φ
/-- told by one value; a new list; a test told by one answer -/
abbrev Xd (X : Cx) (e : Expr) (ρ : Env) (x : DV) : Prop := ∀ G, Xp X e ρ G (Is x G)
abbrev Xl (X : Cx) (e : Expr) (ρ : Env) (ds : List PyData) : Prop := ∀ G, Xp X e ρ G (New ds G)
abbrev Xb (X : Cx) (e : Expr) (ρ : Env) (b : Bool) : Prop := ∀ G, Xt X e ρ G (IsT b G)
abbrev Xwb (X : Cx) (e : Expr) (ρ : Env) (b : Bool) : Prop := ∀ G, Xw X e ρ G (IsT b G)
abbrev Xad (X : Cx) (es : List Expr) (ρ : Env) (xs : List DV) : Prop := ∀ G, Xa X es ρ G (IsA xs G)

section
variable {X : Cx} {e a b c o : Expr} {es : List Expr} {ρ : Env} {G : Store} {Φ : Pst} {pos p p2 apos : Pos}
theorem pe_tw : PE X e (tw X e) := ⟨fun pins s σ H Q I h => h.run pins s I⟩
theorem pt_tw : PT X e (twT X e) := ⟨fun pins s σ H Q I h => h.run pins s I⟩
theorem pw_tw : PW X e (twW X e) := ⟨fun wh pins s σ H Q I h => h.run wh pins s I⟩
theorem pa_tw : PA X es (twA X es) := ⟨fun pos pins s σ H Q I h => h.run pos pins s I⟩
theorem ps_tw {st : Stmt} : PS X st (twS X st) := ⟨fun pins s σ H D I h => h.run pins s I⟩
theorem pss_tw {sts : List Stmt} : PSs X sts (twSs X sts) := ⟨fun pins s σ H D I h => h.run pins s I⟩
theorem xp_of {t : TE} (h : PE X e t) (r : R X.K t ρ G Φ) : Xp X e ρ G Φ := fun F σ B H Q c s k => ⟨fun pins st I => h.run pins st σ H Q I (r F σ B H Q c s k)⟩
theorem xt_of {t : TT} {Φt : Bool → Store → Prop} (h : PT X e t) (r : RT X.K t ρ G Φt) : Xt X e ρ G Φt := fun F σ B H Q c s k => ⟨fun pins st I => h.run pins st σ H Q I (r F σ B H Q c s k)⟩
theorem xw_of {t : TT} {Φt : Bool → Store → Prop} (h : PW X e t) (r : RT X.K t ρ G Φt) : Xw X e ρ G Φt := fun F σ B H Q c s k => ⟨fun wh pins st I => h.run wh pins st σ H Q I (r F σ B H Q c s k)⟩
theorem xa_of {t : TA} {Φl : List DV → Store → Prop} (h : PA X es t) (r : RA X.K t ρ G Φl) : Xa X es ρ G Φl := fun F σ B H Q c s k => ⟨fun ps pins st I => h.run ps pins st σ H Q I (r F σ B H Q c s k)⟩
theorem xs_of {st : Stmt} {t : TS} {N : Env → Store → Prop} (h : PS X st t) (r : RS X.K t ρ G N Φ) : Xs X st ρ G N Φ := fun F σ B H D c s n k => ⟨fun pins st I => h.run pins st σ H D I (r F σ B H D c s n k)⟩
theorem xss_of {sts : List Stmt} {t : TS} {N : Env → Store → Prop} (h : PSs X sts t) (r : RS X.K t ρ G N Φ) : Xss X sts ρ G N Φ := fun F σ B H D c s n k => ⟨fun pins st I => h.run pins st σ H D I (r F σ B H D c s n k)⟩
theorem RT.imp {K : PySem.W.Frag} {t : TT} {Φt Φu : Bool → Store → Prop} (r : RT K t ρ G Φt) (h : ∀ b G2, Φt b G2 → Φu b G2) : RT K t ρ G Φu := fun F σ B H Q c s k => r F σ B H Q c s fun b G2 B2 H2 e c2 q => k b G2 B2 H2 e c2 (h _ _ q)
theorem RA.imp {K : PySem.W.Frag} {t : TA} {Φt Φu : List DV → Store → Prop} (r : RA K t ρ G Φt) (h : ∀ b G2, Φt b G2 → Φu b G2) : RA K t ρ G Φu := fun F σ B H Q c s k => r F σ B H Q c s fun vs b G2 B2 H2 e c2 rv q => k vs b G2 B2 H2 e c2 rv (h _ _ q)
theorem Xd.to {x : DV} (h : Xd X e ρ x) (q : Φ x G) : Xp X e ρ G Φ := (h G).is q
theorem Xl.data {ds : List PyData} (h : Xl X e ρ ds) : Xd X e ρ (.d (.list ds)) := fun G => (h G).gives
theorem Xb.to {x : Bool} {Φt : Bool → Store → Prop} (h : Xb X e ρ x) (q : Φt x G) : Xt X e ρ G Φt := (h G).imp fun y G2 z => by rw [z.1, z.2]; exact q
theorem Xwb.to {x : Bool} {Φt : Bool → Store → Prop} (h : Xwb X e ρ x) (q : Φt x G) : Xw X e ρ G Φt := (h G).imp fun y G2 z => by rw [z.1, z.2]; exact q
theorem Xad.to {x : List DV} {Φt : List DV → Store → Prop} (h : Xad X es ρ x) (q : Φt x G) : Xa X es ρ G Φt := (h G).imp fun y G2 z => by rw [z.1, z.2]; exact q

/-! names, constants -/
theorem xd_name (i : Nat) {x : Str} {y : DV} (hN : X.N[i]? = some x := by rfl) (hv : Vis X.env.scope x := by first | exact Or.inl rfl | exact Or.inr (Or.inl rfl) | exact Or.inr (Or.inr rfl)) (hr : ρ[i]? = some (some y) := by rfl)
    (h1 : (x == ("__debug__" : Str)) = false := by decide) (h2 : (x == ("__classdict__" : Str)) = false := by decide) : Xd X (.Name x pos) ρ y := fun G => xp_of (pe_var hN hv h1 h2) fun F σ B H Q c s k => by
  obtain ⟨v, q, r⟩ := s.2 i y hr
  exact ⟨v, q, k.ret c r ⟨rfl, rfl⟩⟩
theorem xd_int {i : Int} {j : Nat} : Xd X (.Constant (.int i) j pos) ρ (.d (.int i)) := fun G => xp_of pe_int fun F σ B H Q c s k => k.ret (x := .d (.int i)) c (.rint i) ⟨rfl, rfl⟩
theorem xd_str {x : Str} {j : Nat} : Xd X (.Constant (.str x) j pos) ρ (.d (.str x)) := fun G => xp_of pe_str fun F σ B H Q c s k => k.ret (x := .d (.str x)) c (.rstr x) ⟨rfl, rfl⟩
theorem xd_none {j : Nat} : Xd X (.Constant .none j pos) ρ (.d .none) := fun G => xp_of pe_non fun F σ B H Q c s k => k.ret (x := .d .none) c .rnon ⟨rfl, rfl⟩
theorem xd_bool {x : Bool} {j : Nat} : Xd X (.Constant (.bool x) j pos) ρ (.d (.bool x)) := fun G => xp_of pe_bl fun F σ B H Q c s k => k.ret (x := .d (.bool x)) c (.rbl x) ⟨rfl, rfl⟩

/-! operators -/
theorem x_bin {op : Operator} {r : R2} {Φa : Pst} {Φb : DV → Pst} (ho : OpR X (binaryOp op) r) (ha : Xp X a ρ G Φa) (hb : ∀ x G1, Φa x G1 → Xp X b ρ G1 (Φb x)) (hr : ∀ x G1 y G2, Φa x G1 → Φb x y G2 → Op X.K r x y G2 Φ) :
    Xp X (.BinOp a op b pos) ρ G Φ := xp_of (pe_op ho pe_tw pe_tw) (r_op ha hb hr)
theorem x_binD {op : Operator} {r : R2} {x y : DV} (ho : OpR X (binaryOp op) r) (ha : Xd X a ρ x) (hb : Xd X b ρ y) (hr : Op X.K r x y G Φ) : Xp X (.BinOp a op b pos) ρ G Φ := xp_of (pe_op ho pe_tw pe_tw) (r_opD (ha G) (hb G) hr)
/-- the right one has a choice -/
theorem x_binR {op : Operator} {r : R2} {x : DV} {Φb : Pst} (ho : OpR X (binaryOp op) r) (ha : Xd X a ρ x) (hb : Xp X b ρ G Φb) (hr : ∀ y G2, Φb y G2 → Op X.K r x y G2 Φ) : Xp X (.BinOp a op b pos) ρ G Φ :=
  x_bin (Φa := Is x G) (Φb := fun _ => Φb) ho (ha G) (fun x' G1 h => by rw [h.2]; exact hb) fun x' G1 y G2 h1 h2 => by rw [h1.1]; exact hr y G2 h2
theorem op_ii {K : PySem.W.Frag} {g : Int → Int → V} {i j : Int} {z : PyData} {C : Int → Int → Prop} (hc : C i j) (hz : ∀ B, Rp K B (g i j) z) (q : Φ (.d z) G) : Op K (rI C g) (.d (.int i)) (.d (.int j)) G Φ := fun F B H v u Q c r1 r2 k => by
  cases r1
  cases r2
  exact ⟨i, j, rfl, rfl, hc, k.ret (x := .d z) c (hz B) q⟩
theorem op_ii0 {K : PySem.W.Frag} {g : Int → Int → V} {i j : Int} {z : PyData} (hz : ∀ B, Rp K B (g i j) z) (q : Φ (.d z) G) : Op K (rI0 g) (.d (.int i)) (.d (.int j)) G Φ := fun F B H v u Q c r1 r2 k => by
  cases r1
  cases r2
  exact ⟨i, j, rfl, rfl, k.ret (x := .d z) c (hz B) q⟩
theorem xd_add {i j : Int} (ha : Xd X a ρ (.d (.int i))) (hb : Xd X b ρ (.d (.int j))) : Xd X (.BinOp a .Add b pos) ρ (.d (.int (i + j))) := fun G => x_binD op_add ha hb (op_ii0 (fun _ => .rint _) ⟨rfl, rfl⟩)
theorem xd_sub {i j : Int} (ha : Xd X a ρ (.d (.int i))) (hb : Xd X b ρ (.d (.int j))) : Xd X (.BinOp a .Sub b pos) ρ (.d (.int (i - j))) := fun G => x_binD op_sub ha hb (op_ii0 (fun _ => .rint _) ⟨rfl, rfl⟩)
theorem xd_mul {i j : Int} (ha : Xd X a ρ (.d (.int i))) (hb : Xd X b ρ (.d (.int j))) (hc : CMul i j) : Xd X (.BinOp a .Mult b pos) ρ (.d (.int (i * j))) := fun G => x_binD op_mul ha hb (op_ii hc (fun _ => .rint _) ⟨rfl, rfl⟩)
theorem xd_fdiv {i j : Int} (ha : Xd X a ρ (.d (.int i))) (hb : Xd X b ρ (.d (.int j))) (hc : CDivN i j) : Xd X (.BinOp a .FloorDiv b pos) ρ (.d (.int (i.fdiv j))) := fun G => x_binD op_fdivN ha hb (op_ii hc (fun _ => .rint _) ⟨rfl, rfl⟩)
theorem xd_mod {i j : Int} (ha : Xd X a ρ (.d (.int i))) (hb : Xd X b ρ (.d (.int j))) (hc : j ≠ 0) : Xd X (.BinOp a .Mod b pos) ρ (.d (.int (i.fmod j))) := fun G => x_binD op_modN ha hb (op_ii (C := fun _ j => j ≠ 0) hc (fun _ => .rint _) ⟨rfl, rfl⟩)
theorem xd_pow {i j : Int} (ha : Xd X a ρ (.d (.int i))) (hb : Xd X b ρ (.d (.int j))) (hc : CPow i j) : Xd X (.BinOp a .Pow b pos) ρ (.d (.int (i ^ j.toNat))) := fun G => x_binD op_pow ha hb (op_ii hc (fun _ => .rint _) ⟨rfl, rfl⟩)
theorem xd_neg {i : Int} (ha : Xd X a ρ (.d (.int i))) : Xd X (.UnaryOp .USub a pos) ρ (.d (.int (-i))) := fun G => xp_of (pe_un un_neg pe_tw) (r_un (ha G) fun x G1 h => by
  rw [h.1, h.2]
  intro F B H v Q c r k
  cases r
  exact ⟨i, rfl, k.ret (x := .d (.int (-i))) c (.rint _) ⟨rfl, rfl⟩⟩)
theorem op_ss {K : PySem.W.Frag} {s t : Str} (hz : s.length + t.length ≤ sizeLine) (q : Φ (.d (.str (s ++ t))) G) : Op K (fun x y H Q => ∃ i j, x = .str i ∧ y = .str j ∧ i.length + j.length ≤ sizeLine ∧ Q (.str (i ++ j)) H) (.d (.str s)) (.d (.str t)) G Φ := fun F B H v u Q c r1 r2 k => by
  cases r1
  cases r2
  exact ⟨s, t, rfl, rfl, hz, k.ret (x := .d (.str (s ++ t))) c (.rstr _) q⟩
theorem xd_adds {s t : Str} (ha : Xd X a ρ (.d (.str s))) (hb : Xd X b ρ (.d (.str t))) (hz : s.length + t.length ≤ sizeLine) : Xd X (.BinOp a .Add b pos) ρ (.d (.str (s ++ t))) := fun G => x_binD op_add_str ha hb (op_ss hz ⟨rfl, rfl⟩)
/-- lists put together, whoever owns them -/
def rCatS (K : PySem.W.Frag) : R2 := fun v1 v2 H Q => ∃ a1 a2 us ws, v1 = .ref a1 ∧ v2 = .ref a2 ∧ SqL K H a1 us ∧ SqL K H a2 ws ∧ us.length + ws.length ≤ sizeLine ∧ ∀ a3, H a3 = none → Q (.ref a3) (upd H a3 (.lst (us ++ ws)))
theorem op_catS : OpR X (binaryOp .Add) (rCatS X.K) := by
  intro pins s σ H v1 v2 u1 u2 Q I r1 r2 ⟨a1, a2, us, ws, e1, e2, h1, h2, hz, q⟩
  subst e1 e2
  cases r1
  cases r2
  obtain ⟨i1, t1, ⟨⟨_, _, _, _⟩, _, g1, x1, y1, z1⟩, _⟩ := I.list h1
  obtain ⟨i2, t2, ⟨⟨_, _, _, _⟩, _, g2, x2, y2, z2⟩, _⟩ := I.list h2
  simp only at x1 y1 z1 x2 y2 z2
  subst x1 y1 z1 x2 y2 z2
  refine concat_meets ⟨_, g1, rfl⟩ ⟨_, g2, rfl⟩ noFill_list_add seq_list_add PySem.F.slot_list_add PySem.F.entry_list_add (PySem.F.args_list_add_2 _ _) (list_addW _ _ _ _ _ _ _ _ _ _ (by
    rw [List.size_toArray, List.size_toArray, ← t1.length, ← t2.length]
    exact hz)) ⟨g1, g2, ?_⟩
  rw [show i1.toArray ++ i2.toArray = (i1 ++ i2).toArray by simp]
  exact ⟨.ref _, _, I.lnew (t' := s.toks) (t1.append t2) (by rw [List.length_append]; exact hz), rfl, q _ I.fresh⟩
theorem op_ll {K : PySem.W.Frag} {xs ys : List PyData} (hz : xs.length + ys.length ≤ sizeLine) : Op K (rCatS K) (.d (.list xs)) (.d (.list ys)) G (New (xs ++ ys) G) := fun F B H v u Q c r1 r2 k => by
  cases r1 with
  | rlst h1 q1 =>
    cases r2 with
    | rlst h2 q2 =>
      refine ⟨_, _, _, _, rfl, rfl, Evl.ex_l c.ex h1, Evl.ex_l c.ex h2, by rw [q1.len, q2.len]; exact hz, fun p hp => ?_⟩
      exact k _ (.a p) _ B _ (Evl.Ex.refl B) (c.cell (x := .lst (xs ++ ys)) hp ⟨_, upd_same, q1.app q2⟩) rfl ⟨p, rfl, rfl⟩
theorem xl_cat {xs ys : List PyData} (ha : Xd X a ρ (.d (.list xs))) (hb : Xd X b ρ (.d (.list ys))) (hz : xs.length + ys.length ≤ 100000) : Xl X (.BinOp a .Add b pos) ρ (xs ++ ys) := fun G => x_binD op_catS ha hb (op_ll (Evl.sz_of hz))
/-- tuples put together -/
theorem np_strs {l : List Str} {ys : List PyData} (h : l.map PyData.str ≠ []) : pairsD (l.map PyData.str ++ ys) = false := by
  cases l with
  | nil => exact absurd rfl h
  | cons x r => rfl
theorem op_tt {K : PySem.W.Frag} {xs ys : List PyData} (hz : xs.length + ys.length ≤ sizeLine) (np : xs ≠ [] → pairsD (xs ++ ys) = false) : Op K (rCatA K) (.d (.tuple xs)) (.d (.tuple ys)) G (Is (.d (.tuple (xs ++ ys))) G) := fun F B H v u Q c r1 r2 k => by
  cases r1 with
  | rtup h1 q1 l1 =>
    cases r2 with
    | rtup h2 q2 l2 =>
      rename_i p1 v1 p2 v2
      refine ⟨_, _, _, _, rfl, rfl, Evl.ex_t c.ex h1, Evl.ex_t c.ex h2, by rw [q1.len, q2.len]; exact hz, fun z => ?_, fun _ z => ?_, fun nx _ p hp => ?_⟩
      · subst z
        cases q1
        exact k.ret (x := .d (.tuple ys)) c (.rtup h2 q2 l2) ⟨rfl, rfl⟩
      · subst z
        cases q2
        exact k.ret (x := .d (.tuple xs)) c (.rtup h1 q1 l1) ⟨by rw [List.append_nil], rfl⟩
      · have e := ex_new (B := B) (Ex.free c.ex hp) (.tup (v1 ++ v2))
        exact k (.ref p) (.d (.tuple (xs ++ ys))) G _ _ e (c.new hp _) (.rtup (Evl.st_of upd_same) ((q1.app q2).mono e) fun z => by rw [np (fun w => nx (by subst w; cases q1; rfl))] at z; cases z) ⟨rfl, rfl⟩
theorem xd_catt {xs ys : List PyData} (ha : Xd X a ρ (.d (.tuple xs))) (hb : Xd X b ρ (.d (.tuple ys))) (hz : xs.length + ys.length ≤ 100000) (np : xs ≠ [] → pairsD (xs ++ ys) = false := by first | exact fun _ => rfl | exact np_strs | (intro _; simp [pairsD, isPr])) : Xd X (.BinOp a .Add b pos) ρ (.d (.tuple (xs ++ ys))) := fun G => x_binD op_catA ha hb (op_tt (Evl.sz_of hz) np)
theorem rep_rps {K : PySem.W.Frag} {B : Hp} {vs : List V} {ds : List PyData} (r : Rps K B vs ds) : ∀ n : Nat, Rps K B (List.replicate n vs).flatten (List.replicate n ds).flatten
  | 0 => .nil
  | n + 1 => by
    rw [List.replicate_succ, List.replicate_succ, List.flatten_cons, List.flatten_cons]
    exact r.app (rep_rps r n)
theorem np_rep {xs : List PyData} (h : pairsD xs = false) : ∀ {n : Nat}, n ≠ 0 → pairsD (List.replicate n xs).flatten = false
  | 0, z => absurd rfl z
  | n + 1, _ => by
    rw [List.replicate_succ, List.flatten_cons]
    unfold pairsD at h ⊢
    rw [List.all_append, h]
    rfl
theorem op_tn {K : PySem.W.Frag} {xs : List PyData} {n : Int} (h0 : xs ≠ []) (h2 : 2 ≤ n) (h3 : n ≤ 1000) (h4 : xs.length ≤ 1000) (np : pairsD xs = false) : Op K (rRepT K) (.d (.tuple xs)) (.d (.int n)) G (Is (.d (.tuple (List.replicate n.toNat xs).flatten)) G) := fun F B H v u Q c r1 r2 k => by
  cases r2
  cases r1 with
  | rtup h1 q1 h1l =>
    rename_i p1 v1
    refine ⟨_, n, _, rfl, rfl, Evl.ex_t c.ex h1, fun z => ?_, h2, h3, by rw [q1.len]; exact h4, fun p hp => ?_⟩
    · subst z
      cases q1
      exact h0 rfl
    · have e := ex_new (B := B) (Ex.free c.ex hp) (.tup (List.replicate n.toNat v1).flatten)
      exact k (.ref p) (.d (.tuple (List.replicate n.toNat xs).flatten)) G _ _ e (c.new hp _) (.rtup (Evl.st_of upd_same) ((rep_rps q1 _).mono e) fun z => by rw [np_rep np (by omega)] at z; cases z) ⟨rfl, rfl⟩
theorem xd_mult {xs : List PyData} {n : Int} (ha : Xd X a ρ (.d (.tuple xs))) (hb : Xd X b ρ (.d (.int n))) (h0 : xs ≠ []) (h2 : 2 ≤ n) (h3 : n ≤ 1000) (h4 : xs.length ≤ 1000) (np : pairsD xs = false := by rfl) : Xd X (.BinOp a .Mult b pos) ρ (.d (.tuple (List.replicate n.toNat xs).flatten)) :=
  fun G => x_binD op_repT ha hb (op_tn h0 h2 h3 h4 np)

/-! comparisons: as values, as tests -/
theorem x_cmp {op : CmpOp} {r : R2} {Φa : Pst} {Φb : DV → Pst} (ho : OpR X (compareOp op) r) (ha : Xp X a ρ G Φa) (hb : ∀ x G1, Φa x G1 → Xp X b ρ G1 (Φb x)) (hr : ∀ x G1 y G2, Φa x G1 → Φb x y G2 → Op X.K r x y G2 Φ) (hm : behindInMarks op b = false) :
    Xp X (.Compare a [op] [b] pos) ρ G Φ := xp_of (pe_cmpR ho pe_tw pe_tw hm) (r_op ha hb hr)
theorem xt_cmp {op : CmpOp} {r : R2} {Φa : Pst} {Φb : DV → Pst} {Φt : Bool → Store → Prop} (ho : OpR X (compareOp op) r) (ha : Xp X a ρ G Φa) (hb : ∀ x G1, Φa x G1 → Xp X b ρ G1 (Φb x))
    (hr : ∀ x G1 y G2, Φa x G1 → Φb x y G2 → Op X.K r x y G2 fun z G3 => ∃ t, z = .d (.bool t) ∧ Φt t G3) (hm : behindInMarks op b = false) :
    Xt X (.Compare a [op] [b] pos) ρ G Φt := xt_of (pt_cmpR ho pe_tw pe_tw hm) (rt_of (r_op ha hb hr))
theorem x_cmpD {op : CmpOp} {r : R2} {x y : DV} (ho : OpR X (compareOp op) r) (ha : Xd X a ρ x) (hb : Xd X b ρ y) (hr : Op X.K r x y G Φ) (hm : behindInMarks op b = false) : Xp X (.Compare a [op] [b] pos) ρ G Φ := xp_of (pe_cmpR ho pe_tw pe_tw hm) (r_opD (ha G) (hb G) hr)
theorem xt_cmpD {op : CmpOp} {r : R2} {x y : DV} {t : Bool} (ho : OpR X (compareOp op) r) (ha : Xd X a ρ x) (hb : Xd X b ρ y) (hr : ∀ G, Op X.K r x y G (Is (.d (.bool t)) G)) (hm : behindInMarks op b = false) : Xb X (.Compare a [op] [b] pos) ρ t := fun G =>
  xt_of (pt_cmpR ho pe_tw pe_tw hm) (rt_of (r_opD (ha G) (hb G) fun F B H v u Q c r1 r2 k => hr G F B H v u Q c r1 r2 (k.imp fun z G2 q => ⟨t, q.1, rfl, q.2⟩)))
theorem op_eqs {K : PySem.W.Frag} {s t : Str} : Op K rEq (.d (.str s)) (.d (.str t)) G (Is (.d (.bool (decide (s = t)))) G) := fun F B H v u Q c r1 r2 k => by
  cases r1
  cases r2
  refine ⟨rfl, ?_⟩
  rw [show decide (V.str s = V.str t) = decide (s = t) from decide_eq_decide.mpr ⟨V.str.inj, congrArg V.str⟩]
  exact k.ret (x := .d (.bool _)) c (.rbl _) ⟨rfl, rfl⟩
theorem op_nes {K : PySem.W.Frag} {s t : Str} : Op K rNe (.d (.str s)) (.d (.str t)) G (Is (.d (.bool (!decide (s = t)))) G) := fun F B H v u Q c r1 r2 k => by
  cases r1
  cases r2
  refine ⟨rfl, ?_⟩
  rw [show decide (V.str s = V.str t) = decide (s = t) from decide_eq_decide.mpr ⟨V.str.inj, congrArg V.str⟩]
  exact k.ret (x := .d (.bool _)) c (.rbl _) ⟨rfl, rfl⟩
theorem op_eqi {K : PySem.W.Frag} {s t : Int} : Op K rEq (.d (.int s)) (.d (.int t)) G (Is (.d (.bool (decide (s = t)))) G) := fun F B H v u Q c r1 r2 k => by
  cases r1
  cases r2
  refine ⟨rfl, ?_⟩
  rw [show decide (V.int s = V.int t) = decide (s = t) from decide_eq_decide.mpr ⟨V.int.inj, congrArg V.int⟩]
  exact k.ret (x := .d (.bool _)) c (.rbl _) ⟨rfl, rfl⟩
theorem op_eqb {K : PySem.W.Frag} {s t : Bool} : Op K rEq (.d (.bool s)) (.d (.bool t)) G (Is (.d (.bool (decide (s = t)))) G) := fun F B H v u Q c r1 r2 k => by
  cases r1
  cases r2
  refine ⟨rfl, ?_⟩
  rw [show decide (V.bl s = V.bl t) = decide (s = t) from decide_eq_decide.mpr ⟨V.bl.inj, congrArg V.bl⟩]
  exact k.ret (x := .d (.bool _)) c (.rbl _) ⟨rfl, rfl⟩
def isNo : PyData → Bool
  | .none => true
  | _ => false
theorem op_isn {K : PySem.W.Frag} {d : PyData} : Op K (fun x y H Q => y = .non ∧ Q (.bl (decide (x = .non))) H) (.d d) (.d .none) G (Is (.d (.bool (isNo d))) G) := fun F B H v u Q c r1 r2 k => by
  cases r2
  refine ⟨rfl, ?_⟩
  cases r1 <;> exact k.ret (x := .d (.bool _)) c (.rbl _) ⟨rfl, rfl⟩
theorem op_notn {K : PySem.W.Frag} {d : PyData} : Op K (fun x y H Q => y = .non ∧ Q (.bl (!decide (x = .non))) H) (.d d) (.d .none) G (Is (.d (.bool (!isNo d))) G) := fun F B H v u Q c r1 r2 k => by
  cases r2
  refine ⟨rfl, ?_⟩
  cases r1 <;> exact k.ret (x := .d (.bool _)) c (.rbl _) ⟨rfl, rfl⟩
theorem op_eqdd {K : PySem.W.Frag} {d d2 : PyData} (h1 : SeqAt.shaped d = true) (h2 : SeqAt.shaped d2 = true) : Op K (rEqD K) (.d d) (.d d2) G (Is (.d (.bool (PyData.eqv d d2))) G) := fun F B H v u Q c r1 r2 k =>
  ⟨d, d2, (Rp.mono c.ex r1).dp (nd_of_shaped h1), (Rp.mono c.ex r2).dp (nd_of_shaped h2), h1, h2, k.ret (x := .d (.bool _)) c (.rbl _) ⟨rfl, rfl⟩⟩
theorem op_nedd {K : PySem.W.Frag} {d d2 : PyData} (h1 : SeqAt.shaped d = true) (h2 : SeqAt.shaped d2 = true) : Op K (rNeD K) (.d d) (.d d2) G (Is (.d (.bool (!PyData.eqv d d2))) G) := fun F B H v u Q c r1 r2 k =>
  ⟨d, d2, (Rp.mono c.ex r1).dp (nd_of_shaped h1), (Rp.mono c.ex r2).dp (nd_of_shaped h2), h1, h2, k.ret (x := .d (.bool _)) c (.rbl _) ⟨rfl, rfl⟩⟩

/-! and, or, not; a if t else b -/
theorem xw_one {op : BoolOp} {Φt : Bool → Store → Prop} (h : Xt X a ρ G Φt) : Xw X (.BoolOp op [a] pos) ρ G Φt := by
  cases op with
  | And => exact xw_of (pw_and1 pt_tw) h
  | Or => exact xw_of (pw_or1 pt_tw) h
theorem xw_and {Φa Φt : Bool → Store → Prop} (h1 : Xt X a ρ G Φa) (h2 : ∀ G1, Φa true G1 → Xw X (.BoolOp .And (b :: es) pos) ρ G1 Φt) (h3 : ∀ G1, Φa false G1 → Φt false G1) : Xw X (.BoolOp .And (a :: b :: es) pos) ρ G Φt := xw_of (pw_and pt_tw pw_tw) (rt_and h1 h2 h3)
theorem xw_or {Φa Φt : Bool → Store → Prop} (h1 : Xt X a ρ G Φa) (h2 : ∀ G1, Φa false G1 → Xw X (.BoolOp .Or (b :: es) pos) ρ G1 Φt) (h3 : ∀ G1, Φa true G1 → Φt true G1) : Xw X (.BoolOp .Or (a :: b :: es) pos) ρ G Φt := xw_of (pw_or pt_tw pw_tw) (rt_or h1 h2 h3)
theorem xt_w {Φt : Bool → Store → Prop} (h : Xw X e ρ G Φt) : Xt X e ρ G Φt := xt_of pw_tw.pt h
theorem xt_not {Φt : Bool → Store → Prop} (h : Xt X a ρ G fun t G2 => Φt (!t) G2) : Xt X (.UnaryOp .Not a pos) ρ G Φt := xt_of (pt_not pt_tw) (rt_not h)
theorem xp_one {op : BoolOp} (h : Xp X a ρ G Φ) : Xp X (.BoolOp op [a] pos) ρ G Φ := xp_of (pe_one pe_tw) h
theorem xp_and {Φa : Pst} (h1 : Xp X a ρ G fun y G2 => ∃ t, y = .d (.bool t) ∧ Φa y G2) (h2 : ∀ G1, Φa (.d (.bool true)) G1 → Xp X (.BoolOp .And (b :: es) pos) ρ G1 Φ) (h3 : ∀ G1, Φa (.d (.bool false)) G1 → Φ (.d (.bool false)) G1) : Xp X (.BoolOp .And (a :: b :: es) pos) ρ G Φ :=
  xp_of (pe_and pe_tw pe_tw) (r_andV h1 h2 h3)
theorem xp_if {Φc : Bool → Store → Prop} (hc : Xt X c ρ G Φc) (h1 : ∀ G1, Φc true G1 → Xp X a ρ G1 Φ) (h2 : ∀ G1, Φc false G1 → Xp X b ρ G1 Φ) : Xp X (.IfExp c a b pos) ρ G Φ := xp_of (pe_ifExp pt_tw pe_tw pe_tw) (r_if hc h1 h2)
theorem xp_ifD {t : Bool} (hc : Xb X c ρ t) (h1 : t = true → Xp X a ρ G Φ) (h2 : t = false → Xp X b ρ G Φ) : Xp X (.IfExp c a b pos) ρ G Φ :=
  xp_if (hc G) (fun G1 q => by rw [q.2]; exact h1 q.1.symm) fun G1 q => by rw [q.2]; exact h2 q.1.symm

/-! arguments, calls -/
theorem xa_nil : Xad X [] ρ [] := fun G => xa_of pa_nil ra_nil
theorem xa_cons {Φa : Pst} {Φr : DV → List DV → Store → Prop} {Φl : List DV → Store → Prop} (ha : Xp X e ρ G Φa) (hr : ∀ x G1, Φa x G1 → Xa X es ρ G1 (Φr x)) (h : ∀ x G1 xs G2, Φa x G1 → Φr x xs G2 → Φl (x :: xs) G2)
    (hs : starEach (e :: es) X.env = (false, eval e X.env) :: starEach es X.env := by rfl) : Xa X (e :: es) ρ G Φl := xa_of (pa_cons pe_tw pa_tw hs) (ra_cons ha hr h)
theorem xad_cons {x : DV} {xs : List DV} (ha : Xd X e ρ x) (hr : Xad X es ρ xs) (hs : starEach (e :: es) X.env = (false, eval e X.env) :: starEach es X.env := by rfl) : Xad X (e :: es) ρ (x :: xs) := fun G =>
  xa_cons (Φa := Is x G) (Φr := fun _ => IsA xs G) (ha G) (fun x' G1 h => by rw [h.2]; exact hr G) (fun x' G1 xs' G2 h1 h2 => ⟨by rw [h1.1, h2.1], h2.2⟩) hs
/-- the last one has a choice -/
theorem xa_last {Φa : Pst} {Φl : List DV → Store → Prop} (ha : Xp X e ρ G Φa) (h : ∀ x G2, Φa x G2 → Φl [x] G2) (hs : starEach [e] X.env = (false, eval e X.env) :: starEach [] X.env := by rfl) : Xa X [e] ρ G Φl :=
  xa_cons (Φr := fun x xs G2 => Φa x G2 ∧ xs = []) ha (fun x G1 q => (xa_nil G1).imp fun y G2 z => ⟨by rw [z.2]; exact q, z.1⟩) (fun x G1 xs G2 q1 q2 => by rw [q2.2]; exact h x G2 q2.1) hs
theorem xa_front {x : DV} {Φr : List DV → Store → Prop} {Φl : List DV → Store → Prop} (ha : Xd X e ρ x) (hr : Xa X es ρ G Φr) (h : ∀ xs G2, Φr xs G2 → Φl (x :: xs) G2) (hs : starEach (e :: es) X.env = (false, eval e X.env) :: starEach es X.env := by rfl) : Xa X (e :: es) ρ G Φl :=
  xa_cons (Φa := Is x G) (Φr := fun _ => Φr) (ha G) (fun x' G1 q => by rw [q.2]; exact hr) (fun x' G1 xs G2 q1 q2 => by rw [q1.1]; exact h xs G2 q2) hs
theorem x_callB {r : List V → Hp → VK → Prop} {id : String} {x : Str} {Φl : List DV → Store → Prop} (hc : CallR X (.builtin id) r) (hm : X.mg x = none) (hv : bootBuiltins x = some (.builtin id)) (ha : Xa X (e :: es) ρ G Φl) (hr : ∀ xs G1, Φl xs G1 → CallOp X.K r xs G1 Φ) (hg : Gl X x := by rfl) (hn : x ≠ "__name__" := by decide)
    (hdb : (x == ("__debug__" : Str)) = false := by decide) (he : starEach (e :: es) X.env = (false, eval e X.env) :: starEach es X.env := by rfl) (hpl : (backTo pos (starEach es X.env)).any (·.1) = false := by rfl) : Xp X (.Call (.Name x p) (e :: es) [] pos) ρ G Φ :=
  xp_of (pe_callB hc hg hm hv pa_tw hn hdb he hpl) (r_cb ha hr)
theorem x_callTy {r : List V → Hp → VK → Prop} {id : String} {x : Str} {Φl : List DV → Store → Prop} (hc : CallR X (.type id) r) (hm : X.mg x = none) (hv : bootBuiltins x = some (.type id)) (ha : Xa X (e :: es) ρ G Φl) (hr : ∀ xs G1, Φl xs G1 → CallOp X.K r xs G1 Φ) (hg : Gl X x := by rfl) (hn : x ≠ "__name__" := by decide)
    (hdb : (x == ("__debug__" : Str)) = false := by decide) (he : starEach (e :: es) X.env = (false, eval e X.env) :: starEach es X.env := by rfl) (hpl : (backTo pos (starEach es X.env)).any (·.1) = false := by rfl) : Xp X (.Call (.Name x p) (e :: es) [] pos) ρ G Φ :=
  xp_of (pe_callTy hc hg hm hv pa_tw hn hdb he hpl) (r_cb ha hr)
end
end Fsh

set_option Elab.async false
set_option linter.all false
set_option maxRecDepth 100000
namespace Fsh
open PySem PySem.Spec PyProof.Rows L2

/-! ### own rules of built-ins -/
set_option maxHeartbeats 4000000 in
theorem ext_tup (l : Addr) (items : Array Value) (n : Nat) (b : Addr) (items2 : Array Value) (n2 : Nat) (d : Option Addr) (sl : Array (Option Value)) (h0 : ¬(!items.isEmpty && Builtin.List.listTooLong (items.size + items2.size)) = true) (h1 : items.size ≤ sizeLine) (h2 : items.size + items2.size ≤ sizeLine + 1) :
    Meets (Builtin.«list.extend» ⟨[.ref l, .ref b], []⟩) (fun _ R s => s.heap.get? l = some { cls := .type "list", dict := none, data := .seq items n, slots := #[] } ∧ s.heap.get? b = some { cls := .type "tuple", dict := d, data := .seq items2 n2, slots := sl } ∧
      R (.ok (.ret Value.none)) { s with heap := s.heap.update l (Obj.mapSeq fun x => x ++ items2), toks := s.toks }) :=
  .of_wp fun prog w A R s h => by
    obtain ⟨hp, g, dd, tk, os⟩ := s
    obtain ⟨hl, hb, h⟩ := h
    have f1 := AutoSeq1.idx_int
    have f2 := AutoSeq1.sub_tuple_tuple
    have f3 := AutoSeq1.sub_list_list
    have f4 := AutoSeq1.sub_tuple_list
    have f5 := AutoSeq1.sub_list_tuple
    have hz' : (items ++ items2).size ≤ sizeLine + 1 := by
      rw [Array.size_append]
      exact h2
    wp_walk using (wpAny_updateSeq hl rfl (hz := h1) (_hz' := hz')), wpAny_loadPart' hl, wpAny_loadPart' hb
    exact ⟨_, rfl, h⟩
section
variable {X : Cx}
theorem cr_str : CallR X (.type "str") (fun xs H Q => (∃ a, xs = [.str a] ∧ Q (.str a) H) ∨ ∃ i, xs = [.int i] ∧ i.natAbs.log2 < 1920 ∧ Q (.str (toString i)) H) := by
  intro pins s σ H xs us Q I r h
  rcases h with ⟨a, e, q⟩ | ⟨i, e, hz, q⟩
  · subst e
    cases r with
    | cons r1 r2 =>
      cases r2
      obtain ⟨t, e⟩ := r1
      subst e
      exact PySem.P.str_of_str ⟨.str a, H, I, ⟨t, rfl⟩, q⟩
  · exact call_str_int pins s σ H xs us Q I r ⟨i, e, hz, q⟩
theorem cr_repr : CallR X (.builtin "repr") (fun xs H Q => ∃ a, xs = [.str a] ∧ (reprText a).length ≤ sizeLine ∧ Q (.str (reprText a)) H) := by
  intro pins s σ H xs us Q I r h
  obtain ⟨a, e, hz, q⟩ := h
  subst e
  cases r with
  | cons r1 r2 =>
    cases r2
    obtain ⟨t, e⟩ := r1
    subst e
    exact PySem.P.repr_of_str ⟨.str _, H, I.tok _, ⟨_, rfl⟩, q⟩ hz
/-- repr of data, where no other repr runs -/
theorem cr_reprD (hg : X.A.guards = some []) (hu : X.A.units + 200 < cLine) : CallR X (.builtin "repr") (fun xs H Q => ∃ a d, xs = [.ref a] ∧ Dp X.K H (.ref a) d ∧ d.showable = true ∧ d.hasDict = false ∧ d.depth ≤ 64 ∧ d.shown.length ≤ sizeLine ∧ Q (.str d.shown) H) := by
  intro pins s σ H xs us Q I r h
  obtain ⟨a, d, e, hd, h1, h2, h3, h4, q⟩ := h
  subst e
  cases r with
  | cons r1 r2 =>
    cases r2
    cases r1
    obtain ⟨as, hr⟩ := Dp.reads I d _ _ hd rfl
    exact PySem.repr_of_reads' hr h1 (fun z => by rw [h2] at z; cases z) hg (by omega) (fun _ _ z => z) (fun h' u tk k => ⟨.str d.shown, H, I.kept k, ⟨_, rfl⟩, q⟩) h4
/-- xs.extend(a tuple) -/
theorem mr_extend : MtR X "list.extend" (fun x vs H Q => ∃ l b xs zs, x = .ref l ∧ vs = [.ref b] ∧ H l = some (.lst xs) ∧ SqT X.K H b zs ∧ xs.length + zs.length ≤ sizeLine ∧ Q .non (upd H l (.lst (xs ++ zs)))) := by
  intro pins s σ H x vs v us Q I rx rv h
  obtain ⟨l, b, xs, zs, e1, e2, hH, hB, hz, q⟩ := h
  subst e1 e2
  cases rx
  obtain ⟨u, e3, ru⟩ := rv.one
  subst e3
  cases ru
  obtain ⟨z, its, n, r, hl, e⟩ := I.lstM hH
  obtain ⟨its2, r2, ⟨⟨oc, od, odt, osl⟩, ho, hc, n2, hd⟩, z2⟩ := I.tuple hB
  cases hc
  cases hd
  have hl2 := r2.length
  have hsz : its.toArray.size + its2.toArray.size ≤ sizeLine := by
    rw [List.size_toArray, List.size_toArray]
    omega
  have fitsB : ¬ (!its.toArray.isEmpty && Builtin.List.listTooLong (its.toArray.size + its2.toArray.size)) = true := by
    rw [notLongL hsz, Bool.and_false]
    exact Bool.false_ne_true
  refine call_meets F.slot_list_extend ⟨_, e, rfl⟩ F.entry_list_extend (F.args_list_extend_2 _ _) (ext_tup l its.toArray n b its2.toArray n2 od osl fitsB (by rw [List.size_toArray]; omega) (by omega)) ⟨e, ho, ?_⟩
  refine ⟨V.non, _, I.lset (its' := its ++ its2) hH e (by simp) (r.append r2) ?_, rfl, q⟩
  rw [List.length_append]
  omega
end
end Fsh

set_option Elab.async false
set_option linter.all false
set_option maxRecDepth 100000
namespace Fsh
open PySem PySem.Spec PyProof.Rows L2

/-! ### what the built-ins give, by data -/
section
variable {K : PySem.W.Frag} {G : Store} {Φ : Pst}
theorem Rvs.one {B : Hp} {vs : List V} {x : DV} (r : Rvs K B vs [x]) : ∃ v, vs = [v] ∧ Rv K B v x := by
  cases r with
  | cons a b =>
    cases b
    exact ⟨_, rfl, a⟩
theorem Rvs.two {B : Hp} {vs : List V} {x y : DV} (r : Rvs K B vs [x, y]) : ∃ v u, vs = [v, u] ∧ Rv K B v x ∧ Rv K B u y := by
  cases r with
  | cons a b =>
    cases b with
    | cons b c =>
      cases c
      exact ⟨_, _, rfl, a, b⟩
theorem co_lenL {ds : List PyData} (q : Φ (.d (.int ds.length)) G) : CallOp K (fun xs H Q => ∃ p ys, xs = [.ref p] ∧ (SqL K H p ys ∨ SqT K H p ys) ∧ Q (.int ys.length) H) [.d (.list ds)] G Φ := fun F B H vs Q c r k => by
  obtain ⟨v, e, h⟩ := r.one
  subst e
  cases h with
  | rlst p z =>
    refine ⟨_, _, rfl, .inl (Evl.ex_l c.ex p), ?_⟩
    rw [z.len]
    exact k.ret (x := .d (.int _)) c (.rint _) q
theorem co_lenT {ds : List PyData} (q : Φ (.d (.int ds.length)) G) : CallOp K (fun xs H Q => ∃ p ys, xs = [.ref p] ∧ (SqL K H p ys ∨ SqT K H p ys) ∧ Q (.int ys.length) H) [.d (.tuple ds)] G Φ := fun F B H vs Q c r k => by
  obtain ⟨v, e, h⟩ := r.one
  subst e
  cases h with
  | rtup p z pl =>
    refine ⟨_, _, rfl, .inr (Evl.ex_t c.ex p), ?_⟩
    rw [z.len]
    exact k.ret (x := .d (.int _)) c (.rint _) q
theorem co_lenC {l : Addr} {ds : List PyData} (hm : (l, Cell.lst ds) ∈ G) (q : Φ (.d (.int ds.length)) G) : CallOp K (fun xs H Q => ∃ p ys, xs = [.ref p] ∧ (SqL K H p ys ∨ SqT K H p ys) ∧ Q (.int ys.length) H) [.a l] G Φ := fun F B H vs Q c r k => by
  obtain ⟨v, e, h⟩ := r.one
  have h : v = .ref l := h
  subst e h
  obtain ⟨ws, h1, h2⟩ := c.ce _ hm
  refine ⟨_, _, rfl, .inl (.inl (.inl h1)), ?_⟩
  rw [h2.len]
  exact k.ret (x := .d (.int _)) c (.rint _) q
theorem co_int {i : Int} (q : Φ (.d (.int i)) G) : CallOp K (fun xs H Q => (∃ i, xs = [.int i] ∧ Q (.int i) H) ∨ ∃ k, xs = [.bl k] ∧ Q (.int (if k then 1 else 0)) H) [.d (.int i)] G Φ := fun F B H vs Q c r k => by
  obtain ⟨v, e, h⟩ := r.one
  subst e
  cases h
  exact .inl ⟨i, rfl, k.ret (x := .d (.int _)) c (.rint _) q⟩
theorem co_strI {i : Int} (hi : i.natAbs.log2 < 1920) (q : Φ (.d (.str (toString i : String))) G) : CallOp K (fun xs H Q => (∃ a, xs = [.str a] ∧ Q (.str a) H) ∨ ∃ i : Int, xs = [.int i] ∧ i.natAbs.log2 < 1920 ∧ Q (.str (toString i : String)) H) [.d (.int i)] G Φ := fun F B H vs Q c r k => by
  obtain ⟨v, e, h⟩ := r.one
  subst e
  cases h
  exact .inr ⟨i, rfl, hi, k.ret (x := .d (.str _)) c (.rstr _) q⟩
theorem co_strS {s : Str} (q : Φ (.d (.str s)) G) : CallOp K (fun xs H Q => (∃ a, xs = [.str a] ∧ Q (.str a) H) ∨ ∃ i : Int, xs = [.int i] ∧ i.natAbs.log2 < 1920 ∧ Q (.str (toString i : String)) H) [.d (.str s)] G Φ := fun F B H vs Q c r k => by
  obtain ⟨v, e, h⟩ := r.one
  subst e
  cases h
  exact .inl ⟨s, rfl, k.ret (x := .d (.str _)) c (.rstr _) q⟩
theorem co_min {i j : Int} (q : Φ (.d (.int (if j < i then j else i))) G) : CallOp K (fun xs H Q => ∃ i j, xs = [.int i, .int j] ∧ Q (.int (if j < i then j else i)) H) [.d (.int i), .d (.int j)] G Φ := fun F B H vs Q c r k => by
  obtain ⟨v, u, e, h1, h2⟩ := r.two
  subst e
  cases h1
  cases h2
  exact ⟨i, j, rfl, k.ret (x := .d (.int _)) c (.rint _) q⟩
theorem co_sum {ns : List Int} (q : Φ (.d (.int ns.sum)) G) : CallOp K (rSum K) [.d (.list (ns.map PyData.int))] G Φ := fun F B H vs Q c r k => by
  obtain ⟨v, e, h⟩ := r.one
  subst e
  cases h with
  | rlst p z =>
    have e2 := z.ints
    subst e2
    exact ⟨_, ns, rfl, Evl.ex_l c.ex p, k.ret (x := .d (.int _)) c (.rint _) q⟩
theorem co_listL {ds : List PyData} : CallOp K (fun xs H Q => ∃ p ys, xs = [.ref p] ∧ (SqL K H p ys ∨ SqT K H p ys) ∧ ∀ l, H l = none → Q (.ref l) (upd H l (.lst ys))) [.d (.list ds)] G (New ds G) := fun F B H vs Q c r k => by
  obtain ⟨v, e, h⟩ := r.one
  subst e
  cases h with
  | rlst p z => exact ⟨_, _, rfl, .inl (Evl.ex_l c.ex p), fun l hl => k _ (.a l) _ B _ (Evl.Ex.refl B) (c.cell (x := .lst ds) hl ⟨_, upd_same, z⟩) rfl ⟨l, rfl, rfl⟩⟩
theorem co_listT {ds : List PyData} : CallOp K (fun xs H Q => ∃ p ys, xs = [.ref p] ∧ (SqL K H p ys ∨ SqT K H p ys) ∧ ∀ l, H l = none → Q (.ref l) (upd H l (.lst ys))) [.d (.tuple ds)] G (New ds G) := fun F B H vs Q c r k => by
  obtain ⟨v, e, h⟩ := r.one
  subst e
  cases h with
  | rtup p z pl => exact ⟨_, _, rfl, .inr (Evl.ex_t c.ex p), fun l hl => k _ (.a l) _ B _ (Evl.Ex.refl B) (c.cell (x := .lst ds) hl ⟨_, upd_same, z⟩) rfl ⟨l, rfl, rfl⟩⟩
/-- a new tuple -/
theorem Kp.tup {F B H : Hp} {Q : VK} {vs : List V} {ds : List PyData} {l : Addr} (k : Kp K F B Φ Q) (c : Cfg K F G B H) (hl : H l = none) (z : Rps K B vs ds) {o : Obj} (ho : o.dict = none) (q : Φ (.d (.tuple ds)) G) : Q (.ref l) (upd H l (.frz o (.tup vs))) := by
  have e := ex_new (B := B) (Ex.free c.ex hl) (.frz o (.tup vs))
  exact k (.ref l) (.d (.tuple ds)) G _ _ e (c.new hl _) (.rtup (.inl (.inr ⟨o, upd_same⟩)) (z.mono e) fun _ => .inl ⟨o, vs, upd_same, ho⟩) q
theorem co_tupL {ds : List PyData} (q : Φ (.d (.tuple ds)) G) : CallOp K (rTupP K) [.d (.list ds)] G Φ := fun F B H vs Q c r k => by
  obtain ⟨v, e, h⟩ := r.one
  subst e
  cases h with
  | rlst p z => exact ⟨_, _, rfl, .inl ⟨Evl.ex_l c.ex p, fun l o hl ho => k.tup c hl z ho q⟩⟩
theorem co_tupC {l : Addr} {ds : List PyData} (hm : (l, Cell.lst ds) ∈ G) (q : Φ (.d (.tuple ds)) G) : CallOp K (rTupP K) [.a l] G Φ := fun F B H vs Q c r k => by
  obtain ⟨v, e, h⟩ := r.one
  have h : v = .ref l := h
  subst e h
  obtain ⟨ws, h1, h2⟩ := c.ce _ hm
  exact ⟨_, _, rfl, .inl ⟨.inl (.inl h1), fun l o hl ho => k.tup c hl h2 ho q⟩⟩
theorem co_repr {s : Str} (hz : (reprText s).length ≤ sizeLine) (q : Φ (.d (.str (reprText s))) G) : CallOp K (fun xs H Q => ∃ a, xs = [.str a] ∧ (reprText a).length ≤ sizeLine ∧ Q (.str (reprText a)) H) [.d (.str s)] G Φ := fun F B H vs Q c r k => by
  obtain ⟨v, e, h⟩ := r.one
  subst e
  cases h
  exact ⟨s, rfl, hz, k.ret (x := .d (.str _)) c (.rstr _) q⟩
theorem co_reprD {d : PyData} (h0 : ∃ ds, d = .tuple ds ∨ d = .list ds) (h1 : d.showable = true) (h2 : d.hasDict = false) (h3 : d.depth ≤ 64) (h4 : d.shown.length ≤ sizeLine) (q : Φ (.d (.str d.shown)) G) :
    CallOp K (fun xs H Q => ∃ a d, xs = [.ref a] ∧ Dp K H (.ref a) d ∧ d.showable = true ∧ d.hasDict = false ∧ d.depth ≤ 64 ∧ d.shown.length ≤ sizeLine ∧ Q (.str d.shown) H) [.d d] G Φ := fun F B H vs Q c r k => by
  obtain ⟨v, e, h⟩ := r.one
  subst e
  have hd : Dp K H v d := (Rp.mono c.ex h).dp h2
  obtain ⟨ds, e | e⟩ := h0
  · subst e
    cases h with
    | rtup p z pl => exact ⟨_, _, rfl, hd, h1, h2, h3, h4, k.ret (x := .d (.str _)) c (.rstr _) q⟩
  · subst e
    cases h with
    | rlst p z => exact ⟨_, _, rfl, hd, h1, h2, h3, h4, k.ret (x := .d (.str _)) c (.rstr _) q⟩

/-! items, slices -/
theorem at_rps {B : Hp} {vs : List V} {ds : List PyData} {i : Int} {d : PyData} (r : Rps K B vs ds) (h : atI ds i = some d) : ∃ v, atI vs i = some v ∧ Rp K B v d := by
  unfold atI at h ⊢
  rw [r.len]
  cases z : ixN ds.length i with
  | none =>
    rw [z] at h
    cases h
  | some j =>
    rw [z] at h
    exact r.at h
theorem op_ixT {ds : List PyData} {i : Int} {d : PyData} (h : atI ds i = some d) (q : Φ (.d d) G) : Op K (rIxT K) (.d (.tuple ds)) (.d (.int i)) G Φ := fun F B H v u Q c r1 r2 k => by
  cases r2
  cases r1 with
  | rtup p z pl =>
    obtain ⟨w, h1, h2⟩ := at_rps z h
    exact ⟨_, _, i, w, rfl, rfl, Evl.ex_t c.ex p, h1, k.ret (x := .d d) c h2 q⟩
theorem op_ixL {ds : List PyData} {i : Int} {d : PyData} (h : atI ds i = some d) (q : Φ (.d d) G) : Op K (rIxL K) (.d (.list ds)) (.d (.int i)) G Φ := fun F B H v u Q c r1 r2 k => by
  cases r2
  cases r1 with
  | rlst p z =>
    obtain ⟨w, h1, h2⟩ := at_rps z h
    exact ⟨_, _, i, w, rfl, rfl, Evl.ex_l c.ex p, h1, k.ret (x := .d d) c h2 q⟩
theorem op_ixC {l : Addr} {ds : List PyData} {i : Int} {d : PyData} (hm : (l, Cell.lst ds) ∈ G) (h : atI ds i = some d) (q : Φ (.d d) G) : Op K (rIxL K) (.a l) (.d (.int i)) G Φ := fun F B H v u Q c r1 r2 k => by
  cases r2
  have r1 : v = .ref l := r1
  subst r1
  obtain ⟨ws, h1, h2⟩ := c.ce _ hm
  obtain ⟨w, h3, h4⟩ := at_rps h2 h
  exact ⟨_, _, i, w, rfl, rfl, .inl (.inl h1), h3, k.ret (x := .d d) c h4 q⟩
def RO (K : PySem.W.Frag) (t : TO) (ρ : Env) (o : Option Int) : Prop := ∀ F σ B G H (Q : Option Int → Hp → Prop), Cfg K F G B H → Slots K B σ ρ → (∀ B2 H2, Ex B B2 → Cfg K F G B2 H2 → Q o H2) → t σ H Q
theorem ro_none {ρ : Env} : RO K tNoPart ρ none := fun F σ B G H Q c s k => k B H (Evl.Ex.refl B) c
theorem ro_some {ρ : Env} {t : TE} {i : Int} (h : ∀ G, R K t ρ G (Is (.d (.int i)) G)) : RO K (tPart t) ρ (some i) := fun F σ B G H Q c s k =>
  h G F σ B H _ c s fun v x G2 B2 H2 e c2 r q => by
    rw [q.1] at r
    rw [q.2] at c2
    cases r
    exact ⟨i, rfl, k B2 H2 e c2⟩
def cutD (ds : List PyData) (lo hi : Option Int) : List PyData := (ds.drop (HT.sIx ds.length 0 lo)).take (HT.sIx ds.length ds.length hi - HT.sIx ds.length 0 lo)
theorem cut_rps {B : Hp} {vs : List V} {ds : List PyData} (r : Rps K B vs ds) (lo hi : Option Int) : Rps K B (cutV vs lo hi) (cutD ds lo hi) := by
  unfold cutV cutD
  rw [r.len]
  exact (r.drop _).take _
theorem r_slL {ρ : Env} {te : TE} {tl th : TO} {lo hi : Option Int} {ds : List PyData} (h : R K te ρ G (Is (.d (.list ds)) G)) (h1 : RO K tl ρ lo) (h2 : RO K th ρ hi) : R K (L2.tSl (rSlL K) te tl th) ρ G (New (cutD ds lo hi) G) := fun F σ B H Q c s k =>
  h F σ B H _ c s fun v x G2 B2 H2 e c2 r q => by
    rw [q.1] at r
    rw [q.2] at c2
    refine h1 F σ B2 G H2 _ c2 (s.mono e) fun B3 H3 e3 c3 => ?_
    refine h2 F σ B3 G H3 _ c3 (s.mono (e.trans e3)) fun B4 H4 e4 c4 => ?_
    cases r with
    | rlst p z =>
      refine ⟨_, _, rfl, Evl.ex_l ((e3.trans e4).trans c4.ex) p, fun l hl => ?_⟩
      exact k _ (.a l) _ B4 _ ((e.trans e3).trans e4) (c4.cell (x := .lst (cutD ds lo hi)) hl ⟨_, upd_same, (cut_rps z lo hi).mono (e3.trans e4)⟩) rfl ⟨l, rfl, rfl⟩
theorem r_slT {ρ : Env} {te : TE} {tl th : TO} {lo hi : Option Int} {ds : List PyData} (h : R K te ρ G (Is (.d (.tuple ds)) G)) (h1 : RO K tl ρ lo) (h2 : RO K th ρ hi) : R K (L2.tSl (rSlP K) te tl th) ρ G (Is (.d (.tuple (cutD ds lo hi))) G) := fun F σ B H Q c s k =>
  h F σ B H _ c s fun v x G2 B2 H2 e c2 r q => by
    rw [q.1] at r
    rw [q.2] at c2
    refine h1 F σ B2 G H2 _ c2 (s.mono e) fun B3 H3 e3 c3 => ?_
    refine h2 F σ B3 G H3 _ c3 (s.mono (e.trans e3)) fun B4 H4 e4 c4 => ?_
    cases r with
    | rtup p z pl =>
      have k4 := k.mono ((e.trans e3).trans e4)
      have p4 := Evl.ex_t (e3.trans e4) p
      have z4 := z.mono (e3.trans e4)
      refine ⟨_, _, rfl, Evl.ex_t c4.ex p4, fun w => ?_, fun w l o hl ho => k4.tup c4 hl (cut_rps z4 lo hi) ho ⟨rfl, rfl⟩⟩
      refine k4.ret (x := .d (.tuple ds)) c4 (.rtup p4 z4 fun y => (pl y).mono (e3.trans e4)) ⟨?_, rfl⟩
      unfold cutD
      rw [z.len] at w
      rw [w.1, w.2, List.drop_zero, Nat.sub_zero, List.take_length]
/-! xs[i::2] -/
def pick2 {α : Type} (xs : List α) (i : Int) : List α := (sliceRange (sliceBounds (some i) none (some 2) xs.length).1 (sliceBounds (some i) none (some 2) xs.length).2.1 (sliceBounds (some i) none (some 2) xs.length).2.2).filterMap (xs[·]?)
theorem pick2_mem {α : Type} {xs : List α} {i : Int} {x : α} (h : x ∈ pick2 xs i) : x ∈ xs := by
  obtain ⟨j, _, hj⟩ := List.mem_filterMap.mp h
  exact List.mem_of_getElem? hj
theorem fm_rps {B : Hp} {vs : List V} {ds : List PyData} (r : Rps K B vs ds) : ∀ js : List Nat, Rps K B (js.filterMap (vs[·]?)) (js.filterMap (ds[·]?))
  | [] => .nil
  | j :: js => by
    rw [List.filterMap_cons, List.filterMap_cons]
    cases z : ds[j]? with
    | none =>
      have : vs[j]? = none := by
        rw [List.getElem?_eq_none_iff] at z ⊢
        rw [r.len]
        exact z
      rw [this]
      exact fm_rps r js
    | some d =>
      obtain ⟨v, h1, h2⟩ := r.at z
      rw [h1]
      exact .cons h2 (fm_rps r js)
theorem pick2_rps {B : Hp} {vs : List V} {ds : List PyData} (r : Rps K B vs ds) (i : Int) : Rps K B (pick2 vs i) (pick2 ds i) := by
  unfold pick2
  rw [r.len]
  exact fm_rps r _
theorem vals_fm {vs : List V} {us : List Value} (r : Vals vs us) : ∀ js : List Nat, Vals (js.filterMap (vs[·]?)) (js.filterMap (us[·]?))
  | [] => .nil
  | j :: js => by
    rw [List.filterMap_cons, List.filterMap_cons]
    cases z : vs[j]? with
    | none =>
      have : us[j]? = none := r.none_of z
      rw [this]
      exact vals_fm r js
    | some v =>
      obtain ⟨u, h1, h2⟩ := r.get z
      rw [h1]
      exact .cons h2 (vals_fm r js)
def tPick (K : PySem.W.Frag) (te tl : TE) : TE := fun σ H Q => te σ H fun x H1 => tl σ H1 fun y H2 => ∃ a xs i, x = .ref a ∧ y = .int i ∧ SqL K H2 a xs ∧ ∀ p, H2 p = none → Q (.ref p) (upd H2 p (.lst (pick2 xs i)))
theorem pe_pick {X : Cx} {e lo : Expr} {te tl : TE} {k : Nat} {p1 p3 pos : Pos} (he : PE X e te) (hl : PE X lo tl) : PE X (.Subscript e (.Slice (some lo) none (some (.Constant (.int 2) k p1)) p3) pos) (tPick X.K te tl) := by
  refine ⟨fun pins s σ H Q I h => ?_⟩
  refine Subscript_ (thn (he.run pins s σ H _ I h) fun v s1 ⟨x, H1, I1, r1, q1⟩ => ?_)
  refine wpAny_Slice ?_
  rw [evalPart_some]
  refine thn (hl.run pins s1 σ H1 _ I1 q1) fun u s2 ⟨y, H2, I2, r2, a, xs, i, ex, ey, hx, q⟩ => ?_
  subst ex ey
  obtain ⟨t, eu⟩ := r2
  subst eu
  cases r1
  rw [evalPart_none]
  refine wpAny_pure ?_
  have hst : PO X (some (.Constant (.int 2) k p1)) (tPart (tC (.int 2))) := po_some pe_int
  refine thn (hst.run pins s2 σ H2 (fun o H4 => o = some 2 ∧ H4 = H2) I2 ⟨2, rfl, rfl, rfl⟩) fun vs s4 ⟨o, H4, I4, ps, eo, e4⟩ => ?_
  subst eo e4
  have I5 : Inv X pins σ H4 { s4 with heap := s4.heap.push { cls := .type "slice", data := .fields #[.int i t, .none, vs] } } := I4.kept (t' := s4.toks) fun b ob z => Heap.get?_push_of_some _ z
  obtain ⟨its, r, ht, hz⟩ := I5.list hx
  have hlen := r.length
  show wpAny (model X.prog X.w) X.A (subscriptTail e (.Slice (some lo) none (some (.Constant (.int 2) k p1)) p3) (.ref a) (.ref s4.heap.objs.size)) (EP X pins σ Q) X.xe _
  refine tail_any (ops := [.ref a, .ref s4.heap.objs.size]) ht.isList.typeIs PySem.slot_list_getitem.lookup ?_ (by with_unfolding_all rfl)
  refine wpAny_getItem_list_slice ht.isList (Heap.IsSliceOf.new _ _ _ vs) (.int i t) .none ps (by decide) ?_ (by rw [List.size_toArray]; omega)
  have e : slicePick its.toArray (some i) none (some 2) = (pick2 its i).toArray := by
    unfold slicePick pick2
    rw [List.size_toArray]
    congr 1
    apply congrFun
    apply congrArg
    funext j
    exact List.getElem?_toArray
  rw [e]
  have hp : (pick2 xs i).length ≤ sizeLine := by
    have h1 : (pick2 xs i).length = (pick2 its i).length := by
      unfold pick2
      rw [hlen]
      exact (vals_fm r _).length
    have h2 := slicePick_size_le its.toArray (some i) none (some 2)
    rw [e, List.size_toArray, List.size_toArray] at h2
    omega
  refine ⟨.ref _, _, I5.laid (t' := s4.toks) (o := .lst (pick2 xs i)) (fun b ob z => Heap.get?_push_of_some _ z) (Nat.le_refl _) ?_, rfl, q _ (I5.hok.fresh (Nat.le_refl _))⟩
  refine ⟨hp, pick2 its i, 0, ?_, Heap.get?_push_size _ rfl⟩
  unfold pick2
  rw [hlen]
  exact vals_fm r _
theorem r_pick {ρ : Env} {te tl : TE} {ds : List PyData} {Φl : Pst} (h : R K te ρ G (Is (.d (.list ds)) G)) (hl : R K tl ρ G Φl) (hq : ∀ y G2, Φl y G2 → ∃ i, y = .d (.int i) ∧ ∀ l, Φ (.a l) ((l, .lst (pick2 ds i)) :: G2)) : R K (tPick K te tl) ρ G Φ := fun F σ B H Q c s k =>
  h F σ B H _ c s fun v x G2 B2 H2 e c2 r q => by
    rw [q.1] at r
    rw [q.2] at c2
    refine hl F σ B2 H2 _ c2 (s.mono e) fun u y G3 B3 H3 e3 c3 r3 q3 => ?_
    obtain ⟨i, ey, q4⟩ := hq y G3 q3
    subst ey
    cases r3
    cases r with
    | rlst p z => exact ⟨_, _, i, rfl, rfl, Evl.ex_l (e3.trans c3.ex) p, fun l hl => k _ (.a l) _ B3 _ (e.trans e3) (c3.cell (x := .lst (pick2 ds i)) hl ⟨_, upd_same, (pick2_rps z i).mono e3⟩) rfl (q4 l)⟩
end
end Fsh

set_option Elab.async false
set_option linter.all false
set_option maxRecDepth 100000
namespace Fsh
open PySem PySem.Spec PyProof.Rows L2

section
variable {X : Cx} {e a b c o : Expr} {es : List Expr} {ρ : Env} {G : Store} {Φ : Pst} {pos p p2 apos : Pos}
/-! ### displays -/
theorem xp_lst {Φl : List DV → Store → Prop} (h : Xa X es ρ G Φl) (hq : ∀ xs G2, Φl xs G2 → ∃ ds, xs = ds.map DV.d ∧ ds.length ≤ 100000 ∧ ∀ l, Φ (.a l) ((l, .lst ds) :: G2)) : Xp X (.List es pos) ρ G Φ := xp_of (pe_lst pa_tw) fun F σ B H Q c s k =>
  h F σ B H _ c s fun vs xs G2 B2 H2 e2 c2 r q => by
    obtain ⟨ds, e3, hz, q2⟩ := hq xs G2 q
    subst e3
    have r' := r.data
    refine ⟨by rw [r'.len]; exact Evl.sz_of hz, fun l hl => ?_⟩
    exact k _ (.a l) _ B2 _ e2 (c2.cell (x := .lst ds) hl ⟨_, upd_same, r'⟩) rfl (q2 l)
theorem xl_lst {ds : List PyData} (h : Xad X es ρ (ds.map DV.d)) (hz : ds.length ≤ 100000 := by decide) : Xl X (.List es pos) ρ ds := fun G => xp_lst (h G) fun xs G2 q => ⟨ds, q.1, hz, fun l => ⟨l, rfl, by rw [q.2]⟩⟩
theorem xp_tup {x1 : Nat} {Φl : List DV → Store → Prop} (h : Xa X es ρ G Φl) (hq : ∀ xs G2, Φl xs G2 → ∃ ds, xs = ds.map DV.d ∧ ds.length ≤ 100000 ∧ Φ (.d (.tuple ds)) G2) : Xp X (.Tuple es x1 pos) ρ G Φ := xp_of (pe_tupP pa_tw) fun F σ B H Q c s k =>
  h F σ B H _ c s fun vs xs G2 B2 H2 e2 c2 r q => by
    obtain ⟨ds, e3, hz, q2⟩ := hq xs G2 q
    subst e3
    have r' := r.data
    refine ⟨by rw [r'.len]; exact Evl.sz_of hz, fun l o hl ho => ?_⟩
    exact (k.mono e2).tup c2 hl r' ho q2
theorem xd_tup {x1 : Nat} {ds : List PyData} (h : Xad X es ρ (ds.map DV.d)) (hz : ds.length ≤ 100000 := by decide) : Xd X (.Tuple es x1 pos) ρ (.d (.tuple ds)) := fun G => xp_tup (h G) fun xs G2 q => ⟨ds, q.1, hz, rfl, q.2⟩
theorem nodup_look : True := trivial
/-! dicts with text keys -/
def look (kvs : List (Key × DV)) (k : Key) : Option DV := (kvs.find? fun kv => decide (kv.1 = k)).map (·.2)
def putD (kvs : List (Key × DV)) (k : Key) (v : DV) : List (Key × DV) :=
  if (kvs.any fun e => decide (e.1 = k)) = true then kvs.map (fun e => if e.1 = k then (e.1, v) else e) else kvs ++ [(k, v)]
variable {K : PySem.W.Frag}
theorem Kvs.len {B : Hp} : ∀ {ws : List (Key × V)} {kvs : List (Key × DV)}, Kvs K B ws kvs → ws.length = kvs.length
  | _, _, .nil => rfl
  | _, _, .cons _ q => congrArg Nat.succ q.len
theorem Kvs.look {B : Hp} {k : Key} : ∀ {ws : List (Key × V)} {kvs : List (Key × DV)}, Kvs K B ws kvs → ∀ {x : DV}, look kvs k = some x → ∃ v, valV ws k = some v ∧ Rv K B v x
  | _, _, .nil, _, h => by cases h
  | _, _, .cons (k := j) (v := v) (x := y) h q, x, e => by
    unfold Fsh.look at e
    rw [List.find?_cons] at e
    by_cases z : j = k
    · rw [show (decide (j = k)) = true from decide_eq_true z] at e
      cases e
      exact ⟨v, valV_pos z, h⟩
    · rw [show (decide (j = k)) = false from decide_eq_false z] at e
      obtain ⟨w, h1, h2⟩ := q.look (x := x) e
      exact ⟨w, by rw [valV_neg z]; exact h1, h2⟩
theorem Kvs.miss {B : Hp} {k : Key} : ∀ {ws : List (Key × V)} {kvs : List (Key × DV)}, Kvs K B ws kvs → Fsh.look kvs k = none → valV ws k = none
  | _, _, .nil, _ => rfl
  | _, _, .cons (k := j) (v := v) (x := y) h q, e => by
    unfold Fsh.look at e
    rw [List.find?_cons] at e
    by_cases z : j = k
    · rw [show (decide (j = k)) = true from decide_eq_true z] at e
      cases e
    · rw [show (decide (j = k)) = false from decide_eq_false z] at e
      rw [valV_neg z]
      exact q.miss e
theorem Kvs.app {B : Hp} : ∀ {ws : List (Key × V)} {kvs : List (Key × DV)} {k : Key} {v : V} {x : DV}, Kvs K B ws kvs → Rv K B v x → Kvs K B (ws ++ [(k, v)]) (kvs ++ [(k, x)])
  | _, _, _, _, _, .nil, r => .cons r .nil
  | _, _, _, _, _, .cons h q, r => .cons h (q.app r)
theorem Kvs.any {B : Hp} {k : Key} : ∀ {ws : List (Key × V)} {kvs : List (Key × DV)}, Kvs K B ws kvs → (ws.any fun kv => decide (kv.1 = k)) = (kvs.any fun kv => decide (kv.1 = k))
  | _, _, .nil => rfl
  | _, _, .cons h q => by rw [List.any_cons, List.any_cons, q.any]
theorem Kvs.repl {B : Hp} {k : Key} {v : V} {x : DV} (r : Rv K B v x) : ∀ {ws : List (Key × V)} {kvs : List (Key × DV)}, Kvs K B ws kvs → Kvs K B (ws.map fun kv => if kv.1 = k then (kv.1, v) else kv) (kvs.map fun kv => if kv.1 = k then (kv.1, x) else kv)
  | _, _, .nil => .nil
  | _, _, .cons (k := j) h q => by
    rw [List.map_cons, List.map_cons]
    by_cases z : j = k
    · rw [if_pos z, if_pos z]
      exact .cons r (q.repl r)
    · rw [if_neg z, if_neg z]
      exact .cons h (q.repl r)
theorem Kvs.put {B : Hp} {k : Key} {v : V} {x : DV} {ws : List (Key × V)} {kvs : List (Key × DV)} (q : Kvs K B ws kvs) (r : Rv K B v x) : Kvs K B (putK ws k v) (putD kvs k x) := by
  unfold putK putD
  rw [q.any]
  split
  · exact q.repl r
  · exact q.app r
theorem kv_of {B : Hp} {k : Key} {v : V} {x : DV} (e : x = match k with | .inl i => .d (.int i) | .inr s => .d (.str s)) (r : Rv K B v x) : v = kV k := by
  subst e
  cases k with
  | inl i =>
    cases r
    rfl
  | inr s =>
    cases r
    rfl
def keyD : Key → DV
  | .inl i => .d (.int i)
  | .inr s => .d (.str s)
theorem keyD_v {B : Hp} {k : Key} {v : V} (r : Rv K B v (keyD k)) : v = kV k := by
  cases k with
  | inl i =>
    cases r
    rfl
  | inr s =>
    cases r
    rfl
theorem xp_dget {l : Addr} {kvs : List (Key × DV)} {k : Key} {x : DV} (hu : X.A.units + 1 < cLine) (ho : Xd X o ρ (.a l)) (hi : Xd X e ρ (keyD k)) (hm : (l, Cell.dct kvs) ∈ G) (hk : look kvs k = some x) (q : Φ x G) (hs : NoSl e := by exact fun _ _ => rfl) : Xp X (.Subscript o e pos) ρ G Φ :=
  xp_of (pe_dget hu pe_tw pe_tw hs) fun F σ B H Q c s kk => ho G F σ B H _ c s fun v y G2 B2 H2 e2 c2 r2 q2 => hi G2 F σ B2 H2 _ c2 (s.mono e2) fun u z G3 B3 H3 e3 c3 r3 q3 => by
    rw [q2.1] at r2
    rw [q3.1] at r3
    rw [q3.2, q2.2] at c3
    have r2 : v = .ref l := r2
    subst r2
    have ev := keyD_v r3
    subst ev
    obtain ⟨ws, h1, h2⟩ := c3.ce _ hm
    obtain ⟨w, h4, h5⟩ := h2.look hk
    exact ⟨l, w, rfl, by rw [← h4]; exact DGet.k h1, kk w x G B3 H3 (e2.trans e3) c3 h5 q⟩
theorem xp_dget2 {l : Addr} {kvs : List (Key × DV)} {k : Key} {y : DV} (hu : X.A.units + 1 < cLine) (ho : Xd X o ρ (.a l)) (hi : Xd X e ρ (keyD k)) (hf : Xd X b ρ y) (hm : (l, Cell.dct kvs) ∈ G) (q : Φ ((look kvs k).getD y) G) (m : M2 X o "get" apos e b pos := by exact ⟨rfl, rfl, rfl, rfl⟩) : Xp X (.Call (.Attribute o "get" apos) [e, b] [] pos) ρ G Φ :=
  xp_of (pe_dget2 hu pe_tw pe_tw pe_tw m) fun F σ B H Q c s kk => ho G F σ B H _ c s fun v y2 G2 B2 H2 e2 c2 r2 q2 => by
    rw [q2.1] at r2
    rw [q2.2] at c2
    have r2 : v = .ref l := r2
    subst r2
    obtain ⟨ws0, h0, _⟩ := c2.ce _ hm
    refine ⟨l, rfl, .inl ⟨ws0, .inl h0⟩, hi G F σ B2 H2 _ c2 (s.mono e2) fun u z G3 B3 H3 e3 c3 r3 q3 => hf G3 F σ B3 H3 _ c3 (s.mono (e2.trans e3)) fun u4 z4 G4 B4 H4 e4 c4 r4 q4 => ?_⟩
    rw [q3.1] at r3
    rw [q4.1] at r4
    rw [q4.2, q3.2] at c4
    have ev := keyD_v r3
    subst ev
    obtain ⟨ws, h1, h2⟩ := c4.ce _ hm
    refine ⟨valV ws k, DGet.k h1, ?_⟩
    cases hk : look kvs k with
    | none =>
      rw [h2.miss hk]
      rw [hk] at q
      exact kk u4 y G B4 H4 ((e2.trans e3).trans e4) c4 r4 q
    | some x =>
      obtain ⟨w, h4, h5⟩ := h2.look hk
      rw [h4]
      rw [hk] at q
      exact kk w x G B4 H4 ((e2.trans e3).trans e4) c4 h5 q
theorem xs_dput {l : Addr} {k : Key} {N : Env → Store → Prop} {pos' : Pos} {Φv : Pst} (hu : X.A.units + 1 < cLine) (hv : Xp X a ρ G Φv) (ho : Xd X o ρ (.a l)) (hi : Xd X e ρ (keyD k))
    (hq : ∀ x G2, Φv x G2 → ∃ G3 kvs G4, G2 = G3 ++ (l, .dct kvs) :: G4 ∧ kvs.length ≤ 100000 ∧ N ρ (G3 ++ (l, .dct (putD kvs k x)) :: G4)) (hs : swapsWith a (some (.Subscript o e pos')) pos.line X.env = pure false := by rfl) : Xs X (.Assign [.Subscript o e pos'] a pos) ρ G N Φ :=
  xs_of (ps_dput hu pe_tw pe_tw pe_tw hs) fun F σ B H D c s n kk => hv F σ B H _ c s fun v x G2 B2 H2 e2 c2 r2 q2 => ho G2 F σ B2 H2 _ c2 (s.mono e2) fun w y G3 B3 H3 e3 c3 r3 q3 => hi G3 F σ B3 H3 _ c3 (s.mono (e2.trans e3)) fun u z G4 B4 H4 e4 c4 r4 q4 => by
    rw [q3.1] at r3
    rw [q4.1] at r4
    rw [q4.2, q3.2] at c4
    have r3 : w = .ref l := r3
    subst r3
    have ev := keyD_v r4
    subst ev
    obtain ⟨G5, kvs, G6, eG, hz, p⟩ := hq x G2 q2
    subst eG
    obtain ⟨ws, h1, h2⟩ := c4.ce (l, .dct kvs) (List.mem_append_right _ List.mem_cons_self)
    refine ⟨l, _, rfl, DPut.k h1 (by rw [h2.len]; exact Nat.lt_of_le_of_lt hz (by decide)), ?_⟩
    refine n ρ σ _ B4 _ ((e2.trans e3).trans e4) (c4.set (x' := .dct (putD kvs k x)) ⟨_, upd_same, h2.put (r2.mono (e3.trans e4))⟩) (s.mono ((e2.trans e3).trans e4)) p
/-! ### items, slices -/
theorem xd_ixT {ds : List PyData} {i : Int} {d : PyData} (ha : Xd X a ρ (.d (.tuple ds))) (hb : Xd X b ρ (.d (.int i))) (h : atI ds i = some d) (hs : PlainIx b := by exact fun _ _ => rfl) : Xd X (.Subscript a b pos) ρ (.d d) := fun G => xp_of (pe_ix ix_tup pe_tw pe_tw hs) (r_opD (ha G) (hb G) (op_ixT h ⟨rfl, rfl⟩))
theorem xd_ixL {ds : List PyData} {i : Int} {d : PyData} (ha : Xd X a ρ (.d (.list ds))) (hb : Xd X b ρ (.d (.int i))) (h : atI ds i = some d) (hs : PlainIx b := by exact fun _ _ => rfl) : Xd X (.Subscript a b pos) ρ (.d d) := fun G => xp_of (pe_ix ix_list pe_tw pe_tw hs) (r_opD (ha G) (hb G) (op_ixL h ⟨rfl, rfl⟩))
theorem xp_ixL {ds : List PyData} {Φb : Pst} (ha : Xd X a ρ (.d (.list ds))) (hb : Xp X b ρ G Φb) (h : ∀ y G2, Φb y G2 → ∃ i d, y = .d (.int i) ∧ atI ds i = some d ∧ Φ (.d d) G2) (hs : PlainIx b := by exact fun _ _ => rfl) : Xp X (.Subscript a b pos) ρ G Φ :=
  xp_of (pe_ix ix_list pe_tw pe_tw hs) (r_op (Φa := Is (.d (.list ds)) G) (Φb := fun _ => Φb) (ha G) (fun x G1 q => by rw [q.2]; exact hb) fun x G1 y G2 q1 q2 => by
    obtain ⟨i, d, e1, e2, q3⟩ := h y G2 q2
    subst e1
    rw [q1.1]
    exact op_ixL e2 q3)
theorem xd_ixC {l : Addr} {ds : List PyData} {i : Int} {d : PyData} (ha : Xd X a ρ (.a l)) (hb : Xd X b ρ (.d (.int i))) (hm : (l, Cell.lst ds) ∈ G) (h : atI ds i = some d) (q : Φ (.d d) G) (hs : PlainIx b := by exact fun _ _ => rfl) : Xp X (.Subscript a b pos) ρ G Φ := xp_of (pe_ix ix_list pe_tw pe_tw hs) (r_opD (ha G) (hb G) (op_ixC hm h q))
theorem xl_sl {lo hi : Option Expr} {l h : Option Int} {ds : List PyData} {tl th : TO} (he : Xd X e ρ (.d (.list ds))) (pl : PO X lo tl) (rl : RO X.K tl ρ l) (pu : PO X hi th) (ru : RO X.K th ρ h) : Xl X (.Subscript e (.Slice lo hi none p2) pos) ρ (cutD ds l h) := fun G => xp_of (pe_slice sl_list pe_tw pl pu) (r_slL (he G) rl ru)
theorem xd_slT {lo hi : Option Expr} {l h : Option Int} {ds : List PyData} {tl th : TO} (he : Xd X e ρ (.d (.tuple ds))) (pl : PO X lo tl) (rl : RO X.K tl ρ l) (pu : PO X hi th) (ru : RO X.K th ρ h) : Xd X (.Subscript e (.Slice lo hi none p2) pos) ρ (.d (.tuple (cutD ds l h))) := fun G => xp_of (pe_slice sl_tupP pe_tw pl pu) (r_slT (he G) rl ru)
theorem ro_x {i : Int} (h : Xd X e ρ (.d (.int i))) : RO X.K (tPart (tw X e)) ρ (some i) := ro_some h
theorem po_x : PO X (some e) (tPart (tw X e)) := po_some pe_tw
theorem xp_pick {lo : Expr} {ds : List PyData} {Φl : Pst} {k : Nat} {p1 : Pos} (he : Xd X e ρ (.d (.list ds))) (hl : Xp X lo ρ G Φl) (hq : ∀ y G2, Φl y G2 → ∃ i, y = .d (.int i) ∧ ∀ l, Φ (.a l) ((l, .lst (pick2 ds i)) :: G2)) : Xp X (.Subscript e (.Slice (some lo) none (some (.Constant (.int 2) k p1)) p2) pos) ρ G Φ :=
  xp_of (pe_pick pe_tw pe_tw) (r_pick (he G) hl hq)
/-! ### methods -/
theorem xd_join {s : Str} {ys : List Str} (ho : Xd X o ρ (.d (.str s))) (he : Xd X e ρ (.d (.list (ys.map PyData.str)))) (hz : (ys.map (·.length)).sum + ys.length * s.length ≤ 16777216) (hs : starEach [e] X.env = [(false, eval e X.env)] := by rfl) (hb : attributeBase o "join" X.env (eval o X.env) = eval o X.env := by rfl)
    (hl : (apos.endLine == pos.line) = true := by rfl) : Xd X (.Call (.Attribute o "join" apos) [e] [] pos) ρ (.d (.str (Txt.join s ys))) := fun G => xp_of (pe_join pe_tw pe_tw hs hb hl) fun F σ B H Q c sl k => ho G F σ B H _ c sl fun v x G2 B2 H2 e2 c2 r2 q2 => by
  rw [q2.1] at r2
  rw [q2.2] at c2
  cases r2
  refine ⟨⟨s, rfl⟩, he G F σ B2 H2 _ c2 (sl.mono e2) fun u y G3 B3 H3 e3 c3 r3 q3 => ?_⟩
  rw [q3.1] at r3
  rw [q3.2] at c3
  cases r3 with
  | rlst h1 h2 =>
    have e4 := h2.strs
    subst e4
    exact ⟨s, _, ys, rfl, rfl, .inl (Evl.ex_l c3.ex h1), hz, (k.mono (e2.trans e3)).ret (x := .d (.str _)) c3 (.rstr _) ⟨rfl, rfl⟩⟩
theorem r_append {to te : TE} {l : Addr} {Φe : Pst} (ho : R K to ρ G (Is (.a l) G)) (hg : ∃ xs, (l, Cell.lst xs) ∈ G) (he : R K te ρ G Φe) (hq : ∀ y G2, Φe y G2 → ∃ d G3 xs G4, y = .d d ∧ G2 = G3 ++ (l, .lst xs) :: G4 ∧ xs.length < 100000 ∧ Φ (.d .none) (G3 ++ (l, .lst (xs ++ [d])) :: G4)) :
    R K (tBM K "list" rAppend to (tCons te tNil)) ρ G Φ := fun F σ B H Q c s k => ho F σ B H _ c s fun v x G2 B2 H2 e2 c2 r2 q2 => by
  rw [q2.1] at r2
  rw [q2.2] at c2
  have r2 : v = .ref l := r2
  subst r2
  obtain ⟨xs0, hm⟩ := hg
  obtain ⟨ws0, h0, _⟩ := c2.ce _ hm
  refine ⟨.inl ⟨rfl, ws0, .inl (.inl h0)⟩, he F σ B2 H2 _ c2 (s.mono e2) fun u y G3 B3 H3 e3 c3 r3 q3 => ?_⟩
  obtain ⟨d, G4, xs, G5, ey, eG, hz, p⟩ := hq y G3 q3
  subst ey eG
  obtain ⟨ws, h1, h2⟩ := c3.ce (l, .lst xs) (List.mem_append_right _ List.mem_cons_self)
  refine ⟨l, ws, u, rfl, rfl, h1, by rw [h2.len]; exact Evl.sz_lt hz, ?_⟩
  exact k .non (.d .none) _ B3 _ (e2.trans e3) (c3.set (x' := .lst (xs ++ [d])) ⟨_, upd_same, h2.app (.cons r3 .nil)⟩) .rnon p
theorem xp_append {l : Addr} {Φe : Pst} (ho : Xd X o ρ (.a l)) (hg : ∃ xs, (l, Cell.lst xs) ∈ G) (he : Xp X e ρ G Φe) (hq : ∀ y G2, Φe y G2 → ∃ d G3 xs G4, y = .d d ∧ G2 = G3 ++ (l, .lst xs) :: G4 ∧ xs.length < 100000 ∧ Φ (.d .none) (G3 ++ (l, .lst (xs ++ [d])) :: G4))
    (hb : attributeBase o "append" X.env (eval o X.env) = eval o X.env := by rfl) (hf : ((backTo pos (starEach [e] X.env)).all (fun x => !x.1) && (backToKw pos (keywordEach [] X.env)).all (fun x => x.1.isSome) && decide (([e] : List Expr).length + ([] : List Keyword).length + (if ([] : List Keyword).isEmpty then 0 else 1) < 30)) = true := by rfl)
    (hl : (apos.endLine == pos.line) = true := by rfl) (hs : starEach [e] X.env = (false, eval e X.env) :: starEach [] X.env := by rfl) (hp : (backTo pos (starEach [] X.env)).any (·.1) = false := by rfl) : Xp X (.Call (.Attribute o "append" apos) [e] [] pos) ρ G Φ :=
  xp_of (pe_bm PySem.F.plainAttrs_list PySem.F.slot_list_append PySem.F.type_list_append mt_append pe_tw (pa_cons pe_tw pa_nil hs) hb hf hl hs hp) (r_append (ho G) hg he hq)
/-- xs.extend(t), t a tuple -/
theorem xp_extend {l : Addr} {ys : List PyData} {G1 G2 : Store} {xs : List PyData} (ho : Xd X o ρ (.a l)) (he : Xd X e ρ (.d (.tuple ys))) (hG : G = G1 ++ (l, .lst xs) :: G2) (hz : xs.length + ys.length ≤ 100000) (q : Φ (.d .none) (G1 ++ (l, .lst (xs ++ ys)) :: G2))
    (hb : attributeBase o "extend" X.env (eval o X.env) = eval o X.env := by rfl) (hf : ((backTo pos (starEach [e] X.env)).all (fun x => !x.1) && (backToKw pos (keywordEach [] X.env)).all (fun x => x.1.isSome) && decide (([e] : List Expr).length + ([] : List Keyword).length + (if ([] : List Keyword).isEmpty then 0 else 1) < 30)) = true := by rfl)
    (hl : (apos.endLine == pos.line) = true := by rfl) (hs : starEach [e] X.env = (false, eval e X.env) :: starEach [] X.env := by rfl) (hp : (backTo pos (starEach [] X.env)).any (·.1) = false := by rfl) : Xp X (.Call (.Attribute o "extend" apos) [e] [] pos) ρ G Φ :=
  xp_of (pe_bm PySem.F.plainAttrs_list PySem.F.slot_list_extend PySem.F.type_list_extend mr_extend pe_tw (pa_cons pe_tw pa_nil hs) hb hf hl hs hp) fun F σ B H Q c s k => ho G F σ B H _ c s fun v x G2' B2 H2 e2 c2 r2 q2 => by
    rw [q2.1] at r2
    rw [q2.2, hG] at c2
    have r2 : v = .ref l := r2
    subst r2
    have hm : (l, Cell.lst xs) ∈ G1 ++ (l, .lst xs) :: G2 := List.mem_append_right _ List.mem_cons_self
    obtain ⟨ws0, h0, _⟩ := c2.ce _ hm
    refine ⟨.inl ⟨rfl, ws0, .inl (.inl h0)⟩, he (G1 ++ (l, .lst xs) :: G2) F σ B2 H2 _ c2 (s.mono e2) fun u y G3 B3 H3 e3 c3 r3 q3 => ?_⟩
    rw [q3.1] at r3
    rw [q3.2] at c3
    obtain ⟨ws, h1, h2⟩ := c3.ce _ hm
    cases r3 with
    | rtup h4 h5 h4l =>
      refine ⟨l, _, ws, _, rfl, rfl, h1, Evl.ex_t c3.ex h4, by rw [h2.len, h5.len]; exact Evl.sz_of hz, ?_⟩
      exact k .non (.d .none) _ B3 _ (e2.trans e3) (c3.set (x' := .lst (xs ++ ys)) ⟨_, upd_same, h2.app h5⟩) .rnon q
/-! ### f-strings -/
inductive Xj (X : Cx) (ρ : Env) : List Expr → List TE → List Str → Prop where
  | nil : Xj X ρ [] [] []
  | cons {e : Expr} {t : TE} {s : Str} {es : List Expr} {ts : List TE} {ss : List Str} (h : PE X e t) (r : ∀ G, R X.K t ρ G (Is (.d (.str s)) G)) (q : Xj X ρ es ts ss) : Xj X ρ (e :: es) (t :: ts) (s :: ss)
theorem Xj.pj {ts : List TE} {ss : List Str} : ∀ {es : List Expr} {ts : List TE} {ss : List Str}, Xj X ρ es ts ss → PJ X es ts
  | _, _, _, .nil => .nil
  | _, _, _, .cons h _ q => .cons h (q.pj (ts := ts) (ss := ss))
def joinAll (acc : Str) (ss : List Str) : Str := ss.foldl (· ++ ·) acc
theorem Xj.run : ∀ {es : List Expr} {ts : List TE} {ss : List Str}, Xj X ρ es ts ss → ∀ (acc : Str) F σ B H (Q : Str → Hp → Prop), acc.length + (ss.map (·.length)).sum ≤ sizeLine → Cfg X.K F G B H → Slots X.K B σ ρ → (∀ B2 H2, Ex B B2 → Cfg X.K F G B2 H2 → Q (joinAll acc ss) H2) → tJs ts acc σ H Q
  | _, _, _, .nil, acc, F, σ, B, H, Q, hz, c, s, k => k B H (Evl.Ex.refl B) c
  | _, _, _, .cons (s := s0) (ss := ss) h r q, acc, F, σ, B, H, Q, hz, c, s, k => by
    refine r G F σ B H _ c s fun v x G2 B2 H2 e2 c2 r2 q2 => ?_
    rw [q2.1] at r2
    rw [q2.2] at c2
    cases r2
    rw [List.map_cons, List.sum_cons] at hz
    have hl : (acc ++ s0).length = acc.length + s0.length := PySem.strLen_append _ _
    exact ⟨s0, rfl, by omega, q.run (acc ++ s0) F σ B2 H2 Q (by rw [hl]; omega) c2 (s.mono e2) fun B3 H3 e3 c3 => k B3 H3 (e2.trans e3) c3⟩
theorem xd_joined {v1 v2 : Expr} {rest : List Expr} {ts : List TE} {ss : List Str} (h : Xj X ρ (v1 :: v2 :: rest) ts ss) (hz : (ss.map (·.length)).sum ≤ 100000) : Xd X (.JoinedStr (v1 :: v2 :: rest) pos) ρ (.d (.str (joinAll Str.empty ss))) := fun G =>
  xp_of (pe_joined (h.pj (ts := ts) (ss := ss))) fun F σ B H Q c s k => h.run Str.empty F σ B H _ (by rw [show Str.empty.length = 0 from rfl]; exact Evl.sz_of (by omega)) c s fun B2 H2 e2 c2 => (k.mono e2).ret (x := .d (.str _)) c2 (.rstr _) ⟨rfl, rfl⟩
theorem r_fmtS {te : TE} {s : Str} (h : ∀ G, R K te ρ G (Is (.d (.str s)) G)) (hz : s.length ≤ 100000) : ∀ G, R K (tFmt te) ρ G (Is (.d (.str s)) G) := fun G F σ B H Q c sl k => h G F σ B H _ c sl fun v x G2 B2 H2 e2 c2 r2 q2 => by
  rw [q2.1] at r2
  cases r2
  exact .inl ⟨s, rfl, Evl.sz_of hz, (k.mono e2).ret (x := .d (.str s)) c2 (.rstr s) ⟨rfl, q2.2⟩⟩
theorem r_fmtI {te : TE} {i : Int} (h : ∀ G, R K te ρ G (Is (.d (.int i)) G)) (hz : i.natAbs.log2 < 1920) : ∀ G, R K (tFmt te) ρ G (Is (.d (.str (toString i : String))) G) := fun G F σ B H Q c sl k => h G F σ B H _ c sl fun v x G2 B2 H2 e2 c2 r2 q2 => by
  rw [q2.1] at r2
  cases r2
  exact .inr ⟨i, rfl, hz, (k.mono e2).ret (x := .d (.str _)) c2 (.rstr _) ⟨rfl, q2.2⟩⟩
end
end Fsh

set_option Elab.async false
set_option linter.all false
set_option maxRecDepth 100000
namespace Fsh
open PySem PySem.Spec PyProof.Rows L2

section
variable {X : Cx} {e a b c o : Expr} {es : List Expr} {ρ : Env} {G : Store} {Φ : Pst} {pos p p2 apos : Pos} {N : Env → Store → Prop}
/-! ### statements -/
theorem xss_nil (h : N ρ G) : Xss X [] ρ G N Φ := xss_of pss_nil (rs_nx h)
theorem xss_cons {st : Stmt} {rest : List Stmt} {M : Env → Store → Prop} (h1 : Xs X st ρ G M Φ) (h2 : ∀ ρ' G', M ρ' G' → Xss X rest ρ' G' N Φ) : Xss X (st :: rest) ρ G N Φ := xss_of (pss_cons ps_tw pss_tw) (rs_seq h1 h2)
theorem xss_one {st : Stmt} (h1 : Xs X st ρ G N Φ) : Xss X [st] ρ G N Φ := xss_of (pss_one ps_tw) h1
/-- where what stands behind a statement is told by one environment and store -/
abbrev At (ρ : Env) (G : Store) : Env → Store → Prop := fun ρ' G' => ρ' = ρ ∧ G' = G
theorem xss_at {st : Stmt} {rest : List Stmt} {ρ' : Env} {G' : Store} (h1 : Xs X st ρ G (At ρ' G') Φ) (h2 : Xss X rest ρ' G' N Φ) : Xss X (st :: rest) ρ G N Φ := xss_cons h1 fun r g q => by rw [q.1, q.2]; exact h2
theorem xs_ret (h : Xp X e ρ G Φ) : Xs X (.Return (some e) pos) ρ G N Φ := xs_of (ps_ret pe_tw) (rs_ret h)
theorem xs_expr {Φe : Pst} (h : Xp X e ρ G Φe) (q : ∀ x G2, Φe x G2 → N ρ G2) (hs : swapsWith e none pos.line X.env = pure false := by rfl) : Xs X (.Expr e pos) ρ G N Φ := xs_of (ps_expr pe_tw hs) (rs_drop h q)
theorem xs_if {sa sb : List Stmt} {Φc : Bool → Store → Prop} (hc : Xt X c ρ G Φc) (h1 : ∀ G1, Φc true G1 → Xss X sa ρ G1 N Φ) (h2 : ∀ G1, Φc false G1 → Xss X sb ρ G1 N Φ) : Xs X (.If c sa sb pos) ρ G N Φ := xs_of (ps_if pt_tw pss_tw pss_tw) (rs_if hc h1 h2)
theorem xs_ifD {sa sb : List Stmt} {t : Bool} (hc : Xb X c ρ t) (h1 : t = true → Xss X sa ρ G N Φ) (h2 : t = false → Xss X sb ρ G N Φ) : Xs X (.If c sa sb pos) ρ G N Φ :=
  xs_if (hc G) (fun G1 q => by rw [q.2]; exact h1 q.1.symm) fun G1 q => by rw [q.2]; exact h2 q.1.symm
theorem xs_set (i : Nat) {x : Str} {p' : Pos} {Φe : Pst} (h : Xp X e ρ G Φe) (q : ∀ y G2, Φe y G2 → N (ρ.set i (some y)) G2) (hN : X.N.Nodup) (hi : X.N[i]? = some x := by rfl) (hx : Loc X.env.scope x := by first | exact Or.inl rfl | exact Or.inr rfl)
    (hs : swapsWithSole [.Name x p'] e pos.line X.env = pure false := by rfl) (hw : swappedStores [.Name x p'] e X.env = pure none := by rfl) (hf : X.fn x = true ∨ X.env.scope.names.lookup x = some .local := by first | exact .inl rfl | exact .inr rfl) : Xs X (.Assign [.Name x p'] e pos) ρ G N Φ :=
  xs_of (ps_asg pe_tw (pg_name hN hi hx hf) hs hw) (rs_asg h fun y G2 z => ⟨_, rg_name, q y G2 z⟩)
theorem xs_setD (i : Nat) {x : Str} {p' : Pos} {y : DV} (h : Xd X e ρ y) (hN : X.N.Nodup) (hi : X.N[i]? = some x := by rfl) (hx : Loc X.env.scope x := by first | exact Or.inl rfl | exact Or.inr rfl)
    (hs : swapsWithSole [.Name x p'] e pos.line X.env = pure false := by rfl) (hw : swappedStores [.Name x p'] e X.env = pure none := by rfl) (hf : X.fn x = true ∨ X.env.scope.names.lookup x = some .local := by first | exact .inl rfl | exact .inr rfl) : Xs X (.Assign [.Name x p'] e pos) ρ G (At (ρ.set i (some y)) G) Φ :=
  xs_set i (h G) (fun z G2 q => ⟨by rw [q.1], q.2⟩) hN hi hx hs hw hf
/-- any target -/
theorem xs_asg {tg : Expr} {g : TG} {js : List Nat} {Φe : Pst} (h : Xp X e ρ G Φe) (hg : PG X tg g) (q : ∀ x G2, Φe x G2 → ∃ ρ', RG X.K g js x ρ ρ' ∧ N ρ' G2) (hs : swapsWithSole [tg] e pos.line X.env = pure false := by rfl) (hw : swappedStores [tg] e X.env = pure none := by rfl) (ha : (assignEach [tg] X.env).map (·.2) = [assign tg X.env] := by rfl) : Xs X (.Assign [tg] e pos) ρ G N Φ :=
  xs_of (ps_asg pe_tw hg hs hw ha) (rs_asg h q)
/-- loops -/
theorem xs_forL {tg : Expr} {body : List Stmt} {g : TG} {js : List Nat} {ds : List PyData} (I : Nat → Env → Store → Prop) (hp : PassesOwn (model X.prog X.w) X.A X.env X.xe) (hl : Xd X e ρ (.d (.list ds))) (hg : PG X tg g) (h0 : I 0 ρ G)
    (hs : ∀ i d ρ1 G1, ds[i]? = some d → I i ρ1 G1 → ∃ ρ2, RG X.K g js (.d d) ρ1 ρ2 ∧ Xss X body ρ2 G1 (I (i + 1)) Φ) (hd : ∀ ρ1 G1, I ds.length ρ1 G1 → N ρ1 G1) (hc : X.calm = true := by rfl) (hf : ∀ x, foldedSetIterable e X.env x = pure x := by intro _; rfl) : Xs X (.For tg e body [] pos) ρ G N Φ :=
  xs_of (ps_for hp hc (pi_list pe_tw) hg pss_tw hf) (rs_forL I (hl G) h0 hs hd)
theorem xs_forT {tg : Expr} {body : List Stmt} {g : TG} {js : List Nat} {ds : List PyData} (I : Nat → Env → Store → Prop) (hp : PassesOwn (model X.prog X.w) X.A X.env X.xe) (hl : Xd X e ρ (.d (.tuple ds))) (hg : PG X tg g) (h0 : I 0 ρ G)
    (hs : ∀ i d ρ1 G1, ds[i]? = some d → I i ρ1 G1 → ∃ ρ2, RG X.K g js (.d d) ρ1 ρ2 ∧ Xss X body ρ2 G1 (I (i + 1)) Φ) (hd : ∀ ρ1 G1, I ds.length ρ1 G1 → N ρ1 G1) (hc : X.calm = true := by rfl) (hf : ∀ x, foldedSetIterable e X.env x = pure x := by intro _; rfl) : Xs X (.For tg e body [] pos) ρ G N Φ :=
  xs_of (ps_for hp hc (pi_tup pe_tw) hg pss_tw hf) (rs_forT I (hl G) h0 hs hd)
theorem xs_forR {tg : Expr} {body : List Stmt} {g : TG} {js : List Nat} {Φl : List DV → Store → Prop} (I : Int → Nat → Env → Store → Prop) (hp : PassesOwn (model X.prog X.w) X.A X.env X.xe) (hm : X.mg "range" = none) (hl : Xa X [e] ρ G Φl) (hg : PG X tg g)
    (h0 : ∀ xs G1, Φl xs G1 → ∃ n : Int, xs = [.d (.int n)] ∧ n ≤ 100000 ∧ -100000 ≤ n ∧ I n 0 ρ G1) (hs : ∀ (n : Int) (i : Nat) ρ1 G1, (i : Int) < n → I n i ρ1 G1 → ∃ ρ2, RG X.K g js (.d (.int i)) ρ1 ρ2 ∧ Xss X body ρ2 G1 (I n (i + 1)) Φ) (hd : ∀ (n : Int) ρ1 G1, I n n.toNat ρ1 G1 → N ρ1 G1)
    (hgl : Gl X "range" := by rfl) (hc : X.calm = true := by rfl) (hst : starEach [e] X.env = [(false, eval e X.env)] := by rfl) (hf : ∀ x, foldedSetIterable (.Call (.Name "range" p) [e] [] p2) X.env x = pure x := by intro _; rfl) : Xs X (.For tg (.Call (.Name "range" p) [e] [] p2) body [] pos) ρ G N Φ :=
  xs_of (ps_for hp hc (pi_range1 hgl hm pa_tw hst) hg pss_tw hf) (rs_forR I hl h0 hs hd)
/-- the store's list is data from here on -/
theorem rs_give {K : PySem.W.Frag} {t : TS} {l : Addr} {xs : List PyData} (h : RS K t (thawE l xs ρ) G N Φ) : RS K t ρ ((l, .lst xs) :: G) N Φ := fun F σ B H D c s n k => by
  obtain ⟨vs, nB, rr, c3⟩ := c.freeze
  have e := ex_new nB (HO.lst vs)
  exact h F σ _ H D c3 (s.froze nB rr) (fun ρ' σ' G2 B2 H2 e2 => n ρ' σ' G2 B2 H2 (e.trans e2)) (k.mono e)
theorem xp_frozen {l : Addr} {xs : List PyData} (h : Xp X e (thawE l xs ρ) G fun y G2 => noLv y = true ∧ (∀ p ∈ G2, noLc p.2 = true) ∧ Φ y ((l, .lst xs) :: G2)) : Xp X e ρ ((l, .lst xs) :: G) Φ := R.frozen h
theorem xp_give (r : Xp X e ρ G fun y G2 => ∃ l xs G3, y = .a l ∧ G2 = (l, .lst xs) :: G3 ∧ Φ (.d (.list xs)) G3) : Xp X e ρ G Φ := R.give r
/-! ### comprehensions -/
/-- the frames that a comprehension may get -/
abbrev Fz := Shared × Hp × Addr × List (Str × Addr) × List Addr
abbrev bx (X : Cx) (scope : Scope) (z : Fz) : Cx := X.blk z.1 z.2.1 scope (compEnvC scope z.2.2.2.1 z.2.2.1 X.env) z.2.2.2.2
def blkE (X : Cx) (scope : Scope) (elt : Expr) : TE := fun σ H Q => ∀ z : Fz, tw (bx X scope z) elt σ H Q
def twTs (X : Cx) (ifs : List Expr) : TT := fun σ H Q => Say (∀ pins s, Inv X pins σ H s →
    wpAny (model X.prog X.w) X.A (forIn ifs true fun c r => if r = true then do let ok ← isTrue c X.env (eval c X.env); pure (ForInStep.yield ok) else pure (ForInStep.yield r)) (TP X pins σ Q) X.xe s)
def blkT (X : Cx) (scope : Scope) (ifs : List Expr) : TT := fun σ H Q => ∀ z : Fz, twTs (bx X scope z) ifs σ H Q
abbrev Xts (X : Cx) (ifs : List Expr) (ρ : Env) (G : Store) (Φt : Bool → Store → Prop) : Prop := RT X.K (twTs X ifs) ρ G Φt
theorem xts_nil {Φt : Bool → Store → Prop} (h : Φt true G) : Xts X [] ρ G Φt := fun F σ B H Q c s k => ⟨fun pins st I => pts_nil.run pins st σ H Q I (k true G B H (Evl.Ex.refl B) c h)⟩
theorem xts_one {Φt : Bool → Store → Prop} (h : Xt X c ρ G Φt) : Xts X [c] ρ G Φt := fun F σ B H Q c s k => ⟨fun pins st I => (pts_one pt_tw).run pins st σ H Q I (h F σ B H Q c s k)⟩
/-- what a turn of [elt for .. if ..] asks, in whatever frame -/
def Turn (X : Cx) (scope : Scope) (ifs : List Expr) (elt : Expr) (ρ : Env) (G : Store) (J : List PyData → Store → Prop) (acc : List PyData) : Prop :=
  ∃ Φt : Bool → Store → Prop, (∀ z : Fz, Xts (bx X scope z) ifs ρ G Φt) ∧ (∀ z : Fz, ∀ G2, Φt true G2 → Xp (bx X scope z) elt ρ G2 fun y G3 => ∃ d, y = .d d ∧ J (acc ++ [d]) G3) ∧ ∀ G2, Φt false G2 → J acc G2
theorem Turn.one {scope : Scope} {ifs : List Expr} {elt : Expr} {J : List PyData → Store → Prop} {acc : List PyData} (h : Turn X scope ifs elt ρ G J acc) : Turn1 X.K (blkT X scope ifs) (blkE X scope elt) ρ G J acc := by
  obtain ⟨Φt, ht, he, hn⟩ := h
  intro F σ B H Q c s k z
  refine ht z F σ B H Q c s fun t G2 B2 H2 e2 c2 q => k t G2 B2 H2 e2 c2 ?_
  cases t with
  | true =>
    rw [if_pos rfl]
    exact fun F' σ' B' H' Q' c' s' k' z' => he z' G2 q F' σ' B' H' Q' c' s' k'
  | false =>
    rw [if_neg Bool.false_ne_true]
    exact hn G2 q
/-- every item is taken; those that pass a test are taken -/
theorem turn_each {scope : Scope} {elt : Expr} {J : List PyData → Store → Prop} {acc : List PyData} (h : ∀ z : Fz, Xp (bx X scope z) elt ρ G fun y G3 => ∃ d, y = .d d ∧ J (acc ++ [d]) G3) : Turn X scope [] elt ρ G J acc :=
  ⟨fun t G2 => t = true ∧ G2 = G, fun z => xts_nil ⟨rfl, rfl⟩, fun z G2 q => by rw [q.2]; exact h z, fun G2 q => by cases q.1⟩
theorem turn_if {scope : Scope} {elt c : Expr} {J : List PyData → Store → Prop} {acc : List PyData} {t : Bool} (hc : ∀ z : Fz, Xb (bx X scope z) c ρ t) (h1 : t = true → ∀ z : Fz, Xp (bx X scope z) elt ρ G fun y G3 => ∃ d, y = .d d ∧ J (acc ++ [d]) G3) (h2 : t = false → J acc G) : Turn X scope [c] elt ρ G J acc :=
  ⟨IsT t G, fun z => xts_one (hc z G), fun z G2 q => by rw [q.2]; exact h1 q.1.symm z, fun G2 q => by rw [q.2]; exact h2 q.1.symm⟩
theorem x_lcL {tg elt : Expr} {ifs : List Expr} {scope : Scope} {own : List (Str × Nat)} {g : TG} {js : List Nat} {ds : List PyData} (I : Nat → List PyData → Store → Prop) (hN : X.N.Nodup) (hl : Xd X e ρ (.d (.list ds))) (ok : BlkOk X.N X.env.scope scope own)
    (hg : ∀ (s : Shared) (H : Hp) (C : Addr) (cl : List (Str × Addr)) (fp : List Addr), PG (X.blk s H scope (compEnvC scope cl C X.env) fp) tg g) (hj : ∀ j ∈ js, j ∈ own.map (·.2)) (hz : ds.length ≤ 100000) (h0 : I 0 [] G)
    (hs : ∀ i d, ds[i]? = some d → ∃ ρ2, RG X.K g js (.d d) (wipeE ρ (own.map (·.2))) ρ2 ∧ ∀ acc G1, I i acc G1 → Turn X scope ifs elt ρ2 G1 (I (i + 1)) acc) (hq : ∀ l acc G3, I ds.length acc G3 → Φ (.a l) ((l, .lst acc) :: G3))
    (hc : X.calm = true := by rfl) (hf : ∀ x, foldedSetIterable e X.env x = pure x := by intro _; rfl) : Xp X (.ListComp elt [⟨tg, e, ifs, 0⟩] scope pos) ρ G Φ :=
  xp_of (pe_lc (tt := blkT X scope ifs) (te := blkE X scope elt) hc hN (pi_list pe_tw) ok hg (fun s H C cl fp => ⟨fun pins st σ H' Q I h => (h (s, H, C, cl, fp)).run pins st I⟩) (fun s H C cl fp => ⟨fun pins st σ H' Q I h => (h (s, H, C, cl, fp)).run pins st I⟩) hf)
    ((r_lcL I (hl G) hj hz h0 fun i d hd => by
      obtain ⟨ρ2, g1, b1⟩ := hs i d hd
      exact ⟨ρ2, g1, fun acc G1 q => (b1 acc G1 q).one⟩).imp fun y G2 ⟨l, acc, G3, e1, e2, q⟩ => by rw [e1, e2]; exact hq l acc G3 q)
theorem x_lcT {tg elt : Expr} {ifs : List Expr} {scope : Scope} {own : List (Str × Nat)} {g : TG} {js : List Nat} {ds : List PyData} (I : Nat → List PyData → Store → Prop) (hN : X.N.Nodup) (hl : Xd X e ρ (.d (.tuple ds))) (ok : BlkOk X.N X.env.scope scope own)
    (hg : ∀ (s : Shared) (H : Hp) (C : Addr) (cl : List (Str × Addr)) (fp : List Addr), PG (X.blk s H scope (compEnvC scope cl C X.env) fp) tg g) (hj : ∀ j ∈ js, j ∈ own.map (·.2)) (hz : ds.length ≤ 100000) (h0 : I 0 [] G)
    (hs : ∀ i d, ds[i]? = some d → ∃ ρ2, RG X.K g js (.d d) (wipeE ρ (own.map (·.2))) ρ2 ∧ ∀ acc G1, I i acc G1 → Turn X scope ifs elt ρ2 G1 (I (i + 1)) acc) (hq : ∀ l acc G3, I ds.length acc G3 → Φ (.a l) ((l, .lst acc) :: G3))
    (hc : X.calm = true := by rfl) (hf : ∀ x, foldedSetIterable e X.env x = pure x := by intro _; rfl) : Xp X (.ListComp elt [⟨tg, e, ifs, 0⟩] scope pos) ρ G Φ :=
  xp_of (pe_lc (tt := blkT X scope ifs) (te := blkE X scope elt) hc hN (pi_tup pe_tw) ok hg (fun s H C cl fp => ⟨fun pins st σ H' Q I h => (h (s, H, C, cl, fp)).run pins st I⟩) (fun s H C cl fp => ⟨fun pins st σ H' Q I h => (h (s, H, C, cl, fp)).run pins st I⟩) hf)
    ((r_lcT I (hl G) hj hz h0 fun i d hd => by
      obtain ⟨ρ2, g1, b1⟩ := hs i d hd
      exact ⟨ρ2, g1, fun acc G1 q => (b1 acc G1 q).one⟩).imp fun y G2 ⟨l, acc, G3, e1, e2, q⟩ => by rw [e1, e2]; exact hq l acc G3 q)
theorem x_lcR {tg elt : Expr} {ifs : List Expr} {scope : Scope} {own : List (Str × Nat)} {g : TG} {js : List Nat} {Φl : List DV → Store → Prop} (I : Int → Nat → List PyData → Store → Prop) (hN : X.N.Nodup) (hm : X.mg "range" = none) (hl : Xa X [e] ρ G Φl) (ok : BlkOk X.N X.env.scope scope own)
    (hg : ∀ (s : Shared) (H : Hp) (C : Addr) (cl : List (Str × Addr)) (fp : List Addr), PG (X.blk s H scope (compEnvC scope cl C X.env) fp) tg g) (hj : ∀ j ∈ js, j ∈ own.map (·.2)) (h0 : ∀ xs G1, Φl xs G1 → ∃ n : Int, xs = [.d (.int n)] ∧ n ≤ 100000 ∧ -100000 ≤ n ∧ I n 0 [] G1)
    (hs : ∀ (n : Int) (i : Nat), (i : Int) < n → ∃ ρ2, RG X.K g js (.d (.int i)) (wipeE ρ (own.map (·.2))) ρ2 ∧ ∀ acc G1, I n i acc G1 → Turn X scope ifs elt ρ2 G1 (I n (i + 1)) acc) (hq : ∀ l (n : Int) acc G3, I n n.toNat acc G3 → Φ (.a l) ((l, .lst acc) :: G3))
    (hgl : Gl X "range" := by rfl) (hc : X.calm = true := by rfl) (hst : starEach [e] X.env = [(false, eval e X.env)] := by rfl) (hf : ∀ x, foldedSetIterable (.Call (.Name "range" p) [e] [] p2) X.env x = pure x := by intro _; rfl) : Xp X (.ListComp elt [⟨tg, .Call (.Name "range" p) [e] [] p2, ifs, 0⟩] scope pos) ρ G Φ :=
  xp_of (pe_lc (tt := blkT X scope ifs) (te := blkE X scope elt) hc hN (pi_range1 hgl hm pa_tw hst) ok hg (fun s H C cl fp => ⟨fun pins st σ H' Q I h => (h (s, H, C, cl, fp)).run pins st I⟩) (fun s H C cl fp => ⟨fun pins st σ H' Q I h => (h (s, H, C, cl, fp)).run pins st I⟩) hf)
    ((r_lcR I hl hj h0 fun n i hi => by
      obtain ⟨ρ2, g1, b1⟩ := hs n i hi
      exact ⟨ρ2, g1, fun acc G1 q => (b1 acc G1 q).one⟩).imp fun y G2 ⟨l, acc, G3, e1, e2, n, q⟩ => by rw [e1, e2]; exact hq l n acc G3 q)
end

/-! ### defs and their calls -/
abbrev Spec := List DV → Store → Pst → Prop
def spS (K : PySem.W.Frag) (Z : Spec) : Sp := fun vs H Q _ => ∃ F G B xs Φ, Cfg K F G B H ∧ Rvs K B vs xs ∧ Z xs G Φ ∧ Kp K F B Φ Q
structure Fn (P : Program) (w : World) (K : PySem.W.Frag) (mg : Str → Option Value) (base : Heap) (k : Nat) (x : Str) (ps : List Str) (Z : Spec) : Prop where
  ex : ∃ f fd, FnOk P w K mg base CX0 k f fd ps (spS K Z) ∧ mg x = some (.ref f) ∧ PySem.W.keepIn K (.ref f) = true ∧ Binds K fd ps []
section
variable {X : Cx} {e : Expr} {es : List Expr} {ρ : Env} {G : Store} {Φ : Pst} {pos p : Pos} {k : Nat} {x : Str} {ps : List Str} {Z : Spec}
theorem xp_call {Φl : List DV → Store → Prop} (Fx : Fn X.prog X.w X.K X.mg X.base k x ps Z) (hr : Room k X.A) (ha : Xa X (e :: es) ρ G Φl) (h : ∀ xs G', Φl xs G' → ∃ G1 G2, G' = G1 ++ G2 ∧ Z xs G2 fun y G3 => Φ y (G1 ++ G3)) (hg : Gl X x := by rfl) (hdb : (x == ("__debug__" : Str)) = false := by decide)
    (hst : starEach (e :: es) X.env = (false, eval e X.env) :: starEach es X.env := by rfl) (hpl : (backTo pos (starEach es X.env)).any (·.1) = false := by rfl) : Xp X (.Call (.Name x p) (e :: es) [] pos) ρ G Φ := by
  obtain ⟨f, fd, F1, hm, hk, hb⟩ := Fx.ex
  refine xp_of (pe_call F1 hr hg hm hk hb .nil pass0 pa_tw hdb hst hpl) fun F σ B H Q c s kk => ha F σ B H _ c s fun vs xs G2 B2 H2 e2 c2 r2 q => ?_
  obtain ⟨G3, G4, eG, z⟩ := h xs G2 q
  subst eG
  obtain ⟨F', c4, fr⟩ := c2.frame
  rw [List.append_nil]
  exact ⟨F', G4, B2, xs, _, c4, r2, z, fun v y G5 B5 H5 e5 c5 r5 q5 => kk v y _ B5 H5 (e2.trans e5) (fr G5 B5 H5 e5 c5) r5 q5⟩
/-- a def that changes nothing, told by its value -/
theorem xd_call {xs : List DV} {y : DV} (Fx : Fn X.prog X.w X.K X.mg X.base k x ps Z) (hr : Room k X.A) (ha : Xad X (e :: es) ρ xs) (h : ∀ G Φ, Φ y G → Z xs G Φ) (hg : Gl X x := by rfl) (hdb : (x == ("__debug__" : Str)) = false := by decide)
    (hst : starEach (e :: es) X.env = (false, eval e X.env) :: starEach es X.env := by rfl) (hpl : (backTo pos (starEach es X.env)).any (·.1) = false := by rfl) : Xd X (.Call (.Name x p) (e :: es) [] pos) ρ y := fun G =>
  xp_call Fx hr (ha G) (fun xs' G' q => ⟨[], G', rfl, by rw [q.1]; exact h _ _ ⟨rfl, q.2⟩⟩) hg hdb hst hpl
def start0 (N : List Str) (xs : List DV) : Env := xs.map some ++ List.replicate (N.length - xs.length) none
theorem slots_start {K : PySem.W.Frag} {B : Hp} {N : List Str} : ∀ {vs : List V} {xs : List DV}, Rvs K B vs xs → Slots K B (L2.start N vs) (start0 N xs) := by
  intro vs xs r
  have hl := r.len
  refine ⟨by unfold L2.start start0; rw [List.length_append, List.length_append, List.length_map, List.length_map, List.length_replicate, List.length_replicate, hl], fun i y h => ?_⟩
  unfold start0 at h
  unfold L2.start
  have hi : i < xs.length := by
    by_cases z : i < xs.length
    · exact z
    · rw [List.getElem?_append_right (by rw [List.length_map]; omega), List.getElem?_replicate] at h
      split at h <;> cases h
  rw [List.getElem?_append_left (by rw [List.length_map]; exact hi), List.getElem?_map] at h
  rw [List.getElem?_append_left (by rw [List.length_map, hl]; exact hi), List.getElem?_map]
  clear hl
  induction r generalizing i with
  | nil => cases hi
  | cons a b ih =>
    cases i with
    | zero =>
      cases h
      exact ⟨_, rfl, a⟩
    | succ i =>
      have hi' := Nat.lt_of_succ_lt_succ hi
      simp only [List.getElem?_cons_succ] at h ⊢
      exact ih i h hi'
theorem fn_rule {P : Program} {w : World} {K : PySem.W.Frag} {mg : Str → Option Value} {base : Heap} {st : Stmt} {f : Addr} {fd : FuncData} {N : List Str} (F1 : Fun K x x st f fd) (S : FnScope N ps (defScope st)) (hb : Binds K fd ps []) (hm : mg x = some (.ref f)) (len : ∀ xs G Φ, Z xs G Φ → xs.length = ps.length)
    (body : ∀ (cdv : Value) (A : Around) (outer : List PySem.Env) (s : Shared) (H : Hp) (E : XK), Room k (A.deeper (envOfC x (defScope st) s.heap.objs.size f cdv)) → ∀ xs G Φ, Z xs G Φ →
      Xss (cxOf CX0 P w K mg base N x (defScope st) f cdv A outer s H E).nox (defBody st) (start0 N xs) G (fun _ G2 => Φ (.d .none) G2) Φ) : Fn P w K mg base (k + 1) x ps Z := by
  refine ⟨f, fd, F1.ok S (fun vs H Q E h => ?_) (fun cdv A outer s H vs Q E hr h => ?_), hm, F1.kp, hb⟩
  · obtain ⟨F, G, B, xs, Φ, _, r, z, _⟩ := h
    exact r.len.trans (len xs G Φ z)
  · obtain ⟨F, G, B, xs, Φ, c, r, z, kk⟩ := h
    refine ⟨_, pss_tw, body cdv A outer s H E hr xs G Φ z F (L2.start N vs) B H _ c (slots_start r) (fun ρ' σ' G2 B2 H2 e2 c2 s2 q => ?_) kk⟩
    exact kk .non (.d .none) G2 B2 H2 e2 c2 .rnon q
end
end Fsh

set_option Elab.async false
set_option linter.all false
set_option maxRecDepth 100000
namespace Fsh
open PySem PySem.Spec PyProof.Rows L2
section
variable {X : Cx} {e a b c o : Expr} {es : List Expr} {ρ : Env} {G : Store} {Φ : Pst} {pos p p2 apos : Pos}
/-- a built-in's name is not taken by the module -/
structure Bn (mg : Str → Option Value) : Prop where
  len : mg "len" = none
  int : mg "int" = none
  str : mg "str" = none
  list : mg "list" = none
  tuple : mg "tuple" = none
  range : mg "range" = none
  min : mg "min" = none
  sum : mg "sum" = none
  repr : mg "repr" = none
theorem xd_lenL {ds : List PyData} (B : Bn X.mg) (ha : Xd X e ρ (.d (.list ds))) (hg : Gl X "len" := by rfl) (he : starEach [e] X.env = (false, eval e X.env) :: starEach [] X.env := by rfl) (hpl : (backTo pos (starEach [] X.env)).any (·.1) = false := by rfl) : Xd X (.Call (.Name "len" p) [e] [] pos) ρ (.d (.int ds.length)) := fun G =>
  x_callB call_len_seq B.len PySem.boot_len (xad_cons ha xa_nil he G) (fun xs G1 q => by rw [q.1, q.2]; exact co_lenL ⟨rfl, rfl⟩) hg (by decide) (by decide) he hpl
theorem xd_lenT {ds : List PyData} (B : Bn X.mg) (ha : Xd X e ρ (.d (.tuple ds))) (hg : Gl X "len" := by rfl) (he : starEach [e] X.env = (false, eval e X.env) :: starEach [] X.env := by rfl) (hpl : (backTo pos (starEach [] X.env)).any (·.1) = false := by rfl) : Xd X (.Call (.Name "len" p) [e] [] pos) ρ (.d (.int ds.length)) := fun G =>
  x_callB call_len_seq B.len PySem.boot_len (xad_cons ha xa_nil he G) (fun xs G1 q => by rw [q.1, q.2]; exact co_lenT ⟨rfl, rfl⟩) hg (by decide) (by decide) he hpl
theorem xp_lenC {l : Addr} {ds : List PyData} (B : Bn X.mg) (ha : Xd X e ρ (.a l)) (hm : (l, Cell.lst ds) ∈ G) (q : Φ (.d (.int ds.length)) G) (hg : Gl X "len" := by rfl) (he : starEach [e] X.env = (false, eval e X.env) :: starEach [] X.env := by rfl) (hpl : (backTo pos (starEach [] X.env)).any (·.1) = false := by rfl) : Xp X (.Call (.Name "len" p) [e] [] pos) ρ G Φ :=
  x_callB call_len_seq B.len PySem.boot_len (xad_cons ha xa_nil he G) (fun xs G1 z => by rw [z.1, z.2]; exact co_lenC hm q) hg (by decide) (by decide) he hpl
theorem xd_intc {i : Int} (B : Bn X.mg) (ha : Xd X e ρ (.d (.int i))) (hg : Gl X "int" := by rfl) (he : starEach [e] X.env = (false, eval e X.env) :: starEach [] X.env := by rfl) (hpl : (backTo pos (starEach [] X.env)).any (·.1) = false := by rfl) : Xd X (.Call (.Name "int" p) [e] [] pos) ρ (.d (.int i)) := fun G =>
  x_callTy call_int1 B.int (by decide +kernel) (xad_cons ha xa_nil he G) (fun xs G1 q => by rw [q.1, q.2]; exact co_int ⟨rfl, rfl⟩) hg (by decide) (by decide) he hpl
theorem xd_strI {i : Int} (B : Bn X.mg) (ha : Xd X e ρ (.d (.int i))) (hi : i.natAbs.log2 < 1920) (hg : Gl X "str" := by rfl) (he : starEach [e] X.env = (false, eval e X.env) :: starEach [] X.env := by rfl) (hpl : (backTo pos (starEach [] X.env)).any (·.1) = false := by rfl) : Xd X (.Call (.Name "str" p) [e] [] pos) ρ (.d (.str (toString i : String))) := fun G =>
  x_callTy cr_str B.str (by decide +kernel) (xad_cons ha xa_nil he G) (fun xs G1 q => by rw [q.1, q.2]; exact co_strI hi ⟨rfl, rfl⟩) hg (by decide) (by decide) he hpl
theorem xd_strS {s : Str} (B : Bn X.mg) (ha : Xd X e ρ (.d (.str s))) (hg : Gl X "str" := by rfl) (he : starEach [e] X.env = (false, eval e X.env) :: starEach [] X.env := by rfl) (hpl : (backTo pos (starEach [] X.env)).any (·.1) = false := by rfl) : Xd X (.Call (.Name "str" p) [e] [] pos) ρ (.d (.str s)) := fun G =>
  x_callTy cr_str B.str (by decide +kernel) (xad_cons ha xa_nil he G) (fun xs G1 q => by rw [q.1, q.2]; exact co_strS ⟨rfl, rfl⟩) hg (by decide) (by decide) he hpl
theorem xl_listT {ds : List PyData} (B : Bn X.mg) (ha : Xd X e ρ (.d (.tuple ds))) (hg : Gl X "list" := by rfl) (he : starEach [e] X.env = (false, eval e X.env) :: starEach [] X.env := by rfl) (hpl : (backTo pos (starEach [] X.env)).any (·.1) = false := by rfl) : Xl X (.Call (.Name "list" p) [e] [] pos) ρ ds := fun G =>
  x_callTy call_list_of B.list (by decide +kernel) (xad_cons ha xa_nil he G) (fun xs G1 q => by rw [q.1, q.2]; exact co_listT) hg (by decide) (by decide) he hpl
theorem xl_listL {ds : List PyData} (B : Bn X.mg) (ha : Xd X e ρ (.d (.list ds))) (hg : Gl X "list" := by rfl) (he : starEach [e] X.env = (false, eval e X.env) :: starEach [] X.env := by rfl) (hpl : (backTo pos (starEach [] X.env)).any (·.1) = false := by rfl) : Xl X (.Call (.Name "list" p) [e] [] pos) ρ ds := fun G =>
  x_callTy call_list_of B.list (by decide +kernel) (xad_cons ha xa_nil he G) (fun xs G1 q => by rw [q.1, q.2]; exact co_listL) hg (by decide) (by decide) he hpl
theorem xd_tupL {ds : List PyData} (B : Bn X.mg) (ha : Xd X e ρ (.d (.list ds))) (hg : Gl X "tuple" := by rfl) (he : starEach [e] X.env = (false, eval e X.env) :: starEach [] X.env := by rfl) (hpl : (backTo pos (starEach [] X.env)).any (·.1) = false := by rfl) : Xd X (.Call (.Name "tuple" p) [e] [] pos) ρ (.d (.tuple ds)) := fun G =>
  x_callTy call_tupP B.tuple (by decide +kernel) (xad_cons ha xa_nil he G) (fun xs G1 q => by rw [q.1, q.2]; exact co_tupL ⟨rfl, rfl⟩) hg (by decide) (by decide) he hpl
/-- tuple(a list that is made on the way) -/
theorem xp_tupL {Φe : Pst} (B : Bn X.mg) (ha : Xp X e ρ G Φe) (h : ∀ y G2, Φe y G2 → ∃ ds, y = .d (.list ds) ∧ Φ (.d (.tuple ds)) G2) (hg : Gl X "tuple" := by rfl) (he : starEach [e] X.env = (false, eval e X.env) :: starEach [] X.env := by rfl) (hpl : (backTo pos (starEach [] X.env)).any (·.1) = false := by rfl) : Xp X (.Call (.Name "tuple" p) [e] [] pos) ρ G Φ :=
  x_callTy call_tupP B.tuple (by decide +kernel) (xa_last (Φl := fun xs G2 => ∃ ds, xs = [.d (.list ds)] ∧ Φ (.d (.tuple ds)) G2) ha (fun y G2 q => by obtain ⟨ds, e1, q1⟩ := h y G2 q; exact ⟨ds, by rw [e1], q1⟩) he) (fun xs G1 q => by obtain ⟨ds, e1, q1⟩ := q; rw [e1]; exact co_tupL q1) hg (by decide) (by decide) he hpl
theorem xp_tupC {l : Addr} {ds : List PyData} (B : Bn X.mg) (ha : Xd X e ρ (.a l)) (hm : (l, Cell.lst ds) ∈ G) (q : Φ (.d (.tuple ds)) G) (hg : Gl X "tuple" := by rfl) (he : starEach [e] X.env = (false, eval e X.env) :: starEach [] X.env := by rfl) (hpl : (backTo pos (starEach [] X.env)).any (·.1) = false := by rfl) : Xp X (.Call (.Name "tuple" p) [e] [] pos) ρ G Φ :=
  x_callTy call_tupP B.tuple (by decide +kernel) (xad_cons ha xa_nil he G) (fun xs G1 z => by rw [z.1, z.2]; exact co_tupC hm q) hg (by decide) (by decide) he hpl
theorem xd_min {i j : Int} (B : Bn X.mg) (ha : Xd X a ρ (.d (.int i))) (hb : Xd X b ρ (.d (.int j))) (hg : Gl X "min" := by rfl) (hc : X.calm = true := by rfl) (he : starEach [a, b] X.env = (false, eval a X.env) :: starEach [b] X.env := by rfl) (he2 : starEach [b] X.env = (false, eval b X.env) :: starEach [] X.env := by rfl) (hpl : (backTo pos (starEach [b] X.env)).any (·.1) = false := by rfl) :
    Xd X (.Call (.Name "min" p) [a, b] [] pos) ρ (.d (.int (if j < i then j else i))) := fun G =>
  x_callB (call_min2 hc) B.min (by decide +kernel) (xad_cons ha (xad_cons hb xa_nil he2) he G) (fun xs G1 q => by rw [q.1, q.2]; exact co_min ⟨rfl, rfl⟩) hg (by decide) (by decide) he hpl
theorem xd_sum {ns : List Int} (B : Bn X.mg) (ha : Xd X e ρ (.d (.list (ns.map PyData.int)))) (hg : Gl X "sum" := by rfl) (hc : X.calm = true := by rfl) (he : starEach [e] X.env = (false, eval e X.env) :: starEach [] X.env := by rfl) (hpl : (backTo pos (starEach [] X.env)).any (·.1) = false := by rfl) : Xd X (.Call (.Name "sum" p) [e] [] pos) ρ (.d (.int ns.sum)) := fun G =>
  x_callB (cr_sum hc) B.sum (by decide +kernel) (xad_cons ha xa_nil he G) (fun xs G1 q => by rw [q.1, q.2]; exact co_sum ⟨rfl, rfl⟩) hg (by decide) (by decide) he hpl
theorem xd_reprS {s : Str} (B : Bn X.mg) (ha : Xd X e ρ (.d (.str s))) (hz : (reprText s).length ≤ sizeLine) (hg : Gl X "repr" := by rfl) (he : starEach [e] X.env = (false, eval e X.env) :: starEach [] X.env := by rfl) (hpl : (backTo pos (starEach [] X.env)).any (·.1) = false := by rfl) : Xd X (.Call (.Name "repr" p) [e] [] pos) ρ (.d (.str (reprText s))) := fun G =>
  x_callB cr_repr B.repr (by decide +kernel) (xad_cons ha xa_nil he G) (fun xs G1 q => by rw [q.1, q.2]; exact co_repr hz ⟨rfl, rfl⟩) hg (by decide) (by decide) he hpl
theorem xd_reprD {d : PyData} (B : Bn X.mg) (hgd : X.A.guards = some []) (hu : X.A.units + 200 < cLine) (ha : Xd X e ρ (.d d)) (h0 : ∃ ds, d = .tuple ds ∨ d = .list ds) (h1 : d.showable = true) (h2 : d.hasDict = false) (h3 : d.depth ≤ 64) (h4 : d.shown.length ≤ sizeLine) (hg : Gl X "repr" := by rfl) (he : starEach [e] X.env = (false, eval e X.env) :: starEach [] X.env := by rfl)
    (hpl : (backTo pos (starEach [] X.env)).any (·.1) = false := by rfl) : Xd X (.Call (.Name "repr" p) [e] [] pos) ρ (.d (.str d.shown)) := fun G =>
  x_callB (cr_reprD hgd hu) B.repr (by decide +kernel) (xad_cons ha xa_nil he G) (fun xs G1 q => by rw [q.1, q.2]; exact co_reprD h0 h1 h2 h3 h4 ⟨rfl, rfl⟩) hg (by decide) (by decide) he hpl
/-! tests told by one answer -/
theorem xb_eqs {s t : Str} {r : Bool} (ha : Xd X a ρ (.d (.str s))) (hb : Xd X b ρ (.d (.str t))) (h : decide (s = t) = r) : Xb X (.Compare a [.Eq] [b] pos) ρ r := h ▸ xt_cmpD op_eq ha hb (fun _ => op_eqs) (nomark _)
theorem xb_nes {s t : Str} {r : Bool} (ha : Xd X a ρ (.d (.str s))) (hb : Xd X b ρ (.d (.str t))) (h : (!decide (s = t)) = r) : Xb X (.Compare a [.NotEq] [b] pos) ρ r := h ▸ xt_cmpD op_ne ha hb (fun _ => op_nes) (nomark _)
theorem xb_eqi {s t : Int} {r : Bool} (ha : Xd X a ρ (.d (.int s))) (hb : Xd X b ρ (.d (.int t))) (h : (decide (s = t)) = r) : Xb X (.Compare a [.Eq] [b] pos) ρ r := h ▸ xt_cmpD op_eq ha hb (fun _ => op_eqi) (nomark _)
theorem xb_lt {s t : Int} {r : Bool} (ha : Xd X a ρ (.d (.int s))) (hb : Xd X b ρ (.d (.int t))) (h : (decide (s < t)) = r) : Xb X (.Compare a [.Lt] [b] pos) ρ r := h ▸ xt_cmpD op_lt ha hb (fun _ => op_ii0 (fun _ => .rbl _) ⟨rfl, rfl⟩) (nomark _)
theorem xb_le {s t : Int} {r : Bool} (ha : Xd X a ρ (.d (.int s))) (hb : Xd X b ρ (.d (.int t))) (h : (decide (s ≤ t)) = r) : Xb X (.Compare a [.LtE] [b] pos) ρ r := h ▸ xt_cmpD op_le ha hb (fun _ => op_ii0 (fun _ => .rbl _) ⟨rfl, rfl⟩) (nomark _)
theorem xb_gt {s t : Int} {r : Bool} (ha : Xd X a ρ (.d (.int s))) (hb : Xd X b ρ (.d (.int t))) (h : (decide (t < s)) = r) : Xb X (.Compare a [.Gt] [b] pos) ρ r := h ▸ xt_cmpD op_gt ha hb (fun _ => op_ii0 (fun _ => .rbl _) ⟨rfl, rfl⟩) (nomark _)
theorem xb_ge {s t : Int} {r : Bool} (ha : Xd X a ρ (.d (.int s))) (hb : Xd X b ρ (.d (.int t))) (h : (decide (t ≤ s)) = r) : Xb X (.Compare a [.GtE] [b] pos) ρ r := h ▸ xt_cmpD op_ge ha hb (fun _ => op_ii0 (fun _ => .rbl _) ⟨rfl, rfl⟩) (nomark _)
theorem xb_isn {d : PyData} {r : Bool} {j : Nat} (ha : Xd X a ρ (.d d)) (h : isNo d = r) : Xb X (.Compare a [.Is] [.Constant .none j p] pos) ρ r := h ▸ xt_cmpD op_isN ha xd_none (fun _ => op_isn) (nomark _)
theorem xb_notn {d : PyData} {r : Bool} {j : Nat} (ha : Xd X a ρ (.d d)) (h : (!isNo d) = r) : Xb X (.Compare a [.IsNot] [.Constant .none j p] pos) ρ r := h ▸ xt_cmpD op_notN ha xd_none (fun _ => op_notn) (nomark _)
theorem xb_eqd {d d2 : PyData} (hu : X.A.units + 64 < cLine) (ha : Xd X a ρ (.d d)) (hb : Xd X b ρ (.d d2)) {r : Bool} (h1 : SeqAt.shaped d = true) (h2 : SeqAt.shaped d2 = true) (h : PyData.eqv d d2 = r) : Xb X (.Compare a [.Eq] [b] pos) ρ r := h ▸ xt_cmpD (op_eqD hu) ha hb (fun _ => op_eqdd h1 h2) (nomark _)
theorem xb_ned {d d2 : PyData} (hu : X.A.units + 64 < cLine) (ha : Xd X a ρ (.d d)) (hb : Xd X b ρ (.d d2)) {r : Bool} (h1 : SeqAt.shaped d = true) (h2 : SeqAt.shaped d2 = true) (h : (!PyData.eqv d d2) = r) : Xb X (.Compare a [.NotEq] [b] pos) ρ r := h ▸ xt_cmpD (op_neD hu) ha hb (fun _ => op_nedd h1 h2) (nomark _)
/-- the same as values -/
theorem xv_eqs {s t : Str} {r : Bool} (ha : Xd X a ρ (.d (.str s))) (hb : Xd X b ρ (.d (.str t))) (h : decide (s = t) = r) : Xd X (.Compare a [.Eq] [b] pos) ρ (.d (.bool r)) := h ▸ fun G => x_cmpD op_eq ha hb op_eqs (nomark _)
theorem xv_gt {s t : Int} {r : Bool} (ha : Xd X a ρ (.d (.int s))) (hb : Xd X b ρ (.d (.int t))) (h : decide (t < s) = r) : Xd X (.Compare a [.Gt] [b] pos) ρ (.d (.bool r)) := h ▸ fun G => x_cmpD op_gt ha hb (op_ii0 (fun _ => .rbl _) ⟨rfl, rfl⟩) (nomark _)
theorem xv_eqd {d d2 : PyData} (hu : X.A.units + 64 < cLine) (ha : Xd X a ρ (.d d)) (hb : Xd X b ρ (.d d2)) {r : Bool} (h1 : SeqAt.shaped d = true) (h2 : SeqAt.shaped d2 = true) (h : PyData.eqv d d2 = r) : Xd X (.Compare a [.Eq] [b] pos) ρ (.d (.bool r)) := h ▸ fun G => x_cmpD (op_eqD hu) ha hb (op_eqdd h1 h2) (nomark _)
theorem xd_if {t : Bool} {y : DV} (hc : Xb X c ρ t) (h1 : t = true → Xd X a ρ y) (h2 : t = false → Xd X b ρ y) : Xd X (.IfExp c a b pos) ρ y := fun G => xp_ifD hc (fun z => h1 z G) fun z => h2 z G
theorem Xd.g {y : DV} (h : Xd X e ρ y) : Xp X e ρ G (Is y G) := h G
theorem Xl.g {ds : List PyData} (h : Xl X e ρ ds) : Xp X e ρ G (New ds G) := h G
theorem xd_strR {x : Str} : ∀ G, R X.K (tC (.str x)) ρ G (Is (.d (.str x)) G) := fun G F σ B H Q c s k => k.ret (x := .d (.str x)) c (.rstr x) ⟨rfl, rfl⟩
theorem Xd.cast {y z : DV} (h : Xd X e ρ y) (q : y = z) : Xd X e ρ z := q ▸ h
theorem Xb.cast {y z : Bool} (h : Xb X e ρ y) (q : y = z) : Xb X e ρ z := q ▸ h
theorem Xl.cast {y z : List PyData} (h : Xl X e ρ y) (q : y = z) : Xl X e ρ z := q ▸ h
end
end Fsh

set_option Elab.async false
set_option linter.all false
set_option maxRecDepth 100000
namespace Fsh
open PySem PySem.Spec PyProof.Rows L2
section
variable {X : Cx} {e a b c o elt tg : Expr} {es : List Expr} {ρ : Env} {G : Store} {Φ : Pst} {pos p p2 apos : Pos} {scope : Scope} {own : List (Str × Nat)} {g : TG} {js : List Nat} {α : Type}
theorem take_map_snoc {xs : List α} {i : Nat} {x : α} {β : Type} (f : α → β) (h : xs[i]? = some x) : (xs.take (i + 1)).map f = (xs.take i).map f ++ [f x] := by
  rw [List.take_add_one, h, List.map_append]
  rfl
theorem take_fil_yes {xs : List α} {i : Nat} {x : α} {β : Type} (t : α → Bool) (f : α → β) (h : xs[i]? = some x) (ht : t x = true) : ((xs.take (i + 1)).filter t).map f = ((xs.take i).filter t).map f ++ [f x] := by
  rw [List.take_add_one, h, List.filter_append, List.map_append]
  simp [ht]
theorem take_fil_no {xs : List α} {i : Nat} {x : α} {β : Type} (t : α → Bool) (f : α → β) (h : xs[i]? = some x) (ht : t x = false) : ((xs.take (i + 1)).filter t).map f = ((xs.take i).filter t).map f := by
  rw [List.take_add_one, h, List.filter_append, List.map_append]
  simp [ht]
theorem of_map_at {xs : List α} {i : Nat} {enc : α → PyData} {d : PyData} (h : (xs.map enc)[i]? = some d) : ∃ x, xs[i]? = some x ∧ d = enc x := by
  rw [List.getElem?_map] at h
  cases z : xs[i]? with
  | none =>
    rw [z] at h
    cases h
  | some x =>
    rw [z] at h
    exact ⟨x, rfl, (Option.some.inj h).symm⟩
/-- [elt for x in a tuple] where every element is told -/
theorem xl_mapT (xs : List α) (enc out : α → PyData) (ρ' : α → Env) (hN : X.N.Nodup) (hl : Xd X e ρ (.d (.tuple (xs.map enc)))) (ok : BlkOk X.N X.env.scope scope own) (hg : ∀ (s : Shared) (H : Hp) (C : Addr) (cl : List (Str × Addr)) (fp : List Addr), PG (X.blk s H scope (compEnvC scope cl C X.env) fp) tg g) (hj : ∀ j ∈ js, j ∈ own.map (·.2)) (hz : xs.length ≤ 100000)
    (hr : ∀ x ∈ xs, RG X.K g js (.d (enc x)) (wipeE ρ (own.map (·.2))) (ρ' x)) (he : ∀ x ∈ xs, ∀ z : Fz, Xd (bx X scope z) elt (ρ' x) (.d (out x))) (hc : X.calm = true := by rfl) (hf : ∀ x, foldedSetIterable e X.env x = pure x := by intro _; rfl) : Xl X (.ListComp elt [⟨tg, e, [], 0⟩] scope pos) ρ (xs.map out) := fun G =>
  x_lcT (fun i acc G' => acc = (xs.take i).map out ∧ G' = G) hN hl ok hg hj (by rw [List.length_map]; exact hz) ⟨rfl, rfl⟩ (fun i d hd => by
    obtain ⟨x, hx, ed⟩ := of_map_at hd
    subst ed
    have hm := List.mem_of_getElem? hx
    exact ⟨ρ' x, hr x hm, fun acc G1 q => turn_each fun z => (he x hm z).to ⟨out x, rfl, by rw [q.1, take_map_snoc out hx], q.2⟩⟩)
    (fun l acc G3 q => ⟨l, rfl, by rw [q.1, q.2, List.length_map, List.take_length]⟩) hc hf
theorem xl_mapL (xs : List α) (enc out : α → PyData) (ρ' : α → Env) (hN : X.N.Nodup) (hl : Xd X e ρ (.d (.list (xs.map enc)))) (ok : BlkOk X.N X.env.scope scope own) (hg : ∀ (s : Shared) (H : Hp) (C : Addr) (cl : List (Str × Addr)) (fp : List Addr), PG (X.blk s H scope (compEnvC scope cl C X.env) fp) tg g) (hj : ∀ j ∈ js, j ∈ own.map (·.2)) (hz : xs.length ≤ 100000)
    (hr : ∀ x ∈ xs, RG X.K g js (.d (enc x)) (wipeE ρ (own.map (·.2))) (ρ' x)) (he : ∀ x ∈ xs, ∀ z : Fz, Xd (bx X scope z) elt (ρ' x) (.d (out x))) (hc : X.calm = true := by rfl) (hf : ∀ x, foldedSetIterable e X.env x = pure x := by intro _; rfl) : Xl X (.ListComp elt [⟨tg, e, [], 0⟩] scope pos) ρ (xs.map out) := fun G =>
  x_lcL (fun i acc G' => acc = (xs.take i).map out ∧ G' = G) hN hl ok hg hj (by rw [List.length_map]; exact hz) ⟨rfl, rfl⟩ (fun i d hd => by
    obtain ⟨x, hx, ed⟩ := of_map_at hd
    subst ed
    have hm := List.mem_of_getElem? hx
    exact ⟨ρ' x, hr x hm, fun acc G1 q => turn_each fun z => (he x hm z).to ⟨out x, rfl, by rw [q.1, take_map_snoc out hx], q.2⟩⟩)
    (fun l acc G3 q => ⟨l, rfl, by rw [q.1, q.2, List.length_map, List.take_length]⟩) hc hf
/-- [elt for x in xs if t] -/
theorem xl_filL (xs : List α) (enc out : α → PyData) (t : α → Bool) (ρ' : α → Env) (hN : X.N.Nodup) (hl : Xd X e ρ (.d (.list (xs.map enc)))) (ok : BlkOk X.N X.env.scope scope own) (hg : ∀ (s : Shared) (H : Hp) (C : Addr) (cl : List (Str × Addr)) (fp : List Addr), PG (X.blk s H scope (compEnvC scope cl C X.env) fp) tg g) (hj : ∀ j ∈ js, j ∈ own.map (·.2)) (hz : xs.length ≤ 100000)
    (hr : ∀ x ∈ xs, RG X.K g js (.d (enc x)) (wipeE ρ (own.map (·.2))) (ρ' x)) (ht : ∀ x ∈ xs, ∀ z : Fz, Xb (bx X scope z) c (ρ' x) (t x)) (he : ∀ x ∈ xs, t x = true → ∀ z : Fz, Xd (bx X scope z) elt (ρ' x) (.d (out x))) (hc : X.calm = true := by rfl) (hf : ∀ x, foldedSetIterable e X.env x = pure x := by intro _; rfl) : Xl X (.ListComp elt [⟨tg, e, [c], 0⟩] scope pos) ρ ((xs.filter t).map out) := fun G =>
  x_lcL (fun i acc G' => acc = ((xs.take i).filter t).map out ∧ G' = G) hN hl ok hg hj (by rw [List.length_map]; exact hz) ⟨rfl, rfl⟩ (fun i d hd => by
    obtain ⟨x, hx, ed⟩ := of_map_at hd
    subst ed
    have hm := List.mem_of_getElem? hx
    refine ⟨ρ' x, hr x hm, fun acc G1 q => turn_if (t := t x) (fun z => ht x hm z) (fun h1 z => (he x hm h1 z).to ⟨out x, rfl, by rw [q.1, take_fil_yes t out hx h1], q.2⟩) fun h2 => ⟨by rw [q.1, take_fil_no t out hx h2], q.2⟩⟩)
    (fun l acc G3 q => ⟨l, rfl, by rw [q.1, q.2, List.length_map, List.take_length]⟩) hc hf
theorem xl_filR (n : Nat) (out : Nat → PyData) (t : Nat → Bool) (ρ' : Nat → Env) (hN : X.N.Nodup) (hm : X.mg "range" = none) (hl : Xad X [e] ρ [.d (.int n)]) (hn : n ≤ 100000) (ok : BlkOk X.N X.env.scope scope own) (hg : ∀ (s : Shared) (H : Hp) (C : Addr) (cl : List (Str × Addr)) (fp : List Addr), PG (X.blk s H scope (compEnvC scope cl C X.env) fp) tg g) (hj : ∀ j ∈ js, j ∈ own.map (·.2))
    (hr : ∀ i : Nat, RG X.K g js (.d (.int (i : Nat))) (wipeE ρ (own.map (·.2))) (ρ' i)) (ht : ∀ i < n, ∀ z : Fz, Xb (bx X scope z) c (ρ' i) (t i)) (he : ∀ i < n, t i = true → ∀ z : Fz, Xd (bx X scope z) elt (ρ' i) (.d (out i))) (hgl : Gl X "range" := by rfl) (hc : X.calm = true := by rfl) (hst : starEach [e] X.env = [(false, eval e X.env)] := by rfl) (hf : ∀ x, foldedSetIterable (.Call (.Name "range" p) [e] [] p2) X.env x = pure x := by intro _; rfl) :
    Xl X (.ListComp elt [⟨tg, .Call (.Name "range" p) [e] [] p2, [c], 0⟩] scope pos) ρ (((List.range n).filter t).map out) := fun G =>
  x_lcR (fun m i acc G' => m = n ∧ acc = (((List.range n).take i).filter t).map out ∧ G' = G) hN hm (hl G) ok hg hj (fun xs G1 q => ⟨n, q.1, by omega, by omega, rfl, rfl, q.2⟩) (fun m i hi => by
    by_cases hin : i < n
    · have hx : (List.range n)[i]? = some i := List.getElem?_range hin
      refine ⟨ρ' i, hr i, fun acc G1 q => turn_if (t := t i) (fun z => ht i hin z) (fun h1 z => (he i hin h1 z).to ⟨out i, rfl, q.1, by rw [q.2.1, take_fil_yes t out hx h1], q.2.2⟩) fun h2 => ⟨q.1, by rw [q.2.1, take_fil_no t out hx h2], q.2.2⟩⟩
    · refine ⟨ρ' i, hr i, fun acc G1 q => ?_⟩
      have := q.1
      omega)
    (fun l m acc G3 q => ⟨l, rfl, by rw [q.2.1, q.2.2, q.1, Int.toNat_natCast, List.take_of_length_le (by rw [List.length_range]; exact Nat.le_refl _)]⟩) hgl hc hst hf
end
end Fsh

set_option Elab.async false
set_option linter.all false
set_option maxRecDepth 100000
namespace Fsh
open PySem PySem.Spec PyProof.Rows L2
section
variable {X : Cx} {e a b c o elt tg : Expr} {es : List Expr} {ρ : Env} {G : Store} {Φ : Pst} {pos p p2 apos : Pos} {scope : Scope} {own : List (Str × Nat)} {g : TG} {js : List Nat} {α : Type}
/-! ### told by one value at this store -/
abbrev Xi (X : Cx) (e : Expr) (ρ : Env) (G : Store) (x : DV) : Prop := Xp X e ρ G (Is x G)
abbrev Xti (X : Cx) (e : Expr) (ρ : Env) (G : Store) (b : Bool) : Prop := Xt X e ρ G (IsT b G)
theorem Xi.to {x : DV} (h : Xi X e ρ G x) (q : Φ x G) : Xp X e ρ G Φ := R.is h q
theorem Xi.cast {x y : DV} (h : Xi X e ρ G x) (q : x = y) : Xi X e ρ G y := q ▸ h
theorem xi_bin {op : Operator} {r : R2} {x y : DV} (ho : OpR X (binaryOp op) r) (ha : Xi X a ρ G x) (hb : Xi X b ρ G y) (hr : Op X.K r x y G Φ) : Xp X (.BinOp a op b pos) ρ G Φ := xp_of (pe_op ho pe_tw pe_tw) (r_opD ha hb hr)
theorem xi_add {i j : Int} (ha : Xi X a ρ G (.d (.int i))) (hb : Xi X b ρ G (.d (.int j))) : Xi X (.BinOp a .Add b pos) ρ G (.d (.int (i + j))) := xi_bin op_add ha hb (op_ii0 (fun _ => .rint _) ⟨rfl, rfl⟩)
theorem xi_fdiv {i j : Int} (ha : Xi X a ρ G (.d (.int i))) (hb : Xi X b ρ G (.d (.int j))) (hc : CDivN i j) : Xi X (.BinOp a .FloorDiv b pos) ρ G (.d (.int (i.fdiv j))) := xi_bin op_fdivN ha hb (op_ii hc (fun _ => .rint _) ⟨rfl, rfl⟩)
theorem xi_mod {i j : Int} (ha : Xi X a ρ G (.d (.int i))) (hb : Xi X b ρ G (.d (.int j))) (hc : j ≠ 0) : Xi X (.BinOp a .Mod b pos) ρ G (.d (.int (i.fmod j))) := xi_bin op_modN ha hb (op_ii (C := fun _ j => j ≠ 0) hc (fun _ => .rint _) ⟨rfl, rfl⟩)
theorem xti_cmp {op : CmpOp} {r : R2} {x y : DV} {t : Bool} (ho : OpR X (compareOp op) r) (ha : Xi X a ρ G x) (hb : Xi X b ρ G y) (hr : Op X.K r x y G (Is (.d (.bool t)) G)) (hm : behindInMarks op b = false) : Xti X (.Compare a [op] [b] pos) ρ G t :=
  xt_of (pt_cmpR ho pe_tw pe_tw hm) (rt_of (r_opD ha hb fun F B H v u Q c r1 r2 k => hr F B H v u Q c r1 r2 (k.imp fun z G2 q => ⟨t, q.1, rfl, q.2⟩)))
theorem xti_gt {s t : Int} {r : Bool} (ha : Xi X a ρ G (.d (.int s))) (hb : Xi X b ρ G (.d (.int t))) (h : decide (t < s) = r) : Xti X (.Compare a [.Gt] [b] pos) ρ G r := h ▸ xti_cmp op_gt ha hb (op_ii0 (fun _ => .rbl _) ⟨rfl, rfl⟩) (nomark _)
theorem xti_lt {s t : Int} {r : Bool} (ha : Xi X a ρ G (.d (.int s))) (hb : Xi X b ρ G (.d (.int t))) (h : decide (s < t) = r) : Xti X (.Compare a [.Lt] [b] pos) ρ G r := h ▸ xti_cmp op_lt ha hb (op_ii0 (fun _ => .rbl _) ⟨rfl, rfl⟩) (nomark _)
theorem xi_int {i : Int} (B : Bn X.mg) (ha : Xi X e ρ G (.d (.int i))) (hg : Gl X "int" := by rfl) (he : starEach [e] X.env = (false, eval e X.env) :: starEach [] X.env := by rfl) (hpl : (backTo pos (starEach [] X.env)).any (·.1) = false := by rfl) : Xi X (.Call (.Name "int" p) [e] [] pos) ρ G (.d (.int i)) :=
  x_callTy call_int1 B.int (by decide +kernel) (xa_last (Φl := fun xs G2 => xs = [.d (.int i)] ∧ G2 = G) ha (fun x G2 q => ⟨by rw [q.1], q.2⟩) he) (fun xs G1 q => by rw [q.1, q.2]; exact co_int ⟨rfl, rfl⟩) hg (by decide) (by decide) he hpl
theorem xi_if {t : Bool} {y : DV} (hc : Xti X c ρ G t) (h1 : t = true → Xi X a ρ G y) (h2 : t = false → Xi X b ρ G y) : Xi X (.IfExp c a b pos) ρ G y := xp_if hc (fun G1 q => by rw [q.2]; exact h1 q.1.symm) fun G1 q => by rw [q.2]; exact h2 q.1.symm
theorem xti_and {s t : Bool} (h1 : Xti X a ρ G s) (h2 : s = true → Xti X b ρ G t) : Xti X (.BoolOp .And [a, b] pos) ρ G (s && t) :=
  xt_w (xw_and h1 (fun G1 q => by rw [q.2]; have e := q.1; subst e; exact xw_one ((h2 rfl).imp fun z G2 w => ⟨by rw [w.1]; rfl, w.2⟩)) fun G1 q => by have e := q.1; subst e; exact ⟨rfl, q.2⟩)
theorem xti_or {s t : Bool} (h1 : Xti X a ρ G s) (h2 : s = false → Xti X b ρ G t) : Xti X (.BoolOp .Or [a, b] pos) ρ G (s || t) :=
  xt_w (xw_or h1 (fun G1 q => by rw [q.2]; have e := q.1; subst e; exact xw_one ((h2 rfl).imp fun z G2 w => ⟨by rw [w.1]; rfl, w.2⟩)) fun G1 q => by have e := q.1; subst e; exact ⟨rfl, q.2⟩)
theorem Xad.i {xs : List DV} (h : Xad X es ρ xs) : Xa X es ρ G (IsA xs G) := h G
theorem Xb.i {t : Bool} (h : Xb X e ρ t) : Xti X e ρ G t := h G
theorem xs_ifI {sa sb : List Stmt} {t : Bool} {N : Env → Store → Prop} (hc : Xti X c ρ G t) (h1 : t = true → Xss X sa ρ G N Φ) (h2 : t = false → Xss X sb ρ G N Φ) : Xs X (.If c sa sb pos) ρ G N Φ := xs_if hc (fun G1 q => by rw [q.2]; exact h1 q.1.symm) fun G1 q => by rw [q.2]; exact h2 q.1.symm
/-- xs.append(e), the list at the store's head -/
theorem xs_app1 {l : Addr} {xs : List PyData} {d : PyData} {pos2 : Pos} (ho : Xd X o ρ (.a l)) (he : Xd X e ρ (.d d)) (hz : xs.length < 100000) (hs : swapsWith (.Call (.Attribute o "append" apos) [e] [] pos) none pos2.line X.env = pure false := by rfl)
    (hb : attributeBase o "append" X.env (eval o X.env) = eval o X.env := by rfl) (hf : ((backTo pos (starEach [e] X.env)).all (fun x => !x.1) && (backToKw pos (keywordEach [] X.env)).all (fun x => x.1.isSome) && decide (([e] : List Expr).length + ([] : List Keyword).length + (if ([] : List Keyword).isEmpty then 0 else 1) < 30)) = true := by rfl)
    (hl : (apos.endLine == pos.line) = true := by rfl) (hst : starEach [e] X.env = (false, eval e X.env) :: starEach [] X.env := by rfl) (hp : (backTo pos (starEach [] X.env)).any (·.1) = false := by rfl) : Xs X (.Expr (.Call (.Attribute o "append" apos) [e] [] pos) pos2) ρ ((l, .lst xs) :: G) (At ρ ((l, .lst (xs ++ [d])) :: G)) Φ :=
  xs_expr (Φe := fun y G2 => G2 = (l, .lst (xs ++ [d])) :: G) (xp_append ho ⟨_, List.mem_cons_self⟩ (he _) (fun y G2 q => ⟨d, [], xs, G, q.1, q.2, hz, rfl⟩) hb hf hl hst hp) (fun x G2 q => ⟨rfl, q⟩) hs
/-- [elt for x in xs if t], at this store -/
theorem xi_filL (xs : List α) (enc out : α → PyData) (t : α → Bool) (ρ' : α → Env) (hN : X.N.Nodup) (hl : Xd X e ρ (.d (.list (xs.map enc)))) (ok : BlkOk X.N X.env.scope scope own) (hg : ∀ (s : Shared) (H : Hp) (C : Addr) (cl : List (Str × Addr)) (fp : List Addr), PG (X.blk s H scope (compEnvC scope cl C X.env) fp) tg g) (hj : ∀ j ∈ js, j ∈ own.map (·.2)) (hz : xs.length ≤ 100000)
    (hr : ∀ x ∈ xs, RG X.K g js (.d (enc x)) (wipeE ρ (own.map (·.2))) (ρ' x)) (ht : ∀ x ∈ xs, ∀ z : Fz, Xti (bx X scope z) c (ρ' x) G (t x)) (he : ∀ x ∈ xs, t x = true → ∀ z : Fz, Xi (bx X scope z) elt (ρ' x) G (.d (out x))) (hc : X.calm = true := by rfl) (hf : ∀ x, foldedSetIterable e X.env x = pure x := by intro _; rfl) : Xp X (.ListComp elt [⟨tg, e, [c], 0⟩] scope pos) ρ G (New ((xs.filter t).map out) G) :=
  x_lcL (fun i acc G' => acc = ((xs.take i).filter t).map out ∧ G' = G) hN hl ok hg hj (by rw [List.length_map]; exact hz) ⟨rfl, rfl⟩ (fun i d hd => by
    obtain ⟨x, hx, ed⟩ := of_map_at hd
    subst ed
    have hm := List.mem_of_getElem? hx
    refine ⟨ρ' x, hr x hm, fun acc G1 q => ?_⟩
    have e1 := q.2
    subst e1
    exact ⟨IsT (t x) G1, fun z => xts_one (ht x hm z), fun z G2 w => by rw [w.2]; exact (he x hm w.1.symm z).to ⟨out x, rfl, by rw [q.1, take_fil_yes t out hx w.1.symm], rfl⟩, fun G2 w => ⟨by rw [q.1, take_fil_no t out hx w.1.symm], w.2⟩⟩)
    (fun l acc G3 q => ⟨l, rfl, by rw [q.1, q.2, List.length_map, List.take_length]⟩) hc hf
end
/-- the store in another order -/
theorem Cfg.swap {K : PySem.W.Frag} {F B H : Hp} {G1 G2 : Store} (p : G1.Perm G2) (c : Cfg K F G1 B H) : Cfg K F G2 B H :=
  ⟨c.ex, c.fr, fun x hx => c.ce x (p.mem_iff.mpr hx), c.fb, fun x hx => c.gb x (p.mem_iff.mpr hx), fun x hx => c.gf x (p.mem_iff.mpr hx), (p.map _).nodup_iff.mp c.nd⟩
theorem R.swap {K : PySem.W.Frag} {t : TE} {ρ : Env} {G1 G2 : Store} {Φ : Pst} (p : G1.Perm G2) (h : R K t ρ G2 Φ) : R K t ρ G1 Φ := fun F σ B H Q c s k => h F σ B H Q (c.swap p) s k
theorem RS.swap {K : PySem.W.Frag} {t : TS} {ρ : Env} {G1 G2 : Store} {N : Env → Store → Prop} {Φ : Pst} (p : G1.Perm G2) (h : RS K t ρ G2 N Φ) : RS K t ρ G1 N Φ := fun F σ B H D c s n k => h F σ B H D (c.swap p) s n k
/-- a cell that nobody asks for any more -/
theorem Cfg.lose {K : PySem.W.Frag} {F B H : Hp} {G : Store} {x : Addr × Cell} (c : Cfg K F (x :: G) B H) : Cfg K F G B H :=
  ⟨c.ex, c.fr, fun y hy => c.ce y (List.mem_cons_of_mem _ hy), c.fb, fun y hy => c.gb y (List.mem_cons_of_mem _ hy), fun y hy => c.gf y (List.mem_cons_of_mem _ hy), (List.nodup_cons.mp (show (x.1 :: G.map (·.1)).Nodup from c.nd)).2⟩
theorem R.lose {K : PySem.W.Frag} {t : TE} {ρ : Env} {G : Store} {Φ : Pst} (h : R K t ρ G fun y G2 => ∃ x G3, G2 = x :: G3 ∧ Φ y G3) : R K t ρ G Φ := fun F σ B H Q c s k => h F σ B H Q c s fun v y G2 B2 H2 e c2 r q => by
  obtain ⟨x, G3, e1, p⟩ := q
  subst e1
  exact k v y G3 B2 H2 e c2.lose r p
end Fsh

set_option Elab.async false
set_option linter.all false
set_option maxRecDepth 100000
/-! A list comprehension, wherever it stands: as a value, or stored in a name at once. -/
namespace Fsh
open PySem PySem.Spec PyProof.Rows L2
section
variable {X : Cx} {e a b c o elt tg : Expr} {es : List Expr} {ρ : Env} {G : Store} {Φ : Pst} {pos p p2 apos : Pos} {scope : Scope} {own : List (Str × Nat)} {g : TG} {js : List Nat} {α : Type}
def LcP (X : Cx) (elt tg e : Expr) (ifs : List Expr) (scope : Scope) (ρ : Env) (G : Store) (Φ : Pst) : Prop :=
  ∃ (own : List (Str × Nat)) (wi : TI) (g : TG) (tt : TT) (te : TE), X.calm = true ∧ X.N.Nodup ∧ PI X tg e wi ∧ BlkOk X.N X.env.scope scope own ∧ (∀ (s : Shared) (H : Hp) (C : Addr) (cl : List (Str × Addr)) (fp : List Addr), PG (X.blk s H scope (compEnvC scope cl C X.env) fp) tg g) ∧
    (∀ (s : Shared) (H : Hp) (C : Addr) (cl : List (Str × Addr)) (fp : List Addr), PTs (X.blk s H scope (compEnvC scope cl C X.env) fp) ifs tt) ∧ (∀ (s : Shared) (H : Hp) (C : Addr) (cl : List (Str × Addr)) (fp : List Addr), PE (X.blk s H scope (compEnvC scope cl C X.env) fp) elt te) ∧
    (∀ x, foldedSetIterable e X.env x = pure x) ∧ R X.K (tLc wi g tt te (own.map (·.2))) ρ G Φ
theorem LcP.xp {ifs : List Expr} (h : LcP X elt tg e ifs scope ρ G Φ) : Xp X (.ListComp elt [⟨tg, e, ifs, 0⟩] scope pos) ρ G Φ := by
  obtain ⟨own, wi, g, tt, te, hc, hN, hi, ok, hg, ht, he, hs, r⟩ := h
  exact xp_of (pe_lc hc hN hi ok hg ht he hs) r
theorem xs_setLc (i : Nat) {ifs : List Expr} {y : Str} {py spos : Pos} {N : Env → Store → Prop} {Φe : Pst} (h : LcP X elt tg e ifs scope ρ G Φe) (q : ∀ y G2, Φe y G2 → N (ρ.set i (some y)) G2) (hy : X.N[i]? = some y := by rfl) (hyl : X.env.scope.names.lookup y = some .local := by rfl)
    (hsw : swapsWith (.ListComp elt [⟨tg, e, ifs, 0⟩] scope pos) (some (.Name y py)) spos.line X.env = pure true := by rfl) : Xs X (.Assign [.Name y py] (.ListComp elt [⟨tg, e, ifs, 0⟩] scope pos) spos) ρ G N Φ := by
  obtain ⟨own, wi, g, tt, te, hc, hN, hi, ok, hg, ht, he, hs, r⟩ := h
  exact xs_of (ps_setLc hc hN hy hyl hsw hi ok hg ht he hs) (rs_asg r fun y G2 z => ⟨_, rg_name, q y G2 z⟩)
theorem xs_setLcD (i : Nat) {ifs : List Expr} {y : Str} {py spos : Pos} {ds : List PyData} (h : ∀ G, LcP X elt tg e ifs scope ρ G (New ds G)) (hy : X.N[i]? = some y := by rfl) (hyl : X.env.scope.names.lookup y = some .local := by rfl)
    (hsw : swapsWith (.ListComp elt [⟨tg, e, ifs, 0⟩] scope pos) (some (.Name y py)) spos.line X.env = pure true := by rfl) : Xs X (.Assign [.Name y py] (.ListComp elt [⟨tg, e, ifs, 0⟩] scope pos) spos) ρ G (At (ρ.set i (some (.d (.list ds)))) G) Φ := by
  refine xs_setLc (Φe := Is (.d (.list ds)) G) i ?_ (fun z G2 q => ⟨by rw [q.1], q.2⟩) hy hyl hsw
  obtain ⟨own, wi, g, tt, te, hc, hN, hi, ok, hg, ht, he, hs, r⟩ := h G
  exact ⟨own, wi, g, tt, te, hc, hN, hi, ok, hg, ht, he, hs, r.gives⟩
theorem lc_L {tg elt : Expr} {ifs : List Expr} {scope : Scope} {own : List (Str × Nat)} {g : TG} {js : List Nat} {ds : List PyData} (I : Nat → List PyData → Store → Prop) (hN : X.N.Nodup) (hl : Xd X e ρ (.d (.list ds))) (ok : BlkOk X.N X.env.scope scope own)
    (hg : ∀ (s : Shared) (H : Hp) (C : Addr) (cl : List (Str × Addr)) (fp : List Addr), PG (X.blk s H scope (compEnvC scope cl C X.env) fp) tg g) (hj : ∀ j ∈ js, j ∈ own.map (·.2)) (hz : ds.length ≤ 100000) (h0 : I 0 [] G)
    (hs : ∀ i d, ds[i]? = some d → ∃ ρ2, RG X.K g js (.d d) (wipeE ρ (own.map (·.2))) ρ2 ∧ ∀ acc G1, I i acc G1 → Turn X scope ifs elt ρ2 G1 (I (i + 1)) acc) (hq : ∀ l acc G3, I ds.length acc G3 → Φ (.a l) ((l, .lst acc) :: G3))
    (hc : X.calm = true := by rfl) (hf : ∀ x, foldedSetIterable e X.env x = pure x := by intro _; rfl) : LcP X elt tg e ifs scope ρ G Φ :=
  ⟨own, _, g, blkT X scope ifs, blkE X scope elt, hc, hN, (pi_list pe_tw), ok, hg, (fun s H C cl fp => ⟨fun pins st σ H' Q I h => (h (s, H, C, cl, fp)).run pins st I⟩), (fun s H C cl fp => ⟨fun pins st σ H' Q I h => (h (s, H, C, cl, fp)).run pins st I⟩), hf,
    ((r_lcL I (hl G) hj hz h0 fun i d hd => by
      obtain ⟨ρ2, g1, b1⟩ := hs i d hd
      exact ⟨ρ2, g1, fun acc G1 q => (b1 acc G1 q).one⟩).imp fun y G2 ⟨l, acc, G3, e1, e2, q⟩ => by rw [e1, e2]; exact hq l acc G3 q)⟩
theorem lc_T {tg elt : Expr} {ifs : List Expr} {scope : Scope} {own : List (Str × Nat)} {g : TG} {js : List Nat} {ds : List PyData} (I : Nat → List PyData → Store → Prop) (hN : X.N.Nodup) (hl : Xd X e ρ (.d (.tuple ds))) (ok : BlkOk X.N X.env.scope scope own)
    (hg : ∀ (s : Shared) (H : Hp) (C : Addr) (cl : List (Str × Addr)) (fp : List Addr), PG (X.blk s H scope (compEnvC scope cl C X.env) fp) tg g) (hj : ∀ j ∈ js, j ∈ own.map (·.2)) (hz : ds.length ≤ 100000) (h0 : I 0 [] G)
    (hs : ∀ i d, ds[i]? = some d → ∃ ρ2, RG X.K g js (.d d) (wipeE ρ (own.map (·.2))) ρ2 ∧ ∀ acc G1, I i acc G1 → Turn X scope ifs elt ρ2 G1 (I (i + 1)) acc) (hq : ∀ l acc G3, I ds.length acc G3 → Φ (.a l) ((l, .lst acc) :: G3))
    (hc : X.calm = true := by rfl) (hf : ∀ x, foldedSetIterable e X.env x = pure x := by intro _; rfl) : LcP X elt tg e ifs scope ρ G Φ :=
  ⟨own, _, g, blkT X scope ifs, blkE X scope elt, hc, hN, (pi_tup pe_tw), ok, hg, (fun s H C cl fp => ⟨fun pins st σ H' Q I h => (h (s, H, C, cl, fp)).run pins st I⟩), (fun s H C cl fp => ⟨fun pins st σ H' Q I h => (h (s, H, C, cl, fp)).run pins st I⟩), hf,
    ((r_lcT I (hl G) hj hz h0 fun i d hd => by
      obtain ⟨ρ2, g1, b1⟩ := hs i d hd
      exact ⟨ρ2, g1, fun acc G1 q => (b1 acc G1 q).one⟩).imp fun y G2 ⟨l, acc, G3, e1, e2, q⟩ => by rw [e1, e2]; exact hq l acc G3 q)⟩
theorem lc_R {tg elt : Expr} {ifs : List Expr} {scope : Scope} {own : List (Str × Nat)} {g : TG} {js : List Nat} {Φl : List DV → Store → Prop} (I : Int → Nat → List PyData → Store → Prop) (hN : X.N.Nodup) (hm : X.mg "range" = none) (hl : Xa X [e] ρ G Φl) (ok : BlkOk X.N X.env.scope scope own)
    (hg : ∀ (s : Shared) (H : Hp) (C : Addr) (cl : List (Str × Addr)) (fp : List Addr), PG (X.blk s H scope (compEnvC scope cl C X.env) fp) tg g) (hj : ∀ j ∈ js, j ∈ own.map (·.2)) (h0 : ∀ xs G1, Φl xs G1 → ∃ n : Int, xs = [.d (.int n)] ∧ n ≤ 100000 ∧ -100000 ≤ n ∧ I n 0 [] G1)
    (hs : ∀ (n : Int) (i : Nat), (i : Int) < n → ∃ ρ2, RG X.K g js (.d (.int i)) (wipeE ρ (own.map (·.2))) ρ2 ∧ ∀ acc G1, I n i acc G1 → Turn X scope ifs elt ρ2 G1 (I n (i + 1)) acc) (hq : ∀ l (n : Int) acc G3, I n n.toNat acc G3 → Φ (.a l) ((l, .lst acc) :: G3))
    (hgl : Gl X "range" := by rfl) (hc : X.calm = true := by rfl) (hst : starEach [e] X.env = [(false, eval e X.env)] := by rfl) (hf : ∀ x, foldedSetIterable (.Call (.Name "range" p) [e] [] p2) X.env x = pure x := by intro _; rfl) : LcP X elt tg (.Call (.Name "range" p) [e] [] p2) ifs scope ρ G Φ :=
  ⟨own, _, g, blkT X scope ifs, blkE X scope elt, hc, hN, (pi_range1 hgl hm pa_tw hst), ok, hg, (fun s H C cl fp => ⟨fun pins st σ H' Q I h => (h (s, H, C, cl, fp)).run pins st I⟩), (fun s H C cl fp => ⟨fun pins st σ H' Q I h => (h (s, H, C, cl, fp)).run pins st I⟩), hf,
    ((r_lcR I hl hj h0 fun n i hi => by
      obtain ⟨ρ2, g1, b1⟩ := hs n i hi
      exact ⟨ρ2, g1, fun acc G1 q => (b1 acc G1 q).one⟩).imp fun y G2 ⟨l, acc, G3, e1, e2, n, q⟩ => by rw [e1, e2]; exact hq l n acc G3 q)⟩
theorem lm_mapT (xs : List α) (enc out : α → PyData) (ρ' : α → Env) (hN : X.N.Nodup) (hl : Xd X e ρ (.d (.tuple (xs.map enc)))) (ok : BlkOk X.N X.env.scope scope own) (hg : ∀ (s : Shared) (H : Hp) (C : Addr) (cl : List (Str × Addr)) (fp : List Addr), PG (X.blk s H scope (compEnvC scope cl C X.env) fp) tg g) (hj : ∀ j ∈ js, j ∈ own.map (·.2)) (hz : xs.length ≤ 100000)
    (hr : ∀ x ∈ xs, RG X.K g js (.d (enc x)) (wipeE ρ (own.map (·.2))) (ρ' x)) (he : ∀ x ∈ xs, ∀ z : Fz, Xd (bx X scope z) elt (ρ' x) (.d (out x))) (hc : X.calm = true := by rfl) (hf : ∀ x, foldedSetIterable e X.env x = pure x := by intro _; rfl) : ∀ G, LcP X elt tg e [] scope ρ G (New (xs.map out) G) := fun G =>
  lc_T (fun i acc G' => acc = (xs.take i).map out ∧ G' = G) hN hl ok hg hj (by rw [List.length_map]; exact hz) ⟨rfl, rfl⟩ (fun i d hd => by
    obtain ⟨x, hx, ed⟩ := of_map_at hd
    subst ed
    have hm := List.mem_of_getElem? hx
    exact ⟨ρ' x, hr x hm, fun acc G1 q => turn_each fun z => (he x hm z).to ⟨out x, rfl, by rw [q.1, take_map_snoc out hx], q.2⟩⟩)
    (fun l acc G3 q => ⟨l, rfl, by rw [q.1, q.2, List.length_map, List.take_length]⟩) hc hf
theorem lm_mapL (xs : List α) (enc out : α → PyData) (ρ' : α → Env) (hN : X.N.Nodup) (hl : Xd X e ρ (.d (.list (xs.map enc)))) (ok : BlkOk X.N X.env.scope scope own) (hg : ∀ (s : Shared) (H : Hp) (C : Addr) (cl : List (Str × Addr)) (fp : List Addr), PG (X.blk s H scope (compEnvC scope cl C X.env) fp) tg g) (hj : ∀ j ∈ js, j ∈ own.map (·.2)) (hz : xs.length ≤ 100000)
    (hr : ∀ x ∈ xs, RG X.K g js (.d (enc x)) (wipeE ρ (own.map (·.2))) (ρ' x)) (he : ∀ x ∈ xs, ∀ z : Fz, Xd (bx X scope z) elt (ρ' x) (.d (out x))) (hc : X.calm = true := by rfl) (hf : ∀ x, foldedSetIterable e X.env x = pure x := by intro _; rfl) : ∀ G, LcP X elt tg e [] scope ρ G (New (xs.map out) G) := fun G =>
  lc_L (fun i acc G' => acc = (xs.take i).map out ∧ G' = G) hN hl ok hg hj (by rw [List.length_map]; exact hz) ⟨rfl, rfl⟩ (fun i d hd => by
    obtain ⟨x, hx, ed⟩ := of_map_at hd
    subst ed
    have hm := List.mem_of_getElem? hx
    exact ⟨ρ' x, hr x hm, fun acc G1 q => turn_each fun z => (he x hm z).to ⟨out x, rfl, by rw [q.1, take_map_snoc out hx], q.2⟩⟩)
    (fun l acc G3 q => ⟨l, rfl, by rw [q.1, q.2, List.length_map, List.take_length]⟩) hc hf
theorem lm_filL (xs : List α) (enc out : α → PyData) (t : α → Bool) (ρ' : α → Env) (hN : X.N.Nodup) (hl : Xd X e ρ (.d (.list (xs.map enc)))) (ok : BlkOk X.N X.env.scope scope own) (hg : ∀ (s : Shared) (H : Hp) (C : Addr) (cl : List (Str × Addr)) (fp : List Addr), PG (X.blk s H scope (compEnvC scope cl C X.env) fp) tg g) (hj : ∀ j ∈ js, j ∈ own.map (·.2)) (hz : xs.length ≤ 100000)
    (hr : ∀ x ∈ xs, RG X.K g js (.d (enc x)) (wipeE ρ (own.map (·.2))) (ρ' x)) (ht : ∀ x ∈ xs, ∀ z : Fz, Xb (bx X scope z) c (ρ' x) (t x)) (he : ∀ x ∈ xs, t x = true → ∀ z : Fz, Xd (bx X scope z) elt (ρ' x) (.d (out x))) (hc : X.calm = true := by rfl) (hf : ∀ x, foldedSetIterable e X.env x = pure x := by intro _; rfl) : ∀ G, LcP X elt tg e [c] scope ρ G (New ((xs.filter t).map out) G) := fun G =>
  lc_L (fun i acc G' => acc = ((xs.take i).filter t).map out ∧ G' = G) hN hl ok hg hj (by rw [List.length_map]; exact hz) ⟨rfl, rfl⟩ (fun i d hd => by
    obtain ⟨x, hx, ed⟩ := of_map_at hd
    subst ed
    have hm := List.mem_of_getElem? hx
    refine ⟨ρ' x, hr x hm, fun acc G1 q => turn_if (t := t x) (fun z => ht x hm z) (fun h1 z => (he x hm h1 z).to ⟨out x, rfl, by rw [q.1, take_fil_yes t out hx h1], q.2⟩) fun h2 => ⟨by rw [q.1, take_fil_no t out hx h2], q.2⟩⟩)
    (fun l acc G3 q => ⟨l, rfl, by rw [q.1, q.2, List.length_map, List.take_length]⟩) hc hf
end
end Fsh

set_option Elab.async false
set_option linter.all false
set_option maxRecDepth 100000
namespace Fsh
open PySem PySem.Spec PyProof.Rows L2
/-! ### displays of dicts -/
inductive Xk (X : Cx) (ρ : Env) : List (Option Expr) → List Expr → List (TE × TE) → List (Key × DV) → Prop
  | nil : Xk X ρ [] [] [] []
  | cons {s : Str} {j : Nat} {p : Pos} {v : Expr} {y : DV} {ks : List (Option Expr)} {vs : List Expr} {trs : List (TE × TE)} {kvs : List (Key × DV)} (hv : Xd X v ρ y) (t : Xk X ρ ks vs trs kvs) : Xk X ρ (some (.Constant (.str s) j p) :: ks) (v :: vs) ((tC (.str s), tw X v) :: trs) ((.inr s, y) :: kvs)
section
variable {X : Cx} {e a b c o elt tg : Expr} {es : List Expr} {ρ : Env} {G : Store} {Φ : Pst} {pos p p2 apos : Pos} {scope : Scope} {own : List (Str × Nat)} {g : TG} {js : List Nat} {α : Type}
theorem Xk.pps : ∀ {ks : List (Option Expr)} {vs : List Expr} {trs : List (TE × TE)} {kvs : List (Key × DV)}, Xk X ρ ks vs trs kvs → PPs X pos ks vs trs
  | _, _, _, _, .nil => pps_nil
  | _, _, _, _, .cons hv t => pps_cons pe_str pe_tw t.pps
theorem Xk.lens : ∀ {ks : List (Option Expr)} {vs : List Expr} {trs : List (TE × TE)} {kvs : List (Key × DV)}, Xk X ρ ks vs trs kvs → ks.length = vs.length ∧ ks.length = kvs.length ∧ ks.all (·.isSome) = true
  | _, _, _, _, .nil => ⟨rfl, rfl, rfl⟩
  | _, _, _, _, .cons hv t => by
    obtain ⟨h1, h2, h3⟩ := t.lens
    exact ⟨congrArg (· + 1) h1, congrArg (· + 1) h2, by rw [List.all_cons, h3]; rfl⟩
theorem Xk.run : ∀ {ks : List (Option Expr)} {vs : List Expr} {trs : List (TE × TE)} {kvs : List (Key × DV)}, Xk X ρ ks vs trs kvs → ∀ F σ B H (Q : List (V × V) → Hp → Prop), Cfg X.K F G B H → Slots X.K B σ ρ →
    (∀ ws B2 H2, Evl.Ex B B2 → Cfg X.K F G B2 H2 → Kvs X.K B2 ws kvs → Q (ws.map fun kv => (kV kv.1, kv.2)) H2) → tPairs trs σ H Q
  | _, _, _, _, .nil, F, σ, B, H, Q, c, s, k => k [] B H (Evl.Ex.refl B) c .nil
  | _, _, _, _, .cons (s := x) hv t, F, σ, B, H, Q, c, s, k => hv G F σ B H _ c s fun v y G2 B2 H2 e2 c2 r2 q2 => by
    rw [q2.1] at r2
    rw [q2.2] at c2
    exact t.run F σ B2 H2 _ c2 (s.mono e2) fun ws B3 H3 e3 c3 r3 => k ((.inr x, v) :: ws) B3 H3 (e2.trans e3) c3 (.cons (r2.mono e3) r3)
def mergeD (kvs more : List (Key × DV)) : List (Key × DV) := more.foldl (fun acc kv => putD acc kv.1 kv.2) kvs
theorem Kvs.merge {K : PySem.W.Frag} {B : Hp} : ∀ {more : List (Key × V)} {mored : List (Key × DV)} {ws : List (Key × V)} {kvs : List (Key × DV)}, Kvs K B more mored → Kvs K B ws kvs → Kvs K B (mergeK ws more) (mergeD kvs mored)
  | _, _, _, _, .nil, q => q
  | _, _, _, _, .cons (k := kk) h t, q => by
    have r := Kvs.merge t (q.put (k := kk) h)
    exact r
theorem xp_disp {ks : List (Option Expr)} {vs : List Expr} {trs : List (TE × TE)} {kvs : List (Key × DV)} (h : Xk X ρ ks vs trs kvs) (h0 : ks ≠ []) (h15 : ks.length ≤ 15) (hd : mergeD [] kvs = kvs) (q : ∀ l, Φ (.a l) ((l, .dct kvs) :: G)) : Xp X (.Dict ks vs pos) ρ G Φ :=
  xp_of (pe_disp h.pps h.lens.2.2 h.lens.1 h0 h15) fun F σ B H Q c s k p hp =>
    h.run (G := (p, .dct []) :: G) F σ B _ _ (c.cell (x := .dct []) hp ⟨[], upd_same, .nil⟩) s fun ws B2 H2 e2 c2 r2 => by
      obtain ⟨w0, h1, h2⟩ := c2.ce (p, .dct []) List.mem_cons_self
      cases h2
      refine ⟨h1, ws, rfl, ?_, ?_⟩
      · have : ws.length = kvs.length := r2.len
        rw [this, ← h.lens.2.1]
        exact h15
      · have r3 := Kvs.merge r2 (Kvs.nil (K := X.K) (B := B2))
        rw [hd] at r3
        exact k _ (.a p) _ B2 _ e2 (c2.set (G1 := []) (x' := .dct kvs) ⟨_, upd_same, r3⟩) rfl (q p)
/-- the first value a new list -/
theorem xp_dispL {s0 : Str} {j0 : Nat} {p0 : Pos} {v0 : Expr} {ds : List PyData} {ks : List (Option Expr)} {vs : List Expr} {trs : List (TE × TE)} {kvs : List (Key × DV)} (hv : Xl X v0 ρ ds) (h : Xk X ρ ks vs trs kvs) (h15 : ks.length + 1 ≤ 15) (hd : ∀ c, mergeD [] ((.inr s0, .a c) :: kvs) = (.inr s0, .a c) :: kvs) (q : ∀ l c, Φ (.a l) ((c, .lst ds) :: (l, .dct ((.inr s0, .a c) :: kvs)) :: G)) : Xp X (.Dict (some (.Constant (.str s0) j0 p0) :: ks) (v0 :: vs) pos) ρ G Φ :=
  xp_of (pe_disp (pps_cons pe_str pe_tw h.pps) (by rw [List.all_cons, h.lens.2.2]; rfl) (congrArg (· + 1) h.lens.1) (by simp) h15) fun F σ B H Q c s k p hp =>
    hv ((p, .dct []) :: G) F σ B _ _ (c.cell (x := .dct []) hp ⟨[], upd_same, .nil⟩) s fun v y G1 B1 H1 e1 c1 r1 q1 => by
      obtain ⟨lc, ey, eG⟩ := q1
      subst eG
      subst ey
      have r1 : v = .ref lc := r1
      subst r1
      exact h.run F σ B1 H1 _ c1 (s.mono e1) fun ws B2 H2 e2 c2 r2 => by
        obtain ⟨w0, h1, h2⟩ := c2.ce (p, .dct []) (List.mem_cons_of_mem _ List.mem_cons_self)
        cases h2
        refine ⟨h1, (.inr s0, .ref lc) :: ws, rfl, ?_, ?_⟩
        · have : ws.length = kvs.length := r2.len
          rw [List.length_cons, this, ← h.lens.2.1]
          exact h15
        · have r3 := Kvs.merge (Kvs.cons (k := .inr s0) (x := .a lc) (v := .ref lc) rfl r2) (Kvs.nil (K := X.K) (B := B2))
          rw [hd lc] at r3
          exact k _ (.a p) _ B2 _ (e1.trans e2) (c2.set (G1 := [(lc, .lst ds)]) (x' := .dct ((.inr s0, .a lc) :: kvs)) ⟨_, upd_same, r3⟩) rfl (q p lc)
/-! ### told at this store -/
theorem xi_ixC {l : Addr} {ds : List PyData} {i : Int} {d : PyData} (ha : Xd X a ρ (.a l)) (hb : Xi X b ρ G (.d (.int i))) (hm : (l, Cell.lst ds) ∈ G) (h : atI ds i = some d) (hs : PlainIx b := by exact fun _ _ => rfl) : Xi X (.Subscript a b pos) ρ G (.d d) := xp_of (pe_ix ix_list pe_tw pe_tw hs) (r_opD (ha G) hb (op_ixC hm h ⟨rfl, rfl⟩))
theorem xi_cons {x : DV} {xs : List DV} (ha : Xi X e ρ G x) (hr : Xa X es ρ G (IsA xs G)) (hs : starEach (e :: es) X.env = (false, eval e X.env) :: starEach es X.env := by rfl) : Xa X (e :: es) ρ G (IsA (x :: xs) G) :=
  xa_cons (Φa := Is x G) (Φr := fun _ => IsA xs G) ha (fun x' G1 h => by rw [h.2]; exact hr) (fun x' G1 xs' G2 h1 h2 => ⟨by rw [h1.1, h2.1], h2.2⟩) hs
theorem xi_dget {l : Addr} {kvs : List (Key × DV)} {k : Key} {x : DV} (hu : X.A.units + 1 < cLine) (ho : Xd X o ρ (.a l)) (hi : Xd X e ρ (keyD k)) (hm : (l, Cell.dct kvs) ∈ G) (hk : look kvs k = some x) (hs : NoSl e := by exact fun _ _ => rfl) : Xi X (.Subscript o e pos) ρ G x := xp_dget hu ho hi hm hk ⟨rfl, rfl⟩ hs
theorem xi_lenC {l : Addr} {ds : List PyData} (B : Bn X.mg) (ha : Xd X e ρ (.a l)) (hm : (l, Cell.lst ds) ∈ G) (hg : Gl X "len" := by rfl) (he : starEach [e] X.env = (false, eval e X.env) :: starEach [] X.env := by rfl) (hpl : (backTo pos (starEach [] X.env)).any (·.1) = false := by rfl) : Xi X (.Call (.Name "len" p) [e] [] pos) ρ G (.d (.int ds.length)) :=
  xp_lenC B ha hm ⟨rfl, rfl⟩ hg he hpl
theorem xti_ge {s t : Int} {r : Bool} (ha : Xi X a ρ G (.d (.int s))) (hb : Xi X b ρ G (.d (.int t))) (h : decide (t ≤ s) = r) : Xti X (.Compare a [.GtE] [b] pos) ρ G r := h ▸ xti_cmp op_ge ha hb (op_ii0 (fun _ => .rbl _) ⟨rfl, rfl⟩) (nomark _)
/-- o[key] = a value, at this store; the dict stands behind G1 -/
theorem xs_dputI {l : Addr} {k : Key} {x : DV} {kvs : List (Key × DV)} {G1 G2 : Store} {pos' : Pos} (hu : X.A.units + 1 < cLine) (hv : Xi X a ρ (G1 ++ (l, .dct kvs) :: G2) x) (ho : Xd X o ρ (.a l)) (hi : Xd X e ρ (keyD k)) (hz : kvs.length ≤ 100000)
    (hs : swapsWith a (some (.Subscript o e pos')) pos.line X.env = pure false := by rfl) : Xs X (.Assign [.Subscript o e pos'] a pos) ρ (G1 ++ (l, .dct kvs) :: G2) (At ρ (G1 ++ (l, .dct (putD kvs k x)) :: G2)) Φ :=
  xs_dput hu hv ho hi (fun y G3 q => ⟨G1, kvs, G2, q.2, hz, rfl, by rw [q.1]⟩) hs
theorem xs_setI (i : Nat) {x : Str} {p' : Pos} {y : DV} (h : Xi X e ρ G y) (hN : X.N.Nodup) (hi : X.N[i]? = some x := by rfl) (hx : Loc X.env.scope x := by first | exact Or.inl rfl | exact Or.inr rfl)
    (hs : swapsWithSole [.Name x p'] e pos.line X.env = pure false := by rfl) (hw : swappedStores [.Name x p'] e X.env = pure none := by rfl) (hf : X.fn x = true ∨ X.env.scope.names.lookup x = some .local := by first | exact .inl rfl | exact .inr rfl) : Xs X (.Assign [.Name x p'] e pos) ρ G (At (ρ.set i (some y)) G) Φ :=
  xs_set i h (fun z G2 q => ⟨by rw [q.1], q.2⟩) hN hi hx hs hw hf
end
end Fsh

set_option Elab.async false
set_option linter.all false
set_option maxRecDepth 100000
namespace Fsh
open PySem PySem.Spec PyProof.Rows L2
theorem R.frame {K : PySem.W.Frag} {t : TE} {ρ : Env} {G1 G2 : Store} {Φ : Pst} (h : R K t ρ G2 fun y G3 => Φ y (G1 ++ G3)) : R K t ρ (G1 ++ G2) Φ := fun F σ B H Q c s k => by
  obtain ⟨F', c4, fr⟩ := c.frame
  exact h F' σ B H Q c4 s fun v y G5 B5 H5 e5 c5 r5 q5 => k v y _ B5 H5 e5 (fr G5 B5 H5 e5 c5) r5 q5
theorem R.swapI {K : PySem.W.Frag} {t : TE} {ρ : Env} {G1 G2 : Store} {y : DV} (p : G1.Perm G2) (h : R K t ρ G2 (Is y G2)) : R K t ρ G1 (Is y G1) := fun F σ B H Q c s k => h F σ B H Q (c.swap p) s fun v x G3 B3 H3 e3 c3 r3 q3 => by
  rw [q3.2] at c3
  exact k v x G1 B3 H3 e3 (c3.swap p.symm) r3 ⟨q3.1, rfl⟩
section
variable {X : Cx} {e a b c o elt tg : Expr} {es : List Expr} {ρ : Env} {G : Store} {Φ : Pst} {pos p p2 apos : Pos} {scope : Scope} {own : List (Str × Nat)} {g : TG} {js : List Nat} {α : Type}
/-- a list of the store, read as data by what gives no list -/
theorem xi_froz {l : Addr} {xs : List PyData} {G1 G2 : Store} {y : DV} (h : Xd X e (thawE l xs ρ) y) (hy : noLv y = true) : Xi X e ρ (G1 ++ (l, .lst xs) :: G2) y :=
  R.swapI (G2 := (G1 ++ G2) ++ [(l, .lst xs)]) (by
    rw [List.append_assoc]
    exact List.Perm.append_left G1 (List.perm_append_singleton _ _).symm)
    (R.frame (G2 := [(l, .lst xs)]) (xp_frozen (G := []) (Xd.to h ⟨hy, (fun p hp => by cases hp), rfl, rfl⟩)))
theorem xi_call {k : Nat} {x : Str} {ps : List Str} {Z : Spec} {xs : List DV} {y : DV} (Fx : Fn X.prog X.w X.K X.mg X.base k x ps Z) (hr : Room k X.A) (ha : Xa X (e :: es) ρ G (IsA xs G)) (h : ∀ G Φ, Φ y G → Z xs G Φ) (hg : Gl X x := by rfl) (hdb : (x == ("__debug__" : Str)) = false := by decide)
    (hst : starEach (e :: es) X.env = (false, eval e X.env) :: starEach es X.env := by rfl) (hpl : (backTo pos (starEach es X.env)).any (·.1) = false := by rfl) : Xi X (.Call (.Name x p) (e :: es) [] pos) ρ G y :=
  xp_call Fx hr ha (fun xs' G' q => ⟨[], G', rfl, by rw [q.1]; exact h _ _ ⟨rfl, q.2⟩⟩) hg hdb hst hpl
theorem xi_lst {ds : List PyData} (h : Xa X es ρ G (IsA (ds.map DV.d) G)) (hz : ds.length ≤ 100000) : Xi X (.List es pos) ρ G (.d (.list ds)) := R.gives (xp_lst h fun xs G2 q => ⟨ds, q.1, hz, fun l => ⟨l, rfl, by rw [q.2]⟩⟩)
theorem xi_tup {x1 : Nat} {ds : List PyData} (h : Xa X es ρ G (IsA (ds.map DV.d) G)) (hz : ds.length ≤ 100000) : Xi X (.Tuple es x1 pos) ρ G (.d (.tuple ds)) := xp_tup h fun xs G2 q => ⟨ds, q.1, hz, rfl, q.2⟩
theorem xi_cat {xs ys : List PyData} (ha : Xi X a ρ G (.d (.list xs))) (hb : Xi X b ρ G (.d (.list ys))) (hz : xs.length + ys.length ≤ 100000) : Xi X (.BinOp a .Add b pos) ρ G (.d (.list (xs ++ ys))) := R.gives (xi_bin op_catS ha hb (op_ll (Evl.sz_of hz)))
theorem xi_sub {i j : Int} (ha : Xi X a ρ G (.d (.int i))) (hb : Xi X b ρ G (.d (.int j))) : Xi X (.BinOp a .Sub b pos) ρ G (.d (.int (i - j))) := xi_bin op_sub ha hb (op_ii0 (fun _ => .rint _) ⟨rfl, rfl⟩)
theorem xi_min {i j : Int} (B : Bn X.mg) (ha : Xi X a ρ G (.d (.int i))) (hb : Xi X b ρ G (.d (.int j))) (hg : Gl X "min" := by rfl) (hc : X.calm = true := by rfl) (he : starEach [a, b] X.env = (false, eval a X.env) :: starEach [b] X.env := by rfl) (he2 : starEach [b] X.env = (false, eval b X.env) :: starEach [] X.env := by rfl) (hpl : (backTo pos (starEach [b] X.env)).any (·.1) = false := by rfl) :
    Xi X (.Call (.Name "min" p) [a, b] [] pos) ρ G (.d (.int (if j < i then j else i))) :=
  x_callB (call_min2 hc) B.min (by decide +kernel) (xi_cons ha (xi_cons hb (xa_nil G) he2) he) (fun xs G1 q => by rw [q.1, q.2]; exact co_min ⟨rfl, rfl⟩) hg (by decide) (by decide) he hpl
theorem xi_tupC {l : Addr} {ds : List PyData} (B : Bn X.mg) (ha : Xd X e ρ (.a l)) (hm : (l, Cell.lst ds) ∈ G) (hg : Gl X "tuple" := by rfl) (he : starEach [e] X.env = (false, eval e X.env) :: starEach [] X.env := by rfl) (hpl : (backTo pos (starEach [] X.env)).any (·.1) = false := by rfl) : Xi X (.Call (.Name "tuple" p) [e] [] pos) ρ G (.d (.tuple ds)) := xp_tupC B ha hm ⟨rfl, rfl⟩ hg he hpl
/-- a test of two where the first has a choice -/
theorem xt_cmpL {op : CmpOp} {r : R2} {Φe : Pst} {Φt : Bool → Store → Prop} {y : DV} (ho : OpR X (compareOp op) r) (ha : Xp X a ρ G Φe) (hb : Xd X b ρ y) (hr : ∀ x G2, Φe x G2 → Op X.K r x y G2 fun z G3 => ∃ t, z = .d (.bool t) ∧ Φt t G3) (hm : behindInMarks op b = false) : Xt X (.Compare a [op] [b] pos) ρ G Φt :=
  xt_cmp (Φb := fun x z G2 => z = y ∧ Φe x G2) ho ha (fun x G1 q => Xd.to hb ⟨rfl, q⟩) (fun x G1 z G2 q1 q2 => by rw [q2.1]; exact hr x G2 q2.2) hm
theorem xt_gtR {Φe : Pst} {Φt : Bool → Store → Prop} {n : Int} {j : Nat} (ha : Xp X a ρ G Φe) (h : ∀ y G2, Φe y G2 → ∃ i : Int, y = .d (.int i) ∧ Φt (decide (n < i)) G2) : Xt X (.Compare a [.Gt] [.Constant (.int n) j p] pos) ρ G Φt :=
  xt_cmpL op_gt ha xd_int (fun x G2 q => by
    obtain ⟨i, e1, q2⟩ := h x G2 q
    subst e1
    exact op_ii0 (z := .bool (decide (n < i))) (fun _ => .rbl _) ⟨_, rfl, q2⟩) (nomark _)
theorem xt_eqR {Φe : Pst} {Φt : Bool → Store → Prop} {n : Int} {j : Nat} (ha : Xp X a ρ G Φe) (h : ∀ y G2, Φe y G2 → ∃ i : Int, y = .d (.int i) ∧ Φt (decide (i = n)) G2) : Xt X (.Compare a [.Eq] [.Constant (.int n) j p] pos) ρ G Φt :=
  xt_cmpL op_eq ha xd_int (fun x G2 q => by
    obtain ⟨i, e1, q2⟩ := h x G2 q
    subst e1
    exact fun F B H v u Q c r1 r2 k => op_eqi F B H v u Q c r1 r2 (k.imp fun z G3 w => ⟨_, w.1, by rw [w.2]; exact q2⟩)) (nomark _)
theorem xs_setLcI (i : Nat) {ifs : List Expr} {y : Str} {py spos : Pos} {ds : List PyData} (h : LcP X elt tg e ifs scope ρ G (New ds G)) (hy : X.N[i]? = some y := by rfl) (hyl : X.env.scope.names.lookup y = some .local := by rfl)
    (hsw : swapsWith (.ListComp elt [⟨tg, e, ifs, 0⟩] scope pos) (some (.Name y py)) spos.line X.env = pure true := by rfl) : Xs X (.Assign [.Name y py] (.ListComp elt [⟨tg, e, ifs, 0⟩] scope pos) spos) ρ G (At (ρ.set i (some (.d (.list ds)))) G) Φ := by
  refine xs_setLc (Φe := Is (.d (.list ds)) G) i ?_ (fun z G2 q => ⟨by rw [q.1], q.2⟩) hy hyl hsw
  obtain ⟨own, wi, g, tt, te, hc, hN, hi, ok, hg, ht, he, hs, r⟩ := h
  exact ⟨own, wi, g, tt, te, hc, hN, hi, ok, hg, ht, he, hs, r.gives⟩
theorem lci_L {tg elt : Expr} {ifs : List Expr} {scope : Scope} {own : List (Str × Nat)} {g : TG} {js : List Nat} {ds : List PyData} (I : Nat → List PyData → Store → Prop) (hN : X.N.Nodup) (hl : Xi X e ρ G (.d (.list ds))) (ok : BlkOk X.N X.env.scope scope own)
    (hg : ∀ (s : Shared) (H : Hp) (C : Addr) (cl : List (Str × Addr)) (fp : List Addr), PG (X.blk s H scope (compEnvC scope cl C X.env) fp) tg g) (hj : ∀ j ∈ js, j ∈ own.map (·.2)) (hz : ds.length ≤ 100000) (h0 : I 0 [] G)
    (hs : ∀ i d, ds[i]? = some d → ∃ ρ2, RG X.K g js (.d d) (wipeE ρ (own.map (·.2))) ρ2 ∧ ∀ acc G1, I i acc G1 → Turn X scope ifs elt ρ2 G1 (I (i + 1)) acc) (hq : ∀ l acc G3, I ds.length acc G3 → Φ (.a l) ((l, .lst acc) :: G3))
    (hc : X.calm = true := by rfl) (hf : ∀ x, foldedSetIterable e X.env x = pure x := by intro _; rfl) : LcP X elt tg e ifs scope ρ G Φ :=
  ⟨own, _, g, blkT X scope ifs, blkE X scope elt, hc, hN, (pi_list pe_tw), ok, hg, (fun s H C cl fp => ⟨fun pins st σ H' Q I h => (h (s, H, C, cl, fp)).run pins st I⟩), (fun s H C cl fp => ⟨fun pins st σ H' Q I h => (h (s, H, C, cl, fp)).run pins st I⟩), hf,
    ((r_lcL I hl hj hz h0 fun i d hd => by
      obtain ⟨ρ2, g1, b1⟩ := hs i d hd
      exact ⟨ρ2, g1, fun acc G1 q => (b1 acc G1 q).one⟩).imp fun y G2 ⟨l, acc, G3, e1, e2, q⟩ => by rw [e1, e2]; exact hq l acc G3 q)⟩
theorem li_filL (xs : List α) (enc out : α → PyData) (t : α → Bool) (ρ' : α → Env) (hN : X.N.Nodup) (hl : Xi X e ρ G (.d (.list (xs.map enc)))) (ok : BlkOk X.N X.env.scope scope own) (hg : ∀ (s : Shared) (H : Hp) (C : Addr) (cl : List (Str × Addr)) (fp : List Addr), PG (X.blk s H scope (compEnvC scope cl C X.env) fp) tg g) (hj : ∀ j ∈ js, j ∈ own.map (·.2)) (hz : xs.length ≤ 100000)
    (hr : ∀ x ∈ xs, RG X.K g js (.d (enc x)) (wipeE ρ (own.map (·.2))) (ρ' x)) (ht : ∀ x ∈ xs, ∀ z : Fz, Xti (bx X scope z) c (ρ' x) G (t x)) (he : ∀ x ∈ xs, t x = true → ∀ z : Fz, Xi (bx X scope z) elt (ρ' x) G (.d (out x))) (hc : X.calm = true := by rfl) (hf : ∀ x, foldedSetIterable e X.env x = pure x := by intro _; rfl) : LcP X elt tg e [c] scope ρ G (New ((xs.filter t).map out) G) :=
  lci_L (fun i acc G' => acc = ((xs.take i).filter t).map out ∧ G' = G) hN hl ok hg hj (by rw [List.length_map]; exact hz) ⟨rfl, rfl⟩ (fun i d hd => by
    obtain ⟨x, hx, ed⟩ := of_map_at hd
    subst ed
    have hm := List.mem_of_getElem? hx
    refine ⟨ρ' x, hr x hm, fun acc G1 q => ?_⟩
    have e1 := q.2
    subst e1
    exact ⟨IsT (t x) G1, fun z => xts_one (ht x hm z), fun z G2 w => by rw [w.2]; exact (he x hm w.1.symm z).to ⟨out x, rfl, by rw [q.1, take_fil_yes t out hx w.1.symm], rfl⟩, fun G2 w => ⟨by rw [q.1, take_fil_no t out hx w.1.symm], w.2⟩⟩)
    (fun l acc G3 q => ⟨l, rfl, by rw [q.1, q.2, List.length_map, List.take_length]⟩) hc hf
end
end Fsh

set_option Elab.async false
set_option linter.all false
set_option maxRecDepth 100000
namespace Fsh
open PySem PySem.Spec PyProof.Rows L2
section
variable {K : PySem.W.Frag} {ρ : Env} {G : Store} {Φ : Pst} {tl te : TE} {tt : TT} {g : TG} {js vs : List Nat}
/-- [.. for .. in a list that has a choice] -/
theorem r_lcX {Φs : Pst} (P : List PyData → Prop) (I : List PyData → Nat → List PyData → Store → Prop) (hl : R K tl ρ G Φs) (hj : ∀ j ∈ js, j ∈ vs) (h0 : ∀ y G1, Φs y G1 → ∃ ds, y = .d (.list ds) ∧ ds.length ≤ 100000 ∧ P ds ∧ I ds 0 [] G1)
    (hs : ∀ ds, P ds → ∀ i d, ds[i]? = some d → ∃ ρ2, RG K g js (.d d) (wipeE ρ vs) ρ2 ∧ ∀ acc G1, I ds i acc G1 → Turn1 K tt te ρ2 G1 (I ds (i + 1)) acc) :
    R K (tLc (iList K tl) g tt te vs) ρ G fun y G2 => ∃ l acc G3, y = .a l ∧ G2 = (l, .lst acc) :: G3 ∧ ∃ ds, P ds ∧ I ds ds.length acc G3 := fun F σ B H Q c s k =>
  hl F σ B H _ c s fun v x G2 B2 H2 e c2 r q => by
    obtain ⟨ds, e1, hz, hP, h0⟩ := h0 x G2 q
    subst e1
    cases r with
    | rlst p rr =>
      rename_i a ws
      refine ⟨a, rfl, ⟨ws, Evl.ex_l c2.ex p⟩, fun D hD => ?_⟩
      have nF : F D = none := Ex.free c2.fr hD
      refine lc_list (xs := ws) (fun i H' => Mid K F B2 D (I ds i) i H') ⟨[], [], G2, B2, Evl.Ex.refl _, .nil, Nat.le_refl _, c2.hide hD, h0⟩
        (fun i H' _ ⟨av, acc, G1, B1, e1, ra, _, c1, p1⟩ => Evl.ex_l (e1.trans c1.ex) p) (fun i y H' hy m => ?_) fun H' m => ?_
      · obtain ⟨d, hd1, hd2⟩ := rr.back hy
        obtain ⟨ρ2, g1, b1⟩ := hs ds hP i d hd1
        have hi := (List.getElem?_eq_some_iff.mp hd1).1
        exact mid_turn nF (by omega) hj (s.mono e) (fun B1 e1 => hd2.mono e1) m g1 b1
      · rw [rr.len] at m
        exact mid_end nF m ((k.mono e).imp fun y G2 ⟨l, acc, G3, a, b, p⟩ => ⟨l, acc, G3, a, b, ds, hP, p⟩)
end
section
variable {X : Cx} {e a b c o elt tg : Expr} {es : List Expr} {ρ : Env} {G : Store} {Φ : Pst} {pos p p2 apos : Pos} {scope : Scope} {own : List (Str × Nat)} {g : TG} {js : List Nat} {α : Type}
theorem lcx_L {tg elt : Expr} {ifs : List Expr} {scope : Scope} {own : List (Str × Nat)} {g : TG} {js : List Nat} {Φs : Pst} (P : List PyData → Prop) (I : List PyData → Nat → List PyData → Store → Prop) (hN : X.N.Nodup) (hl : Xp X e ρ G Φs) (ok : BlkOk X.N X.env.scope scope own)
    (hg : ∀ (s : Shared) (H : Hp) (C : Addr) (cl : List (Str × Addr)) (fp : List Addr), PG (X.blk s H scope (compEnvC scope cl C X.env) fp) tg g) (hj : ∀ j ∈ js, j ∈ own.map (·.2)) (h0 : ∀ y G1, Φs y G1 → ∃ ds, y = .d (.list ds) ∧ ds.length ≤ 100000 ∧ P ds ∧ I ds 0 [] G1)
    (hs : ∀ ds, P ds → ∀ i d, ds[i]? = some d → ∃ ρ2, RG X.K g js (.d d) (wipeE ρ (own.map (·.2))) ρ2 ∧ ∀ acc G1, I ds i acc G1 → Turn X scope ifs elt ρ2 G1 (I ds (i + 1)) acc) (hq : ∀ l acc G3 ds, P ds → I ds ds.length acc G3 → Φ (.a l) ((l, .lst acc) :: G3))
    (hc : X.calm = true := by rfl) (hf : ∀ x, foldedSetIterable e X.env x = pure x := by intro _; rfl) : LcP X elt tg e ifs scope ρ G Φ :=
  ⟨own, _, g, blkT X scope ifs, blkE X scope elt, hc, hN, (pi_list pe_tw), ok, hg, (fun s H C cl fp => ⟨fun pins st σ H' Q I h => (h (s, H, C, cl, fp)).run pins st I⟩), (fun s H C cl fp => ⟨fun pins st σ H' Q I h => (h (s, H, C, cl, fp)).run pins st I⟩), hf,
    ((r_lcX P I hl hj h0 fun ds hP i d hd => by
      obtain ⟨ρ2, g1, b1⟩ := hs ds hP i d hd
      exact ⟨ρ2, g1, fun acc G1 q => (b1 acc G1 q).one⟩).imp fun y G2 ⟨l, acc, G3, e1, e2, ds, hP, q⟩ => by rw [e1, e2]; exact hq l acc G3 ds hP q)⟩
theorem xb_val {t : Bool} (h : Xd X e ρ (.d (.bool t))) (he : ∀ whole, isTrue e X.env whole = (do let v ← whole; standAt e.pos; holding [v] (truthy v)) := by intro _; rfl) : Xb X e ρ t := fun G => xt_of (pt_val pe_tw he) (rt_ofB (Xd.to h ⟨t, rfl, rfl, rfl⟩))
end
end Fsh

set_option Elab.async false
set_option linter.all false
set_option maxRecDepth 100000
namespace Fsh
open PySem PySem.Spec PyProof.Rows L2
theorem R.nd {K : PySem.W.Frag} {t : TE} {ρ : Env} {G : Store} {Φ : Pst} (h : (G.map (·.1)).Nodup → R K t ρ G Φ) : R K t ρ G Φ := fun F σ B H Q c s k => h c.nd F σ B H Q c s k
theorem r_slX {K : PySem.W.Frag} {te tlo : TE} {th : TO} {ρ : Env} {G : Store} {Φ Φl : Pst} {ds : List PyData} (h : R K te ρ G (Is (.d (.list ds)) G)) (hl : R K tlo ρ G Φl) (h2 : RO K th ρ none) (hq : ∀ y G2, Φl y G2 → ∃ i : Int, y = .d (.int i) ∧ Φ (.d (.list (cutD ds (some i) none))) G2) : R K (L2.tSl (rSlL K) te (tPart tlo) th) ρ G Φ :=
  R.give fun F σ B H Q c s k => h F σ B H _ c s fun v x G2 B2 H2 e c2 r q => by
    rw [q.1] at r
    rw [q.2] at c2
    refine hl F σ B2 H2 _ c2 (s.mono e) fun u y G3 B3 H3 e3 c3 r3 q3 => ?_
    obtain ⟨i, e1, p⟩ := hq y G3 q3
    subst e1
    cases r3
    refine ⟨i, rfl, ?_⟩
    refine h2 F σ B3 G3 H3 _ c3 (s.mono (e.trans e3)) fun B4 H4 e4 c4 => ?_
    cases r with
    | rlst pp z =>
      refine ⟨_, _, rfl, Evl.ex_l ((e3.trans e4).trans c4.ex) pp, fun l hl => ?_⟩
      exact k _ (.a l) _ B4 _ ((e.trans e3).trans e4) (c4.cell (x := .lst (cutD ds (some i) none)) hl ⟨_, upd_same, (cut_rps z (some i) none).mono (e3.trans e4)⟩) rfl ⟨l, _, G3, rfl, rfl, p⟩
section
variable {X : Cx} {e a b c o elt tg : Expr} {es : List Expr} {ρ : Env} {G : Store} {Φ : Pst} {pos p p2 apos : Pos}
theorem xp_slX {lo : Expr} {ds : List PyData} {Φl : Pst} (he : Xd X e ρ (.d (.list ds))) (hl : Xp X lo ρ G Φl) (hq : ∀ y G2, Φl y G2 → ∃ i : Int, y = .d (.int i) ∧ Φ (.d (.list (cutD ds (some i) none))) G2) : Xp X (.Subscript e (.Slice (some lo) none none p2) pos) ρ G Φ :=
  xp_of (pe_slice sl_list pe_tw (po_some pe_tw) po_none) (r_slX (he G) hl ro_none hq)
theorem xa_step {Φa : Pst} {Φl : List DV → Store → Prop} (ha : Xp X e ρ G Φa) (hr : ∀ x G1, Φa x G1 → Xa X es ρ G1 fun xs G2 => Φl (x :: xs) G2) (hs : starEach (e :: es) X.env = (false, eval e X.env) :: starEach es X.env := by rfl) : Xa X (e :: es) ρ G Φl :=
  xa_cons (Φr := fun x xs G2 => Φl (x :: xs) G2) ha hr (fun _ _ _ _ _ q => q) hs
theorem xa_end {Φl : List DV → Store → Prop} (q : Φl [] G) : Xa X [] ρ G Φl := (xa_nil G).imp fun xs G2 w => by rw [w.1, w.2]; exact q
/-- a list whose items have a choice, taken as data -/
theorem xp_lstG {Φl : List DV → Store → Prop} (h : Xa X es ρ G Φl) (hq : ∀ xs G2, Φl xs G2 → ∃ ds, xs = ds.map DV.d ∧ ds.length ≤ 100000 ∧ Φ (.d (.list ds)) G2) : Xp X (.List es pos) ρ G Φ :=
  R.give (xp_lst h fun xs G2 q => by
    obtain ⟨ds, e1, h1, p⟩ := hq xs G2 q
    exact ⟨ds, e1, h1, fun l => ⟨l, ds, G2, rfl, rfl, p⟩⟩)
theorem xp_catG {xs : List PyData} {Φb : Pst} (ha : Xd X a ρ (.d (.list xs))) (hb : Xp X b ρ G Φb) (hq : ∀ y G2, Φb y G2 → ∃ ys, y = .d (.list ys) ∧ xs.length + ys.length ≤ 100000 ∧ Φ (.d (.list (xs ++ ys))) G2) : Xp X (.BinOp a .Add b pos) ρ G Φ :=
  R.give (x_binR op_catS ha hb fun y G2 q => by
    obtain ⟨ys, e1, h1, p⟩ := hq y G2 q
    subst e1
    exact fun F B H v u Q c r1 r2 k => op_ll (Evl.sz_of h1) F B H v u Q c r1 r2 (k.imp fun z G3 ⟨l, e1, e2⟩ => ⟨l, _, G2, e1, e2, p⟩))
/-- a[i]: both have a choice -/
theorem xp_ixX {Φa : Pst} {Φb : DV → Pst} (ha : Xp X a ρ G Φa) (hb : ∀ x G1, Φa x G1 → Xp X b ρ G1 (Φb x)) (h : ∀ x G1 y G2, Φa x G1 → Φb x y G2 → ∃ ds i d, x = .d (.list ds) ∧ y = .d (.int i) ∧ atI ds i = some d ∧ Φ (.d d) G2) (hs : PlainIx b := by exact fun _ _ => rfl) : Xp X (.Subscript a b pos) ρ G Φ :=
  xp_of (pe_ix ix_list pe_tw pe_tw hs) (r_op ha hb fun x G1 y G2 q1 q2 => by
    obtain ⟨ds, i, d, e1, e2, e3, q3⟩ := h x G1 y G2 q1 q2
    subst e1 e2
    exact op_ixL e3 q3)
theorem thaw_ne {l q : Addr} {xs : List PyData} {i : Nat} (h : ρ[i]? = some (some (.a q))) (hne : q ≠ l) : (thawE l xs ρ)[i]? = some (some (.a q)) := by
  unfold thawE
  rw [List.getElem?_map, h]
  show some (if q = l then some (DV.d (.list xs)) else some (.a q)) = _
  rw [if_neg hne]
theorem xp_call0 {k : Nat} {x : Str} {Z : Spec} (Fx : Fn X.prog X.w X.K X.mg X.base k x [] Z) (hr : Room k X.A) (h : Z [] G Φ) (hg : Gl X x := by rfl) (hdb : (x == ("__debug__" : Str)) = false := by decide) : Xp X (.Call (.Name x p) [] [] pos) ρ G Φ := by
  obtain ⟨f, fd, F1, hm, hk, hb⟩ := Fx.ex
  refine xp_of (pe_call0 F1 hr hg hm hk hb .nil pass0 hdb) fun F σ B H Q c s kk => ?_
  exact ⟨F, G, B, [], _, c, .nil, h, kk⟩
end
end Fsh

set_option Elab.async false
set_option linter.all false
set_option maxRecDepth 100000
/-! Rows of records as plain Lean data, and the texts that are written of them. -/
namespace Rec
open PySem PySem.Spec PyProof.Rows L2 Fsh
/-! ### texts of bounded length -/
def lil (n : Int) : Prop := n.natAbs.log2 < 200
theorem lil.small {n : Int} (h : lil n) : n.natAbs.log2 < 1920 := Nat.lt_trans h (by decide)
def okS (k : Nat) (x : Str) : Prop := x.length ≤ k ∧ ∀ c ∈ x.cps.toList, c < 1114112
theorem okS.mono {j k : Nat} {x : Str} (h : okS j x) (l : j ≤ k) : okS k x := ⟨Nat.le_trans h.1 l, h.2⟩
theorem okS_app {j k : Nat} {x y : Str} (h : okS j x) (q : okS k y) : okS (j + k) (x ++ y) := by
  refine ⟨?_, fun c hc => ?_⟩
  · rw [PySem.strLen_append]
    exact Nat.add_le_add h.1 q.1
  · have hc : c ∈ (x.cps ++ y.cps).toList := hc
    rw [Array.toList_append, List.mem_append] at hc
    exact hc.elim (h.2 c) (q.2 c)
theorem okS_of (s : String) {k : Nat} (h : s.length ≤ k) : okS k (s : Str) := by
  refine ⟨by rw [PySem.ofString_length]; exact h, fun c hc => ?_⟩
  rw [PySem.Str.ofString_eq_toList] at hc
  have hc : c ∈ (s.toList.map Char.toNat) := by simpa using hc
  obtain ⟨d, _, e⟩ := List.mem_map.mp hc
  subst e
  have hv := d.valid
  have h3 : d.toNat.isValidChar := hv
  rcases h3 with h3 | h3
  · exact Nat.lt_trans h3 (by decide)
  · exact h3.2
def intT (n : Int) : Str := (toString n : String)
theorem okS_int {n : Int} (h : lil n) : okS 201 (intT n) := okS_of _ (PySem.int_text_length_le (k := 200) (by decide) h)
theorem okS_lit (s : String) : okS s.length (s : Str) := okS_of s (Nat.le_refl _)
theorem okS_empty : okS 0 Str.empty := ⟨Nat.le_refl _, fun c hc => by cases hc⟩
theorem okS_jn {j k : Nat} {sep : Str} (hs : okS j sep) : ∀ {ys : List Str}, (∀ y ∈ ys, okS k y) → okS (ys.length * (k + j)) (Str.join sep ys)
  | [], _ => okS_empty.mono (Nat.zero_le _)
  | [x], h => (h x List.mem_cons_self).mono (by rw [List.length_singleton]; omega)
  | x :: y :: r, h => by
    have h1 := h x List.mem_cons_self
    have h2 := okS_jn hs (ys := y :: r) fun z hz => h z (List.mem_cons_of_mem _ hz)
    refine (okS_app (okS_app h1 hs) h2).mono ?_
    rw [List.length_cons (a := x), Nat.succ_mul]
    omega
theorem okS_join {j k : Nat} {sep : Str} (hs : okS j sep) {ys : List Str} (h : ∀ y ∈ ys, okS k y) : okS (ys.length * (k + j)) (Txt.join sep ys) := by
  rw [show Txt.join sep ys = Str.join sep ys from StrLaws.glued_eq_join sep ys]
  exact okS_jn hs h
theorem sum_len {k : Nat} : ∀ {ys : List Str}, (∀ y ∈ ys, okS k y) → (ys.map (·.length)).sum ≤ ys.length * k
  | [], _ => Nat.zero_le _
  | x :: r, h => by
    have h1 := (h x List.mem_cons_self).1
    have h2 := sum_len (ys := r) fun z hz => h z (List.mem_cons_of_mem _ hz)
    rw [List.map_cons, List.sum_cons, List.length_cons, Nat.succ_mul]
    omega
theorem okS_repr {k : Nat} {x : Str} (h : okS k x) : (reprText x).length ≤ 10 * k + 2 := by
  have := StrLaws.reprText_len x fun c hc => Nat.lt_of_lt_of_le (h.2 c hc) (by decide)
  have := h.1
  omega

/-! ### rows -/
abbrev Fil := Int × Int × Option Int
inductive RowM where
  | order (m s : Str) (p z : Int) (fs : List Fil)
  | cancel (n : Int)
  | prints (fs : List Fil)
  | closed
  | call (p : Option Int) (ps : List (Int × Int))
def optD : Option Int → PyData
  | none => .none
  | some n => .int n
def filD (f : Fil) : PyData := .tuple [.int f.1, .int f.2.1, optD f.2.2]
def pairD (p : Int × Int) : PyData := .tuple [.int p.1, .int p.2]
def rowD : RowM → PyData
  | .order m s p z fs => .tuple [.str "order", .str m, .str s, .int p, .int z, .tuple (fs.map filD)]
  | .cancel n => .tuple [.str "cancel", .int n]
  | .prints fs => .tuple [.str "prints", .tuple (fs.map filD)]
  | .closed => .tuple [.str "closed"]
  | .call p ps => .tuple [.str "call", optD p, .tuple (ps.map pairD)]
def optT : Option Int → Str
  | none => "-"
  | some n => intT n
def filT (f : Fil) : Str := intT f.1 ++ "*" ++ intT f.2.1 ++ "@" ++ optT f.2.2
def pairT (p : Int × Int) : Str := intT p.2 ++ "@" ++ intT p.1
abbrev u (s : String) : Str := Str.ofString s
def rowW : RowM → List Str
  | .order m s p z fs => [u "order", m, s, intT p, intT z] ++ fs.map filT
  | .cancel n => [u "cancel", intT n]
  | .prints fs => [u "prints"] ++ fs.map filT
  | .closed => [u "closed"]
  | .call p ps => [u "call", optT p] ++ ps.map pairT
def rowT (r : RowM) : Str := Txt.join (u " ") (rowW r)
def recT (rule : Str) (rows : List RowM) : Str := Txt.join (u "\n") ((u "record " ++ rule) :: rows.map rowT)
def lilO (o : Option Int) : Prop := ∀ n, o = some n → lil n
def okF (f : Fil) : Prop := lil f.1 ∧ lil f.2.1 ∧ lilO f.2.2
def okFs (fs : List Fil) : Prop := fs.length ≤ 30 ∧ ∀ f ∈ fs, okF f
def okP (p : Int × Int) : Prop := lil p.1 ∧ lil p.2
def okR : RowM → Prop
  | .order m s p z fs => okS 8 m ∧ okS 8 s ∧ lil p ∧ lil z ∧ okFs fs
  | .cancel n => lil n
  | .prints fs => okFs fs
  | .closed => True
  | .call p ps => lilO p ∧ ps.length ≤ 30 ∧ ∀ q ∈ ps, okP q
theorem okS_opt {o : Option Int} (h : lilO o) : okS 201 (optT o) := by
  cases o with
  | none => exact (okS_lit "-").mono (by decide)
  | some n => exact okS_int (h n rfl)
theorem okS_fil {f : Fil} (h : okF f) : okS 605 (filT f) := (okS_app (okS_app (okS_app (okS_app (okS_int h.1) (okS_lit "*")) (okS_int h.2.1)) (okS_lit "@")) (okS_opt h.2.2)).mono (by decide)
theorem okS_pair {p : Int × Int} (h : okP p) : okS 605 (pairT p) := (okS_app (okS_app (okS_int h.2) (okS_lit "@")) (okS_int h.1)).mono (by decide)
theorem okW {r : RowM} (h : okR r) : (rowW r).length ≤ 35 ∧ ∀ y ∈ rowW r, okS 605 y := by
  cases r with
  | order m s p z fs =>
    obtain ⟨h1, h2, h3, h4, h5, h6⟩ := h
    refine ⟨by unfold rowW; rw [List.length_append, List.length_map]; show 5 + fs.length ≤ 35; omega, fun y hy => ?_⟩
    rcases List.mem_append.mp (show y ∈ _ ++ _ from hy) with hy | hy
    · simp only [List.mem_cons, List.not_mem_nil, or_false] at hy
      rcases hy with e | e | e | e | e <;> subst e
      · exact (okS_lit "order").mono (by decide)
      · exact h1.mono (by decide)
      · exact h2.mono (by decide)
      · exact (okS_int h3).mono (by decide)
      · exact (okS_int h4).mono (by decide)
    · obtain ⟨f, hf, e⟩ := List.mem_map.mp hy
      subst e
      exact okS_fil (h6 f hf)
  | cancel n =>
    refine ⟨by show 2 ≤ 35; omega, fun y hy => ?_⟩
    simp only [rowW, List.mem_cons, List.not_mem_nil, or_false] at hy
    rcases hy with e | e <;> subst e
    · exact (okS_lit "cancel").mono (by decide)
    · exact (okS_int h).mono (by decide)
  | prints fs =>
    obtain ⟨h5, h6⟩ := h
    refine ⟨by unfold rowW; rw [List.length_append, List.length_map]; show 1 + fs.length ≤ 35; omega, fun y hy => ?_⟩
    rcases List.mem_append.mp (show y ∈ _ ++ _ from hy) with hy | hy
    · simp only [List.mem_cons, List.not_mem_nil, or_false] at hy
      subst hy
      exact (okS_lit "prints").mono (by decide)
    · obtain ⟨f, hf, e⟩ := List.mem_map.mp hy
      subst e
      exact okS_fil (h6 f hf)
  | closed =>
    refine ⟨by show 1 ≤ 35; omega, fun y hy => ?_⟩
    simp only [rowW, List.mem_cons, List.not_mem_nil, or_false] at hy
    subst hy
    exact (okS_lit "closed").mono (by decide)
  | call p ps =>
    obtain ⟨h1, h5, h6⟩ := h
    refine ⟨by unfold rowW; rw [List.length_append, List.length_map]; show 2 + ps.length ≤ 35; omega, fun y hy => ?_⟩
    rcases List.mem_append.mp (show y ∈ _ ++ _ from hy) with hy | hy
    · simp only [List.mem_cons, List.not_mem_nil, or_false] at hy
      rcases hy with e | e <;> subst e
      · exact (okS_lit "call").mono (by decide)
      · exact (okS_opt h1).mono (by decide)
    · obtain ⟨f, hf, e⟩ := List.mem_map.mp hy
      subst e
      exact okS_pair (h6 f hf)
theorem okT {r : RowM} (h : okR r) : okS 22000 (rowT r) := (okS_join (okS_lit " ") (okW h).2).mono (by
  have := (okW h).1
  have e : (" " : String).length = 1 := by decide
  rw [e]
  omega)
theorem okRec {rule : Str} {rows : List RowM} (h0 : okS 8 rule) (h1 : rows.length ≤ 40) (h : ∀ r ∈ rows, okR r) : okS 1000000 (recT rule rows) := by
  refine (okS_join (okS_lit "\n") (k := 22000) (ys := (u "record " ++ rule) :: rows.map rowT) fun y hy => ?_).mono ?_
  · rcases List.mem_cons.mp hy with e | hy
    · subst e
      exact (okS_app (okS_lit "record ") h0).mono (by decide)
    · obtain ⟨r, hr, e⟩ := List.mem_map.mp hy
      subst e
      exact okT (h r hr)
  · have e : ("\n" : String).length = 1 := by decide
    rw [e, List.length_cons, List.length_map]
    omega
end Rec

set_option Elab.async false
set_option linter.all false
set_option maxRecDepth 100000
/-! What orders of rows traded, what rests of them, which are open: plain Lean. -/
namespace Rec
open PySem PySem.Spec PyProof.Rows L2 Fsh
def filsOf : RowM → List Fil
  | .order _ _ _ _ fs => fs
  | .prints fs => fs
  | _ => []
def isOrd : RowM → Bool
  | .order .. => true
  | _ => false
def pairsOf : RowM → List (Int × Int)
  | .call _ ps => ps
  | _ => []
def one (s : Nat) (o : Bool) (f : Fil) : List (Int × Int) := (if o = true then [((s : Int), f.2.1)] else []) ++ (match f.2.2 with | some n => [(n, f.2.1)] | none => [])
def trFs (s : Nat) (o : Bool) (fs : List Fil) : List (Int × Int) := (fs.map (one s o)).flatten
def cutF (r : RowM) (t i : Int) (s : Nat) : List Fil := (filsOf r).take (if (s : Int) < t then (filsOf r).length else i.toNat)
def trAt (rows : List RowM) (t i : Int) (s : Nat) : List (Int × Int) := match rows[s]? with
  | none => []
  | some r => trFs s (isOrd r) (cutF r t i s) ++ (if (s : Int) < t then pairsOf r else [])
def trUp (rows : List RowM) (t i : Int) (s : Nat) : List (Int × Int) := ((List.range s).map (trAt rows t i)).flatten
def turns (rows : List RowM) (t : Int) : Int := if (rows.length : Int) < t + 1 then rows.length else t + 1
def trades (rows : List RowM) (t i : Int) : List (Int × Int) := trUp rows t i (turns rows t).toNat
def okRs (rows : List RowM) : Prop := rows.length ≤ 40 ∧ ∀ r ∈ rows, okR r
theorem trUp_succ (rows : List RowM) (t i : Int) (s : Nat) : trUp rows t i (s + 1) = trUp rows t i s ++ trAt rows t i s := by
  unfold trUp
  rw [List.range_succ, List.map_append, List.flatten_append]
  simp
theorem trFs_snoc (s : Nat) (o : Bool) (fs : List Fil) (j : Nat) {f : Fil} (h : fs[j]? = some f) : trFs s o (fs.take (j + 1)) = trFs s o (fs.take j) ++ one s o f := by
  unfold trFs
  rw [List.take_add_one, h, List.map_append, List.flatten_append]
  simp
theorem one_len (s : Nat) (o : Bool) (f : Fil) : (one s o f).length ≤ 2 := by
  unfold one
  rw [List.length_append]
  have h1 : (if o = true then [((s : Int), f.2.1)] else []).length ≤ 1 := by split <;> simp
  have h2 : (match f.2.2 with | some n => [(n, f.2.1)] | none => ([] : List (Int × Int))).length ≤ 1 := by split <;> simp
  omega
theorem trFs_len (s : Nat) (o : Bool) : ∀ fs : List Fil, (trFs s o fs).length ≤ 2 * fs.length
  | [] => Nat.zero_le _
  | f :: fs => by
    unfold trFs
    rw [List.map_cons, List.flatten_cons, List.length_append]
    have h1 := one_len s o f
    have h2 := trFs_len s o fs
    unfold trFs at h2
    rw [List.length_cons]
    omega
theorem filsOf_ok {r : RowM} (h : okR r) : okFs (filsOf r) := by
  cases r with
  | order m s p z fs => exact h.2.2.2.2
  | cancel n => exact ⟨Nat.zero_le _, fun f hf => by cases hf⟩
  | prints fs => exact h
  | closed => exact ⟨Nat.zero_le _, fun f hf => by cases hf⟩
  | call p ps => exact ⟨Nat.zero_le _, fun f hf => by cases hf⟩
theorem pairsOf_ok {r : RowM} (h : okR r) : (pairsOf r).length ≤ 30 ∧ ∀ q ∈ pairsOf r, okP q := by
  cases r with
  | call p ps => exact h.2
  | order m s p z fs => exact ⟨Nat.zero_le _, fun f hf => by cases hf⟩
  | cancel n => exact ⟨Nat.zero_le _, fun f hf => by cases hf⟩
  | prints fs => exact ⟨Nat.zero_le _, fun f hf => by cases hf⟩
  | closed => exact ⟨Nat.zero_le _, fun f hf => by cases hf⟩
theorem cutF_len (r : RowM) (t i : Int) (s : Nat) : (cutF r t i s).length ≤ (filsOf r).length := by
  unfold cutF
  rw [List.length_take]
  omega
theorem trAt_len {rows : List RowM} (h : okRs rows) (t i : Int) (s : Nat) : (trAt rows t i s).length ≤ 90 := by
  unfold trAt
  cases z : rows[s]? with
  | none => exact Nat.zero_le _
  | some r =>
    have hr := h.2 r (List.mem_of_getElem? z)
    have h1 := trFs_len s (isOrd r) (cutF r t i s)
    have h2 := cutF_len r t i s
    have h3 := (filsOf_ok hr).1
    have h4 := (pairsOf_ok hr).1
    show (trFs s (isOrd r) (cutF r t i s) ++ (if (s : Int) < t then pairsOf r else [])).length ≤ 90
    rw [List.length_append]
    have h5 : (if (s : Int) < t then pairsOf r else []).length ≤ 30 := by
      split
      · exact h4
      · exact Nat.zero_le _
    omega
theorem trUp_len {rows : List RowM} (h : okRs rows) (t i : Int) : ∀ s : Nat, (trUp rows t i s).length ≤ 90 * s
  | 0 => Nat.le_refl _
  | s + 1 => by
    rw [trUp_succ, List.length_append]
    have h1 := trUp_len h t i s
    have h2 := trAt_len h t i s
    omega
theorem turns_le (rows : List RowM) (t : Int) : turns rows t ≤ rows.length := by
  unfold turns
  split <;> omega
theorem trades_len {rows : List RowM} (h : okRs rows) (t i : Int) : (trades rows t i).length ≤ 3600 := by
  have h1 := trUp_len h t i (turns rows t).toNat
  have h2 := turns_le rows t
  have h3 := h.1
  unfold trades
  omega
/-! rests -/
def sizeOf : RowM → Int
  | .order _ _ _ z _ => z
  | _ => 0
def sumOf (L : List (Int × Int)) (n : Int) : Int := ((L.filter fun p => decide (p.1 = n)).map (·.2)).sum
def restM (rows : List RowM) (n : Nat) (t i : Int) : Int := (match rows[n]? with | some r => sizeOf r | none => 0) - sumOf (trades rows t i) n
theorem sumOf_snoc (L : List (Int × Int)) (p : Int × Int) (n : Int) : sumOf (L ++ [p]) n = sumOf L n + if p.1 = n then p.2 else 0 := by
  unfold sumOf
  rw [List.filter_append, List.map_append, List.sum_append]
  by_cases h : p.1 = n
  · simp [h]
  · simp [h]
/-! a dict of ints -/
def getI (m : List (Int × Int)) (k : Int) : Option Int := (m.find? fun p => decide (p.1 = k)).map (·.2)
def putI (m : List (Int × Int)) (k v : Int) : List (Int × Int) := if (m.any fun p => decide (p.1 = k)) = true then m.map (fun p => if p.1 = k then (p.1, v) else p) else m ++ [(k, v)]
def encI (m : List (Int × Int)) : List (Key × DV) := m.map fun p => (.inl p.1, .d (.int p.2))
theorem look_enc (m : List (Int × Int)) (k : Int) : look (encI m) (.inl k) = (getI m k).map fun v => .d (.int v) := by
  induction m with
  | nil => rfl
  | cons p r ih =>
    unfold look getI encI at *
    rw [List.map_cons, List.find?_cons, List.find?_cons]
    have e : (decide ((Sum.inl p.1 : Key) = Sum.inl k)) = decide (p.1 = k) := decide_eq_decide.mpr ⟨Sum.inl.inj, congrArg Sum.inl⟩
    rw [e]
    by_cases h : p.1 = k
    · simp [h]
    · simp only [h, decide_false]
      exact ih
theorem put_enc (m : List (Int × Int)) (k v : Int) : putD (encI m) (.inl k) (.d (.int v)) = encI (putI m k v) := by
  have e : ∀ a : Int, (decide ((Sum.inl a : Key) = Sum.inl k)) = decide (a = k) := fun a => decide_eq_decide.mpr ⟨Sum.inl.inj, congrArg Sum.inl⟩
  have ha : ((encI m).any fun kv => decide (kv.1 = Sum.inl k)) = (m.any fun p => decide (p.1 = k)) := by
    unfold encI
    rw [List.any_map]
    congr 1
    funext p
    exact e p.1
  unfold putD putI
  rw [ha]
  split
  · unfold encI
    rw [List.map_map, List.map_map]
    apply List.map_congr_left
    intro p _
    show (if (Sum.inl p.1 : Key) = Sum.inl k then _ else _) = _
    by_cases h : p.1 = k
    · rw [if_pos (congrArg Sum.inl h)]
      show _ = (fun p => (Sum.inl p.1, DV.d (PyData.int p.2))) (if p.1 = k then (p.1, v) else p)
      rw [if_pos h]
    · rw [if_neg (fun z => h (Sum.inl.inj z))]
      show _ = (fun p => (Sum.inl p.1, DV.d (PyData.int p.2))) (if p.1 = k then (p.1, v) else p)
      rw [if_neg h]
  · unfold encI
    rw [List.map_append]
    rfl
theorem getI_put (m : List (Int × Int)) (k v n : Int) : getI (putI m k v) n = if n = k then some v else getI m n := by
  induction m with
  | nil =>
    unfold putI getI
    by_cases h : n = k
    · subst h
      simp
    · have h' : ¬ k = n := fun z => h z.symm
      simp [h, h']
  | cons p r ih =>
    unfold putI
    rw [List.any_cons]
    by_cases h : p.1 = k
    · rw [show (decide (p.1 = k)) = true from decide_eq_true h, Bool.true_or, if_pos rfl, List.map_cons, if_pos h]
      unfold getI
      rw [List.find?_cons]
      by_cases z : n = k
      · subst z
        simp [h]
      · have h' : ¬ p.1 = n := fun w => z (w.symm.trans h)
        simp only [h', decide_false, z, if_false]
        rw [List.find?_cons]
        simp only [h', decide_false]
        have e : ∀ l : List (Int × Int), (l.map (fun p => if p.1 = k then (p.1, v) else p)).find? (fun p => decide (p.1 = n)) = l.find? (fun p => decide (p.1 = n)) := by
          intro l
          induction l with
          | nil => rfl
          | cons q l il =>
            rw [List.map_cons, List.find?_cons, List.find?_cons]
            by_cases hq : q.1 = k
            · have hn : ¬ q.1 = n := fun w => z (w.symm.trans hq)
              rw [if_pos hq]
              simp only [hn, decide_false]
              exact il
            · rw [if_neg hq]
              by_cases hn : q.1 = n
              · simp [hn]
              · simp only [hn, decide_false]
                exact il
        rw [e]
    · rw [show (decide (p.1 = k)) = false from decide_eq_false h, Bool.false_or]
      unfold putI at ih
      by_cases ha : (r.any fun p => decide (p.1 = k)) = true
      · rw [if_pos ha] at ih ⊢
        rw [List.map_cons, if_neg h]
        unfold getI at *
        rw [List.find?_cons, List.find?_cons]
        by_cases hn : p.1 = n
        · have z : ¬ n = k := fun w => h (hn.trans w)
          simp [hn, z]
        · simp only [hn, decide_false]
          exact ih
      · rw [if_neg ha] at ih ⊢
        rw [List.cons_append]
        unfold getI at *
        rw [List.find?_cons, List.find?_cons]
        by_cases hn : p.1 = n
        · have z : ¬ n = k := fun w => h (hn.trans w)
          simp [hn, z]
        · simp only [hn, decide_false]
          exact ih
def dsum (L : List (Int × Int)) : List (Int × Int) := L.foldl (fun m p => putI m p.1 ((getI m p.1).getD 0 + p.2)) []
theorem dsum_snoc (L : List (Int × Int)) (p : Int × Int) : dsum (L ++ [p]) = putI (dsum L) p.1 ((getI (dsum L) p.1).getD 0 + p.2) := by
  unfold dsum
  rw [List.foldl_append]
  rfl
theorem snoc_ind {α : Type} {P : List α → Prop} (h0 : P []) (hs : ∀ L a, P L → P (L ++ [a])) (L : List α) : P L := by
  have h : ∀ M : List α, P M.reverse := fun M => by
    induction M with
    | nil => exact h0
    | cons a M ih =>
      rw [List.reverse_cons]
      exact hs _ _ ih
  have := h L.reverse
  rw [List.reverse_reverse] at this
  exact this
theorem dsum_get (L : List (Int × Int)) (n : Int) : (getI (dsum L) n).getD 0 = sumOf L n := by
  induction L using snoc_ind with
  | h0 => rfl
  | hs L p ih =>
    rw [dsum_snoc, getI_put, sumOf_snoc]
    by_cases h : n = p.1
    · subst h
      rw [if_pos rfl, if_pos rfl, ← ih]
      rfl
    · rw [if_neg h, if_neg (fun z => h z.symm), ih]
      omega
theorem putI_len (m : List (Int × Int)) (k v : Int) : (putI m k v).length ≤ m.length + 1 := by
  unfold putI
  split
  · rw [List.length_map]
    omega
  · rw [List.length_append]
    simp
theorem dsum_len (L : List (Int × Int)) : (dsum L).length ≤ L.length := by
  induction L using snoc_ind with
  | h0 => exact Nat.le_refl _
  | hs L p ih =>
    rw [dsum_snoc, List.length_append]
    have := putI_len (dsum L) p.1 ((getI (dsum L) p.1).getD 0 + p.2)
    simp only [List.length_singleton]
    omega
/-! which are open -/
def cancelN : RowM → Option Int
  | .cancel n => some n
  | _ => none
def goneM (rows : List RowM) (t : Int) : List Int := (rows.take t.toNat).filterMap cancelN
def ordersM (rows : List RowM) : List Nat := (List.range rows.length).filter fun k => match rows[k]? with | some r => isOrd r | none => false
def foundM (rows : List RowM) (t : Int) : List Nat := (ordersM rows).filter fun k => decide ((k : Int) < t) && !decide ((k : Int) ∈ goneM rows t)
def openM (rows : List RowM) (t i : Int) : List Nat := (foundM rows t).filter fun k => decide (sumOf (trades rows t i) k < (match rows[k]? with | some r => sizeOf r | none => 0))
theorem open_is {rows : List RowM} {t i : Int} {k : Nat} (h : k ∈ openM rows t i) : (∃ m s p z fs, rows[k]? = some (.order m s p z fs)) ∧ (k : Int) < t ∧ 0 < restM rows k t i := by
  unfold openM at h
  rw [List.mem_filter] at h
  obtain ⟨h1, h2⟩ := h
  unfold foundM at h1
  rw [List.mem_filter, Bool.and_eq_true] at h1
  obtain ⟨h3, h4, _⟩ := h1
  unfold ordersM at h3
  rw [List.mem_filter] at h3
  refine ⟨?_, of_decide_eq_true h4, ?_⟩
  · cases hz : rows[k]? with
    | none =>
      rw [hz] at h3
      cases h3.2
    | some r =>
      rw [hz] at h3
      cases r with
      | order m s p z fs => exact ⟨m, s, p, z, fs, rfl⟩
      | cancel n => cases h3.2
      | prints fs => cases h3.2
      | closed => cases h3.2
      | call p ps => cases h3.2
  · have := of_decide_eq_true h2
    unfold restM
    omega
theorem open_len (rows : List RowM) (t i : Int) : (openM rows t i).length ≤ rows.length := by
  unfold openM foundM ordersM
  refine Nat.le_trans (List.length_filter_le _ _) (Nat.le_trans (List.length_filter_le _ _) (Nat.le_trans (List.length_filter_le _ _) ?_))
  rw [List.length_range]
  exact Nat.le_refl _
end Rec

set_option Elab.async false
set_option linter.all false
set_option maxRecDepth 100000
/-! Rows and records as data: how deep, how they are shown. -/
namespace Rec
open PySem PySem.Spec L2 Fsh
/-- k deep at most, shown by n signs at most -/
structure Nice (k n : Nat) (d : PyData) : Prop where
  lay : d.canLay0 = true
  show_ : d.showable = true
  nod : d.hasDict = false
  dep : d.depth ≤ k
  len : d.shown.length ≤ n
theorem Nice.mono {k n k2 n2 : Nat} {d : PyData} (h : Nice k n d) (h1 : k ≤ k2) (h2 : n ≤ n2) : Nice k2 n2 d := ⟨h.lay, h.show_, h.nod, Nat.le_trans h.dep h1, Nat.le_trans h.len h2⟩
theorem Nice.shaped {k n : Nat} {d : PyData} (h : Nice k n d) (hk : k ≤ 64) : SeqAt.shaped d = true := by
  unfold SeqAt.shaped
  rw [h.lay, Bool.true_and]
  exact decide_eq_true (Nat.le_trans h.dep hk)
theorem nice_none : Nice 0 4 .none := ⟨rfl, rfl, rfl, Nat.le_refl _, by decide +kernel⟩
theorem nice_int {i : Int} (h : lil i) : Nice 0 201 (.int i) := ⟨by simp only [PyData.canLay0], by simp only [PyData.showable]; exact decide_eq_true h.small, by simp only [PyData.hasDict], by simp only [PyData.depth]; exact Nat.le_refl _, by simp only [PyData.shown]; exact (okS_int h).1⟩
theorem nice_str {k : Nat} {x : Str} (h : okS k x) : Nice 0 (10 * k + 2) (.str x) := ⟨by
    simp only [PyData.canLay0]
    show x.cps.all (· < 0x110000) = true
    rw [Array.all_eq_true_iff_forall_mem]
    exact fun c hc => decide_eq_true (h.2 c (Array.mem_toList_iff.mpr hc)), by simp only [PyData.showable], by simp only [PyData.hasDict], by simp only [PyData.depth]; exact Nat.le_refl _, by simp only [PyData.shown]; exact okS_repr h⟩
theorem nice_opt {o : Option Int} (h : lilO o) : Nice 0 201 (optD o) := by
  cases o with
  | none => exact nice_none.mono (Nat.le_refl _) (by decide)
  | some n => exact nice_int (h n rfl)
theorem nice_all {k n : Nat} : ∀ {ds : List PyData}, (∀ d ∈ ds, Nice k n d) → PyData.canLayAll0 ds = true ∧ PyData.showableAll ds = true ∧ PyData.hasDictAll ds = false ∧ PyData.depthAll ds ≤ k ∧ (PyData.shownAll ds).length = ds.length ∧ ((PyData.shownAll ds).map (·.length)).sum ≤ ds.length * n
  | [], _ => ⟨by simp only [PyData.canLayAll0], by simp only [PyData.showableAll], by simp only [PyData.hasDictAll], by simp only [PyData.depthAll]; exact Nat.zero_le _, by simp only [PyData.shownAll]; rfl, by simp only [PyData.shownAll]; exact Nat.zero_le _⟩
  | d :: ds, h => by
    obtain ⟨h1, h2, h3, h4, h5, h6⟩ := nice_all (ds := ds) fun x hx => h x (List.mem_cons_of_mem _ hx)
    have g := h d List.mem_cons_self
    have g4 := g.dep
    have g5 := g.len
    refine ⟨by simp only [PyData.canLayAll0, g.lay, h1]; rfl, by simp only [PyData.showableAll, g.show_, h2]; rfl, by simp only [PyData.hasDictAll, g.nod, h3]; rfl, by simp only [PyData.depthAll]; omega, by simp only [PyData.shownAll, List.length_cons, h5], ?_⟩
    simp only [PyData.shownAll, List.map_cons, List.sum_cons, List.length_cons, Nat.succ_mul]
    omega
theorem nice_tup {k n m : Nat} {ds : List PyData} (h : ∀ d ∈ ds, Nice k n d) (hm : ds.length ≤ m) : Nice (k + 1) (m * (n + 2) + 3) (.tuple ds) := by
  obtain ⟨h1, h2, h3, h4, h5, h6⟩ := nice_all h
  refine ⟨by simp only [PyData.canLay0]; exact h1, by simp only [PyData.showable]; exact h2, by simp only [PyData.hasDict]; exact h3, by simp only [PyData.depth]; omega, ?_⟩
  simp only [PyData.shown]
  have h7 := tupleText_len_le (PyData.shownAll ds)
  have h8 : ds.length * (n + 2) ≤ m * (n + 2) := Nat.mul_le_mul_right _ hm
  rw [Nat.mul_add] at h8
  omega
theorem nice_lst {k n m : Nat} {ds : List PyData} (h : ∀ d ∈ ds, Nice k n d) (hm : ds.length ≤ m) : Nice (k + 1) (m * (n + 2) + 3) (.list ds) := by
  obtain ⟨h1, h2, h3, h4, h5, h6⟩ := nice_all h
  refine ⟨by simp only [PyData.canLay0]; exact h1, by simp only [PyData.showable]; exact h2, by simp only [PyData.hasDict]; exact h3, by simp only [PyData.depth]; omega, ?_⟩
  simp only [PyData.shown]
  have h7 := listText_len_le (PyData.shownAll ds)
  have h8 : ds.length * (n + 2) ≤ m * (n + 2) := Nat.mul_le_mul_right _ hm
  rw [Nat.mul_add] at h8
  omega
theorem nice_mem {k n : Nat} {d : PyData} {ds : List PyData} (h1 : Nice k n d) (h2 : ∀ x ∈ ds, Nice k n x) : ∀ x ∈ d :: ds, Nice k n x := fun x hx => by
  rcases List.mem_cons.mp hx with e | e
  · exact e ▸ h1
  · exact h2 x e
theorem nice_nil {k n : Nat} : ∀ x ∈ ([] : List PyData), Nice k n x := fun x hx => by cases hx
theorem nice_fil {f : Fil} (h : okF f) : Nice 1 1000 (filD f) := (nice_tup (m := 3) (nice_mem (nice_int h.1) (nice_mem (nice_int h.2.1) (nice_mem (nice_opt h.2.2) nice_nil))) (Nat.le_refl _)).mono (by decide) (by decide)
theorem nice_pair {f : Int × Int} (h : okP f) : Nice 1 1000 (pairD f) := (nice_tup (m := 2) (nice_mem (nice_int h.1) (nice_mem (nice_int h.2) nice_nil)) (Nat.le_refl _)).mono (by decide) (by decide)
theorem nice_fils {fs : List Fil} (h : okFs fs) : Nice 2 31000 (.tuple (fs.map filD)) := (nice_tup (m := 30) (fun d hd => by
  obtain ⟨f, hf, e⟩ := List.mem_map.mp hd
  subst e
  exact nice_fil (h.2 f hf)) (by rw [List.length_map]; exact h.1)).mono (by decide) (by decide)
theorem nice_pairs {fs : List (Int × Int)} (h1 : fs.length ≤ 30) (h : ∀ q ∈ fs, okP q) : Nice 2 31000 (.tuple (fs.map pairD)) := (nice_tup (m := 30) (fun d hd => by
  obtain ⟨f, hf, e⟩ := List.mem_map.mp hd
  subst e
  exact nice_pair (h f hf)) (by rw [List.length_map]; exact h1)).mono (by decide) (by decide)
theorem nice_lit (s : String) (h : s.length ≤ 10) : Nice 2 31000 (.str s) := (nice_str (okS_of s h)).mono (by decide) (by decide)
theorem nice_row {r : RowM} (h : okR r) : Nice 3 200000 (rowD r) := by
  have I : ∀ {n : Int}, lil n → Nice 2 31000 (.int n) := fun h => (nice_int h).mono (by decide) (by decide)
  have S : ∀ {x : Str}, okS 8 x → Nice 2 31000 (.str x) := fun h => (nice_str h).mono (by decide) (by decide)
  cases r with
  | order m s p z fs =>
    obtain ⟨h1, h2, h3, h4, h5⟩ := h
    exact (nice_tup (m := 6) (nice_mem (nice_lit "order" (by decide)) (nice_mem (S h1) (nice_mem (S h2) (nice_mem (I h3) (nice_mem (I h4) (nice_mem (nice_fils h5) nice_nil)))))) (Nat.le_refl _)).mono (by decide) (by decide)
  | cancel n => exact (nice_tup (m := 2) (nice_mem (nice_lit "cancel" (by decide)) (nice_mem (I h) nice_nil)) (Nat.le_refl _)).mono (by decide) (by decide)
  | prints fs => exact (nice_tup (m := 2) (nice_mem (nice_lit "prints" (by decide)) (nice_mem (nice_fils h) nice_nil)) (Nat.le_refl _)).mono (by decide) (by decide)
  | closed => exact (nice_tup (m := 1) (nice_mem (nice_lit "closed" (by decide)) nice_nil) (by decide)).mono (by decide) (by decide)
  | call p ps =>
    obtain ⟨h1, h2, h3⟩ := h
    exact (nice_tup (m := 3) (nice_mem (nice_lit "call" (by decide)) (nice_mem ((nice_opt h1).mono (by decide) (by decide)) (nice_mem (nice_pairs h2 h3) nice_nil))) (Nat.le_refl _)).mono (by decide) (by decide)
theorem nice_rows {rows : List RowM} (h1 : rows.length ≤ 40) (h : ∀ r ∈ rows, okR r) : Nice 4 8000083 (.tuple (rows.map rowD)) ∧ Nice 4 8000083 (.list (rows.map rowD)) := by
  have g : ∀ d ∈ rows.map rowD, Nice 3 200000 d := fun d hd => by
    obtain ⟨r, hr, e⟩ := List.mem_map.mp hd
    subst e
    exact nice_row (h r hr)
  have l : (rows.map rowD).length ≤ 40 := by rw [List.length_map]; exact h1
  exact ⟨(nice_tup g l).mono (by decide) (by decide), (nice_lst g l).mono (by decide) (by decide)⟩
def recDat (rule : Str) (rows : List RowM) : PyData := .tuple [.str rule, .tuple (rows.map rowD)]
theorem nice_rec {rule : Str} {rows : List RowM} (h0 : okS 8 rule) (h1 : rows.length ≤ 40) (h : ∀ r ∈ rows, okR r) : Nice 5 16000200 (recDat rule rows) := (nice_tup (m := 2) (nice_mem ((nice_str h0).mono (Nat.zero_le 4) (by decide)) (nice_mem (nice_rows h1 h).1 nice_nil)) (Nat.le_refl _)).mono (by decide) (by decide)
end Rec

set_option Elab.async false
set_option linter.all false
set_option maxRecDepth 100000
set_option maxHeartbeats 2000000
namespace Fsh
open PySem PySem.Spec PyProof.Rows L2
/-! stars in displays -/
section
variable {K : PySem.W.Frag} {ρ : Env} {G : Store} {B : Hp}
theorem Rps.appV : ∀ {us : List V} {ds : List PyData} {ws : List V} {ys : List DV}, Rps K B us ds → Rvs K B ws ys → Rvs K B (us ++ ws) (ds.map DV.d ++ ys)
  | _, _, _, _, .nil, h => h
  | _, _, _, _, .cons a r, h => .cons a (Rps.appV r h)
theorem ra_star {ds : List PyData} {ta : TE} {tr : TA} {Φr Φl : List DV → Store → Prop} (ha : R K ta ρ G (fun x G1 => (x = .d (.tuple ds) ∨ x = .d (.list ds)) ∧ G1 = G)) (hr : RA K tr ρ G Φr) (h : ∀ xs G2, Φr xs G2 → Φl (ds.map DV.d ++ xs) G2) : RA K (StX.tStar K ta tr) ρ G Φl := by
  intro F σ B H Q c s k
  refine ha F σ B H _ c s fun v x G1 B1 H1 e1 c1 r1 p1 => ?_
  obtain ⟨p1, p2⟩ := p1
  subst p2
  have key : ∃ p us, v = .ref p ∧ (SqT K H1 p us ∨ SqL K H1 p us) ∧ Rps K B1 us ds := by
    rcases p1 with e | e <;> subst e
    · cases r1 with
      | rtup p z pl => exact ⟨_, _, rfl, .inl (Evl.ex_t c1.ex p), z⟩
    · cases r1 with
      | rlst p z => exact ⟨_, _, rfl, .inr (Evl.ex_l c1.ex p), z⟩
  obtain ⟨p, us, e, hs, z⟩ := key
  refine ⟨p, us, e, hs, ?_⟩
  refine hr F σ B1 H1 _ c1 (s.mono e1) fun vs xs G2 B2 H2 e2 c2 r2 p2 => ?_
  exact k _ _ G2 B2 H2 (e1.trans e2) c2 ((z.mono e2).appV r2) (h xs G2 p2)
end
section
variable {X : Cx} {e : Expr} {es : List Expr} {ρ : Env} {G : Store} {p pos : Pos}
theorem xad_starT {ds : List PyData} {xs : List DV} (ha : Xd X e ρ (.d (.tuple ds))) (hr : Xad X es ρ xs) (hs : starEach (.Starred e p :: es) X.env = (true, eval e X.env) :: starEach es X.env := by rfl) : Xad X (.Starred e p :: es) ρ (ds.map DV.d ++ xs) := fun G =>
  xa_of (StX.pa_star pe_tw pa_tw hs) (ra_star (Φr := IsA xs G) ((ha G).imp fun y G2 z => ⟨.inl z.1, z.2⟩) (hr G) fun xs G2 q => ⟨by rw [q.1], q.2⟩)
theorem xad_starL {ds : List PyData} {xs : List DV} (ha : Xd X e ρ (.d (.list ds))) (hr : Xad X es ρ xs) (hs : starEach (.Starred e p :: es) X.env = (true, eval e X.env) :: starEach es X.env := by rfl) : Xad X (.Starred e p :: es) ρ (ds.map DV.d ++ xs) := fun G =>
  xa_of (StX.pa_star pe_tw pa_tw hs) (ra_star (Φr := IsA xs G) ((ha G).imp fun y G2 z => ⟨.inr z.1, z.2⟩) (hr G) fun xs G2 q => ⟨by rw [q.1], q.2⟩)
theorem xl_lstS {ds : List PyData} {xs : List DV} (h : Xad X es ρ xs) (e : xs = ds.map DV.d) (hz : ds.length ≤ 100000 := by decide) : Xl X (.List es pos) ρ ds := xl_lst (by rw [← e]; exact h) hz
end
end Fsh

set_option Elab.async false
set_option linter.all false
set_option maxRecDepth 100000
set_option maxHeartbeats 8000000
namespace K8
open PySem PySem.Spec L2 Fsh Rec
def topG (i : Nat) : Stmt := PySem.Challenge.pw_fairshown_k08_texts_written.main.body.getD i (.Pass ⟨0, 0, 0, 0⟩)
abbrev sFils : Stmt := topG 11
abbrev sTr : Stmt := topG 12
abbrev sRest : Stmt := topG 13
abbrev sOrds : Stmt := topG 14
abbrev sOpen : Stmt := topG 15
abbrev sShut : Stmt := topG 16
abbrev NFils : List Str := ["_law_row"]
abbrev NTr : List Str := ["_law_rows", "_law_t", "_law_i", "_law_found", "_law_s", "_law_row", "_law_price", "_law_size", "_law_n"]
abbrev NRest : List Str := ["_law_rows", "_law_n", "_law_t", "_law_i", "_law_m", "_law_size"]
abbrev NOrds : List Str := ["_law_rows", "_law_k"]
abbrev NOpen : List Str := ["_law_rows", "_law_t", "_law_i", "_law_gone", "_law_traded_now", "_law_n", "_law_size", "_law_found", "_law_row"]
abbrev NShut : List Str := ["_law_rows", "_law_t", "_law_row"]
theorem scFils : FnScope NFils ["_law_row"] (defScope sFils) := ⟨rfl, rfl, rfl, by decide +kernel, rfl, by decide +kernel, by decide +kernel⟩
theorem scTr : FnScope NTr ["_law_rows", "_law_t", "_law_i"] (defScope sTr) := ⟨rfl, rfl, rfl, by decide +kernel, rfl, by decide +kernel, by decide +kernel⟩
theorem scRest : FnScope NRest ["_law_rows", "_law_n", "_law_t", "_law_i"] (defScope sRest) := ⟨rfl, rfl, rfl, by decide +kernel, rfl, by decide +kernel, by decide +kernel⟩
theorem scOrds : FnScope NOrds ["_law_rows"] (defScope sOrds) := ⟨rfl, rfl, rfl, by decide +kernel, rfl, by decide +kernel, by decide +kernel⟩
theorem scOpen : FnScope NOpen ["_law_rows", "_law_t", "_law_i"] (defScope sOpen) := ⟨rfl, rfl, rfl, by decide +kernel, rfl, by decide +kernel, by decide +kernel⟩
theorem scShut : FnScope NShut ["_law_rows", "_law_t"] (defScope sShut) := ⟨rfl, rfl, rfl, by decide +kernel, rfl, by decide +kernel, by decide +kernel⟩
abbrev rowsV (rows : List RowM) : DV := .d (.list (rows.map rowD))
abbrev intV (n : Int) : DV := .d (.int n)
def zFils : Fsh.Spec := fun xs G Φ => ∃ r, xs = [.d (rowD r)] ∧ Φ (.d (.tuple ((filsOf r).map filD))) G
def zTr : Fsh.Spec := fun xs G Φ => ∃ rows t i, xs = [rowsV rows, intV t, intV i] ∧ okRs rows ∧ 0 ≤ t ∧ t ≤ 100 ∧ 0 ≤ i ∧ Φ (.d (.list ((trades rows t i).map pairD))) G
def zRest : Fsh.Spec := fun xs G Φ => ∃ (rows : List RowM) (n : Nat) (t i : Int), xs = [rowsV rows, intV n, intV t, intV i] ∧ okRs rows ∧ 0 ≤ t ∧ t ≤ 100 ∧ 0 ≤ i ∧ (∃ m s p z fs, rows[n]? = some (.order m s p z fs)) ∧ Φ (intV (restM rows n t i)) G
def zOrds : Fsh.Spec := fun xs G Φ => ∃ rows, xs = [rowsV rows] ∧ okRs rows ∧ Φ (.d (.list ((ordersM rows).map fun (k : Nat) => PyData.int k))) G
def zOpen : Fsh.Spec := fun xs G Φ => ∃ rows t i, xs = [rowsV rows, intV t, intV i] ∧ okRs rows ∧ 0 ≤ t ∧ t ≤ 100 ∧ 0 ≤ i ∧ Φ (.d (.list ((openM rows t i).map fun (k : Nat) => PyData.int k))) G
def zShut : Fsh.Spec := fun xs G Φ => ∃ rows, xs = [rowsV rows, intV rows.length] ∧ okRs rows ∧ ∀ b : Bool, Φ (.d (.bool b)) G
section
variable {P : Program} {w : World} {K : PySem.W.Frag} {mg : Str → Option Value} {base : Heap}
theorem f_fils {f : Addr} {fd : FuncData} (F1 : Fun K "_law_fills" "_law_fills" sFils f fd) (hm : mg "_law_fills" = some (.ref f)) : Fn P w K mg base 1 "_law_fills" ["_law_row"] zFils := by
  refine fn_rule F1 scFils (F1.binds fun _ _ _ _ _ _ us hl => match us, hl with | [_], _ => rfl) hm (fun xs G Φ h => by obtain ⟨o, rfl, _⟩ := h; rfl) fun cdv A outer s H E hr xs G Φ hz => ?_
  obtain ⟨r, rfl, hq⟩ := hz
  refine xss_one (xs_ret ?_)
  cases r with
  | order m sd p z fs => exact xp_ifD (t := true) (xb_eqs (xd_ixT (xd_name 0) xd_int rfl) xd_str (decide_eq_true rfl)) (fun _ => Xd.to (xd_ixT (xd_name 0) xd_int rfl) hq) (fun h => nomatch h)
  | prints fs => exact xp_ifD (t := false) (xb_eqs (xd_ixT (xd_name 0) xd_int rfl) xd_str (by decide +kernel)) (fun h => nomatch h) fun _ => xp_ifD (t := true) (xb_eqs (xd_ixT (xd_name 0) xd_int rfl) xd_str (decide_eq_true rfl)) (fun _ => Xd.to (xd_ixT (xd_name 0) xd_int rfl) hq) (fun h => nomatch h)
  | cancel n => exact xp_ifD (t := false) (xb_eqs (xd_ixT (xd_name 0) xd_int rfl) xd_str (by decide +kernel)) (fun h => nomatch h) fun _ => xp_ifD (t := false) (xb_eqs (xd_ixT (xd_name 0) xd_int rfl) xd_str (by decide +kernel)) (fun h => nomatch h) fun _ => Xd.to (xd_tup (ds := []) xa_nil) hq
  | closed => exact xp_ifD (t := false) (xb_eqs (xd_ixT (xd_name 0) xd_int rfl) xd_str (by decide +kernel)) (fun h => nomatch h) fun _ => xp_ifD (t := false) (xb_eqs (xd_ixT (xd_name 0) xd_int rfl) xd_str (by decide +kernel)) (fun h => nomatch h) fun _ => Xd.to (xd_tup (ds := []) xa_nil) hq
  | call p ps => exact xp_ifD (t := false) (xb_eqs (xd_ixT (xd_name 0) xd_int rfl) xd_str (by decide +kernel)) (fun h => nomatch h) fun _ => xp_ifD (t := false) (xb_eqs (xd_ixT (xd_name 0) xd_int rfl) xd_str (by decide +kernel)) (fun h => nomatch h) fun _ => Xd.to (xd_tup (ds := []) xa_nil) hq
theorem at_map {α : Type} {xs : List α} {k : Nat} {x : α} (f : α → PyData) (h : xs[k]? = some x) : atI (xs.map f) (k : Int) = some (f x) := by
  have hk := (List.getElem?_eq_some_iff.mp h).1
  exact atI_nat (by rw [List.getElem?_map, h]; rfl)
theorem tag_row (r : RowM) : ∃ (tag : Str) (ds : List PyData), rowD r = .tuple (.str tag :: ds) ∧ decide (tag = u "order") = isOrd r ∧ decide (tag = u "call") = (match r with | .call _ _ => true | _ => false) ∧ decide (tag = u "cancel") = (match r with | .cancel _ => true | _ => false) := by
  cases r with
  | order m sd p z fs => exact ⟨u "order", _, rfl, (by show decide (u "order" = u "order") = true; decide +kernel), (by show decide (u "order" = u "call") = false; decide +kernel), (by show decide (u "order" = u "cancel") = false; decide +kernel)⟩
  | prints fs => exact ⟨u "prints", _, rfl, (by show decide (u "prints" = u "order") = false; decide +kernel), (by show decide (u "prints" = u "call") = false; decide +kernel), (by show decide (u "prints" = u "cancel") = false; decide +kernel)⟩
  | cancel n => exact ⟨u "cancel", _, rfl, (by show decide (u "cancel" = u "order") = false; decide +kernel), (by show decide (u "cancel" = u "call") = false; decide +kernel), (by show decide (u "cancel" = u "cancel") = true; decide +kernel)⟩
  | closed => exact ⟨u "closed", _, rfl, (by show decide (u "closed" = u "order") = false; decide +kernel), (by show decide (u "closed" = u "call") = false; decide +kernel), (by show decide (u "closed" = u "cancel") = false; decide +kernel)⟩
  | call p ps => exact ⟨u "call", _, rfl, (by show decide (u "call" = u "order") = false; decide +kernel), (by show decide (u "call" = u "call") = true; decide +kernel), (by show decide (u "call" = u "cancel") = false; decide +kernel)⟩
/-- row[0] == 'order' and its kin -/
theorem xb_tag {X : Cx} {a : Expr} {ρ : Fsh.Env} {pos p2 pos2 pos3 : Pos} {r : RowM} {s : Str} {j j2 : Nat} {v : Bool} (ha : Xd X a ρ (.d (rowD r))) (h : ∀ (tag : Str) (ds : List PyData), rowD r = .tuple (.str tag :: ds) → decide (tag = s) = v) : Xb X (.Compare (.Subscript a (.Constant (.int 0) j p2) pos2) [.Eq] [.Constant (.str s) j2 pos3] pos) ρ v := by
  obtain ⟨tag, ds, e, _⟩ := tag_row r
  exact xb_eqs (xd_ixT (e ▸ ha) xd_int (atI_nat (j := 0) rfl)) xd_str (h tag ds e)
theorem cut_take {α : Type} (f : α → PyData) (xs : List α) (k : Nat) : cutD (xs.map f) none (some (k : Int)) = (xs.take k).map f := by
  unfold cutD
  rw [HT.sIx_none, HT.sIx_nat, List.drop_zero, Nat.sub_zero, List.map_take, List.length_map]
  rw [List.take_eq_take_iff]
  rw [List.length_map]
  omega
theorem f_tr {f : Addr} {fd : FuncData} (F1 : Fun K "_law_trades" "_law_trades" sTr f fd) (hm : mg "_law_trades" = some (.ref f)) (B : Bn mg) (T : Fn P w K mg base 1 "_law_fills" ["_law_row"] zFils) : Fn P w K mg base 2 "_law_trades" ["_law_rows", "_law_t", "_law_i"] zTr := by
  refine fn_rule F1 scTr (F1.binds fun _ _ _ _ _ _ us hl => match us, hl with | [_, _, _], _ => rfl) hm (fun xs G Φ h => by obtain ⟨_, _, _, rfl, _⟩ := h; rfl) fun cdv A outer s H E hr xs G Φ hz => ?_
  obtain ⟨rows, t, i, rfl, hok, ht, ht2, hi, hq⟩ := hz
  refine xss_cons (M := fun ρ' G' => ∃ l, ρ' = [some (rowsV rows), some (intV t), some (intV i), some (.a l), none, none, none, none, none] ∧ G' = (l, .lst []) :: G) (xs_set 3 (Xl.g (xl_lst (ds := []) xa_nil)) (fun y G2 q => by obtain ⟨l, e1, e2⟩ := q; exact ⟨l, by rw [e1]; rfl, e2⟩) scTr.nd) fun ρ' G' q => ?_
  obtain ⟨l, rfl, rfl⟩ := q
  refine xss_cons (M := fun ρ1 G1 => ∃ a4 a5 a6 a7 a8, ρ1 = [some (rowsV rows), some (intV t), some (intV i), some (.a l), a4, a5, a6, a7, a8] ∧ G1 = (l, .lst ((trades rows t i).map pairD)) :: G)
    (xs_forR (js := [4]) (Φl := IsA [intV (turns rows t)] ((l, .lst []) :: G)) (fun n k ρ1 G1 => n = turns rows t ∧ ∃ a4 a5 a6 a7 a8, ρ1 = [some (rowsV rows), some (intV t), some (intV i), some (.a l), a4, a5, a6, a7, a8] ∧ G1 = (l, .lst ((trUp rows t i k).map pairD)) :: G) PassesOwn.never B.range ?_ (pg_name (i := 4) scTr.nd rfl (Or.inl rfl)) ?_ ?_ ?_) fun ρ' G' q => ?_
  · refine Xad.i (xad_cons ?_ xa_nil)
    refine Xd.cast (xd_min B (xd_add (xd_name 1) xd_int) (xd_lenL B (xd_name 0))) ?_
    unfold turns
    rw [List.length_map]
  · intro xs G1 q
    have h1 := turns_le rows t
    have h2 := hok.1
    refine ⟨_, q.1, by omega, by unfold turns; split <;> omega, rfl, none, none, none, none, none, rfl, q.2⟩
  · rintro n k ρ1 G1 hk ⟨hn, a4, a5, a6, a7, a8, rfl, rfl⟩
    refine ⟨_, rg_name, ?_⟩
    have hkl : k < rows.length := by
      have := turns_le rows t
      omega
    obtain ⟨r, hrk⟩ : ∃ r, rows[k]? = some r := ⟨_, List.getElem?_eq_getElem hkl⟩
    have hrok := hok.2 r (List.mem_of_getElem? hrk)
    have hfs := filsOf_ok hrok
    refine xss_at (xs_setD 5 (y := .d (rowD r)) (xd_ixL (xd_name 0) (xd_name 4) (at_map rowD hrk)) scTr.nd) ?_
    -- the fills
    refine xss_cons (M := fun ρ2 G2 => ∃ b6 b7 b8, ρ2 = [some (rowsV rows), some (intV t), some (intV i), some (.a l), some (intV k), some (.d (rowD r)), b6, b7, b8] ∧ G2 = (l, .lst ((trUp rows t i k ++ trFs k (isOrd r) (cutF r t i k)).map pairD)) :: G)
      (xs_forT (js := [6] ++ ([7] ++ ([8] ++ []))) (ds := (cutF r t i k).map filD) (fun j ρ2 G2 => ∃ b6 b7 b8, ρ2 = [some (rowsV rows), some (intV t), some (intV i), some (.a l), some (intV k), some (.d (rowD r)), b6, b7, b8] ∧ G2 = (l, .lst ((trUp rows t i k ++ trFs k (isOrd r) ((cutF r t i k).take j)).map pairD)) :: G) PassesOwn.never ?_
        (pg_tup (n := 3) rfl (pgs_cons (pg_name (i := 6) scTr.nd rfl (.inl rfl)) (pgs_cons (pg_name (i := 7) scTr.nd rfl (.inl rfl)) (pgs_cons (pg_name (i := 8) scTr.nd rfl (.inl rfl)) pgs_nil)))) ⟨a6, a7, a8, rfl, ?_⟩ ?_ ?_) fun ρ2 G2 q2 => ?_
    · refine Xd.cast (xd_slT (xd_call T (hr.mono (by decide)) (xad_cons (xd_name 5) xa_nil) fun G Φ q => ⟨r, rfl, q⟩) po_none ro_none po_x (ro_x (i := ((if (k : Int) < t then (filsOf r).length else i.toNat : Nat) : Int)) ?_)) ?_
      · refine xd_if (t := decide ((k : Int) < t)) (xb_lt (xd_name 4) (xd_name 1) rfl) (fun hd => ?_) fun hd => ?_
        · rw [if_pos (of_decide_eq_true hd)]
          refine Xd.cast (xd_lenT B (xd_call T (hr.mono (by decide)) (xad_cons (xd_name 5) xa_nil) fun G Φ q => ⟨r, rfl, q⟩)) ?_
          rw [List.length_map]
        · rw [if_neg (of_decide_eq_false hd)]
          refine Xd.cast (xd_name 2) ?_
          show intV i = intV (i.toNat : Nat)
          rw [Int.toNat_of_nonneg hi]
      · rw [cut_take]
        rfl
    · show _ = (l, Cell.lst ((trUp rows t i k ++ trFs k (isOrd r) []).map pairD)) :: G
      rw [show trFs k (isOrd r) [] = [] from rfl, List.append_nil]
    · rintro j d ρ2 G2 hd ⟨b6, b7, b8, rfl, rfl⟩
      obtain ⟨⟨fp, fz, fn⟩, hf, rfl⟩ := of_map_at hd
      refine ⟨[some (rowsV rows), some (intV t), some (intV i), some (.a l), some (intV k), some (.d (rowD r)), some (intV fp), some (intV fz), some (.d (optD fn))], rg_tup rfl (rgs_cons rg_name (rgs_cons rg_name (rgs_cons rg_name rgs_nil))), ?_⟩
      have hl1 := trUp_len hok t i k
      have hl2 := trFs_len k (isOrd r) ((cutF r t i k).take j)
      have hl3 := cutF_len r t i k
      have hl4 : ((cutF r t i k).take j).length ≤ (cutF r t i k).length := by
        rw [List.length_take]
        omega
      have hl5 := hfs.1
      have hl6 := hok.1
      have hz1 : (((trUp rows t i k ++ trFs k (isOrd r) ((cutF r t i k).take j))).map pairD).length < 50000 := by
        rw [List.length_map, List.length_append]
        omega
      have e1 := trFs_snoc k (isOrd r) (cutF r t i k) j hf
      -- two appends, each under its test
      refine xss_cons (M := At [some (rowsV rows), some (intV t), some (intV i), some (.a l), some (intV k), some (.d (rowD r)), some (intV fp), some (intV fz), some (.d (optD fn))] ((l, .lst ((trUp rows t i k ++ trFs k (isOrd r) ((cutF r t i k).take j) ++ (if isOrd r = true then [((k : Int), fz)] else [])).map pairD)) :: G)) (xs_ifD (t := isOrd r) (xb_tag (xd_name 5) fun tag ds e => ?_) (fun h1 => ?_) fun h2 => ?_) fun ρ3 G3 q3 => ?_
      · obtain ⟨tag2, ds2, e2, h2, _⟩ := tag_row r
        rw [e] at e2
        injection e2 with e3
        injection e3 with e4 _
        injection e4 with e5
        subst e5
        exact h2
      · refine xss_one ((xs_app1 (d := pairD ((k : Int), fz)) (xd_name 3) (xd_tup (ds := [.int k, .int fz]) (xad_cons (xd_name 4) (xad_cons (xd_name 7) xa_nil)) (by show 2 ≤ 100000; decide)) (by omega)).imp fun ρ' G2 q => ⟨q.1, ?_⟩)
        rw [q.2, if_pos h1, List.map_append (l₂ := [((k : Int), fz)])]
        rfl
      · refine xss_nil ⟨rfl, ?_⟩
        rw [if_neg (by rw [h2]; decide), List.append_nil]
      · rw [q3.1, q3.2]
        have hz2 : ((trUp rows t i k ++ trFs k (isOrd r) ((cutF r t i k).take j) ++ (if isOrd r = true then [((k : Int), fz)] else [])).map pairD).length < 100000 := by
          rw [List.length_map] at hz1 ⊢
          rw [List.length_append (as := trUp rows t i k ++ _)]
          have : (if isOrd r = true then [((k : Int), fz)] else []).length ≤ 1 := by split <;> simp
          omega
        cases fn with
        | none =>
          refine xss_one (xs_ifD (t := false) (xb_notn (xd_name 8) rfl) (fun h => nomatch h) fun _ => xss_nil ⟨_, _, _, rfl, ?_⟩)
          rw [e1, ← List.append_assoc]
          unfold one
          rw [List.append_nil]
        | some n =>
          refine xss_one (xs_ifD (t := true) (xb_notn (xd_name 8) rfl) (fun _ => xss_one ((xs_app1 (d := pairD (n, fz)) (xd_name 3) (xd_tup (ds := [.int n, .int fz]) (xad_cons (xd_name 8) (xad_cons (xd_name 7) xa_nil)) (by show 2 ≤ 100000; decide)) hz2).imp fun ρ' G2 q => ⟨_, _, _, q.1, ?_⟩)) fun h => nomatch h)
          rw [q.2, e1, ← List.append_assoc]
          unfold one
          rw [← List.append_assoc, List.map_append (l₂ := [(n, fz)])]
          rfl
    · rintro ρ2 G2 ⟨b6, b7, b8, rfl, rfl⟩
      refine ⟨b6, b7, b8, rfl, ?_⟩
      rw [List.length_map, List.take_length]
    -- the call's pairs
    · obtain ⟨b6, b7, b8, rfl, rfl⟩ := q2
      have hps := pairsOf_ok hrok
      have hl1 := trUp_len hok t i k
      have hl2 := trFs_len k (isOrd r) (cutF r t i k)
      have hl3 := cutF_len r t i k
      have hl5 := hfs.1
      have hl6 := hok.1
      have hat : trAt rows t i k = trFs k (isOrd r) (cutF r t i k) ++ (if (k : Int) < t then pairsOf r else []) := by
        unfold trAt
        rw [hrk]
      have fin : ∀ ps : List (Int × Int), ps = (if (k : Int) < t then pairsOf r else []) → (l, Cell.lst ((trUp rows t i k ++ trFs k (isOrd r) (cutF r t i k)).map pairD ++ ps.map pairD)) :: G = (l, Cell.lst ((trUp rows t i (k + 1)).map pairD)) :: G := fun ps e => by
        rw [trUp_succ, hat, e, ← List.append_assoc, List.map_append (l₂ := (if (k : Int) < t then pairsOf r else []))]
      obtain ⟨tag, ds, e, _, h3, _⟩ := tag_row r
      refine xss_one (xs_ifI (t := (decide (tag = u "call")) && decide ((k : Int) < t)) (xti_and (Xb.i (xb_tag (xd_name 5) fun tag2 ds2 e2 => ?_)) fun _ => Xb.i (xb_lt (xd_name 4) (xd_name 1) rfl)) (fun hd => ?_) fun hd => ?_)
      · rw [e] at e2
        injection e2 with e3
        injection e3 with e4 _
        injection e4 with e5
        rw [e5]
      · rw [Bool.and_eq_true, h3] at hd
        cases r with
        | call p ps =>
          refine xss_one (xs_expr (Φe := fun y G2 => G2 = (l, .lst ((trUp rows t i (k + 1)).map pairD)) :: G) (xp_extend (ys := ps.map pairD) (G1 := []) (G2 := G) (xd_name 3) (xd_ixT (xd_name 5) xd_int rfl) rfl ?_ ?_) fun x G2 q => ⟨hn, _, _, _, _, _, rfl, q⟩)
          · rw [List.length_map, List.length_map, List.length_append]
            have h7 : ps.length ≤ 30 := hps.1
            omega
          · exact fin ps (by rw [if_pos (of_decide_eq_true hd.2)]; rfl)
        | order m sd p z fs => cases hd.1
        | prints fs => cases hd.1
        | cancel n => cases hd.1
        | closed => cases hd.1
      · refine xss_nil ⟨hn, _, _, _, _, _, rfl, ?_⟩
        have := fin [] ?_
        · rw [← this, List.map_nil, List.append_nil]
        · by_cases h8 : (k : Int) < t
          · rw [if_pos h8]
            rw [h3, show decide ((k : Int) < t) = true from decide_eq_true h8, Bool.and_true] at hd
            cases r with
            | call p ps => cases hd
            | order m sd p z fs => rfl
            | prints fs => rfl
            | cancel n => rfl
            | closed => rfl
          · rw [if_neg h8]
  · rintro n ρ1 G1 ⟨rfl, a4, a5, a6, a7, a8, rfl, rfl⟩
    exact ⟨a4, a5, a6, a7, a8, rfl, rfl⟩
  · obtain ⟨a4, a5, a6, a7, a8, rfl, rfl⟩ := q
    exact xss_one (xs_ret (xp_give (Xd.to (xd_name 3) ⟨l, _, G, rfl, rfl, hq⟩)))
end
end K8

set_option Elab.async false
set_option linter.all false
set_option maxRecDepth 100000
set_option maxHeartbeats 8000000
namespace Fsh
open PySem PySem.Spec L2
section
variable {X : Cx} {e a b : Expr} {ρ : Fsh.Env} {G : Store} {pos : Pos}
theorem ints_rps {K : PySem.W.Frag} {B : Hp} {vs : List V} {ns : List Int} (r : Rps K B vs (ns.map PyData.int)) : vs = ns.map V.int := by
  induction ns generalizing vs with
  | nil => cases r; rfl
  | cons n ns ih =>
    cases r with
    | cons r1 r2 =>
      cases r1
      rw [ih r2]
      rfl
theorem inV_ints (n : Int) (ns : List Int) : inV (V.int n) (ns.map V.int) = decide (n ∈ ns) := by
  unfold inV
  rw [Bool.eq_iff_iff, decide_eq_true_iff, List.any_eq_true]
  constructor
  · rintro ⟨y, hy, he⟩
    obtain ⟨m, hm, rfl⟩ := List.mem_map.mp hy
    have : m = n := of_decide_eq_true he
    exact this ▸ hm
  · intro h
    exact ⟨_, List.mem_map.mpr ⟨n, h, rfl⟩, decide_eq_true rfl⟩
theorem xb_niI {n : Int} {ns : List Int} {r : Bool} (ha : Xd X a ρ (.d (.int n))) (hb : Xd X b ρ (.d (.list (ns.map PyData.int)))) (h : (!decide (n ∈ ns)) = r) (hm : behindInMarks .NotIn b = false := by rfl) : Xb X (.Compare a [.NotIn] [b] pos) ρ r := h ▸ xt_cmpD op_notIn_seq ha hb (fun G F B H v u Q c r1 r2 k => by
  cases r1
  cases r2 with
  | rlst p z =>
    have e := ints_rps z
    subst e
    refine ⟨_, _, rfl, .inl (Evl.ex_l c.ex p), rfl, List.all_eq_true.mpr fun y hy => ?_, ?_⟩
    · obtain ⟨m, _, rfl⟩ := List.mem_map.mp hy
      rfl
    · rw [if_pos rfl, inV_ints]
      exact k.ret (x := .d (.bool _)) c (.rbl _) ⟨rfl, rfl⟩) hm
end
end Fsh
namespace K8
open PySem PySem.Spec L2 Fsh Rec
section
variable {P : Program} {w : World} {K : PySem.W.Frag} {mg : Str → Option Value} {base : Heap}
theorem f_rest {f : Addr} {fd : FuncData} (F1 : Fun K "_law_rest" "_law_rest" sRest f fd) (hm : mg "_law_rest" = some (.ref f)) (B : Bn mg) (T : Fn P w K mg base 2 "_law_trades" ["_law_rows", "_law_t", "_law_i"] zTr) : Fn P w K mg base 3 "_law_rest" ["_law_rows", "_law_n", "_law_t", "_law_i"] zRest := by
  refine fn_rule F1 scRest (F1.binds fun _ _ _ _ _ _ us hl => match us, hl with | [_, _, _, _], _ => rfl) hm (fun xs G Φ h => by obtain ⟨_, _, _, _, rfl, _⟩ := h; rfl) fun cdv A outer s H E hr xs G Φ hz => ?_
  obtain ⟨rows, n, t, i, rfl, hok, ht, ht2, hi, ⟨m, sd, p, z, fs, hn⟩, hq⟩ := hz
  refine xss_one (xs_ret (Xd.to (Xd.cast (xd_sub (xd_ixT (i := 4) (ds := [.str "order", .str m, .str sd, .int p, .int z, .tuple (fs.map filD)]) (xd_ixL (xd_name 0) (xd_name 1) (at_map rowD hn)) xd_int rfl)
    (xd_sum (ns := ((trades rows t i).filter fun p => decide (p.1 = (n : Int))).map (·.2)) B (Xl.data (Xl.cast (xl_filL (trades rows t i) pairD (fun p => .int p.2) (fun p => decide (p.1 = (n : Int))) (fun q => [some (rowsV rows), some (intV n), some (intV t), some (intV i), some (intV q.1), some (intV q.2)]) scRest.nd
      (xd_call T (hr.mono (by decide)) (xad_cons (xd_name 0) (xad_cons (xd_name 2) (xad_cons (xd_name 3) xa_nil))) fun G Φ q => ⟨rows, t, i, rfl, hok, ht, ht2, hi, q⟩)
      (blkOk_by (own := [("_law_m", 4), ("_law_size", 5)]) (N := NRest) (sc := defScope sRest) (by decide +kernel)) (fun _ _ _ _ _ => pg_tup (n := 2) rfl (pgs_cons (pg_name (i := 4) scRest.nd rfl (Or.inl rfl)) (pgs_cons (pg_name (i := 5) scRest.nd rfl (Or.inl rfl)) pgs_nil))) (by decide) (Nat.le_trans (trades_len hok t i) (by decide)) (fun x _ => rg_tup rfl (rgs_cons rg_name (rgs_cons rg_name rgs_nil)))
      (fun x hx z => xb_eqi (xd_name 4) (xd_name 1) rfl) (fun x hx h z => xd_name 5)) ?_)))) ?_) hq))
  · rw [List.map_map]
    rfl
  · show intV _ = intV _
    unfold restM
    rw [hn]
    rfl
theorem f_ords {f : Addr} {fd : FuncData} (F1 : Fun K "_law_orders" "_law_orders" sOrds f fd) (hm : mg "_law_orders" = some (.ref f)) (B : Bn mg) : Fn P w K mg base 1 "_law_orders" ["_law_rows"] zOrds := by
  refine fn_rule F1 scOrds (F1.binds fun _ _ _ _ _ _ us hl => match us, hl with | [_], _ => rfl) hm (fun xs G Φ h => by obtain ⟨_, rfl, _⟩ := h; rfl) fun cdv A outer s H E hr xs G Φ hz => ?_
  obtain ⟨rows, rfl, hok, hq⟩ := hz
  have h1 := hok.1
  refine xss_one (xs_ret (Xd.to (Xl.data (xl_filR rows.length (fun k => .int k) (fun k => match rows[k]? with | some r => isOrd r | none => false) (fun k => [some (rowsV rows), some (intV k)]) scOrds.nd B.range
    (xad_cons (Xd.cast (xd_lenL B (xd_name 0)) (by rw [List.length_map])) xa_nil) (by omega)
    (blkOk_by (own := [("_law_k", 1)]) (N := NOrds) (sc := defScope sOrds) (by decide +kernel)) (fun _ _ _ _ _ => pg_name (i := 1) scOrds.nd rfl (Or.inl rfl)) (by decide) (fun x => rg_name) (fun k hk z => ?_) (fun k hk h z => xd_name 1))) hq))
  obtain ⟨r, hr⟩ : ∃ r, rows[k]? = some r := ⟨_, List.getElem?_eq_getElem hk⟩
  rw [hr]
  refine xb_tag (xd_ixL (xd_name 0) (xd_name 1) (at_map rowD hr)) fun tag ds e => ?_
  obtain ⟨tag2, ds2, e2, h2, _⟩ := tag_row r
  rw [e] at e2
  injection e2 with e3
  injection e3 with e4 _
  injection e4 with e5
  rw [e5]
  exact h2
end
end K8

set_option Elab.async false
set_option linter.all false
set_option maxRecDepth 100000
set_option maxHeartbeats 8000000
namespace Fsh
open PySem PySem.Spec L2
section
variable {X : Cx} {e a b : Expr} {ρ : Fsh.Env} {G : Store} {Φ : Pst} {pos : Pos}
theorem xp_dnew (q : ∀ l, Φ (.a l) ((l, .dct []) :: G)) : Xp X (.Dict [] [] pos) ρ G Φ := xp_of pe_dnewK fun F σ B H Q c s k p hp =>
  k _ (.a p) _ B _ (Evl.Ex.refl B) (c.cell (x := .dct []) hp ⟨[], upd_same, .nil⟩) rfl (q p)
end
end Fsh
namespace Rec
open PySem PySem.Spec L2 Fsh
def isCan : RowM → Bool
  | .cancel _ => true
  | _ => false
def isCall : RowM → Bool
  | .call _ _ => true
  | _ => false
def canN : RowM → PyData
  | .cancel n => .int n
  | _ => .none
theorem gone_eq (L : List RowM) : (L.filter isCan).map canN = (L.filterMap cancelN).map PyData.int := by
  induction L with
  | nil => rfl
  | cons r L ih =>
    cases r with
    | cancel n =>
      show canN (.cancel n) :: (L.filter isCan).map canN = PyData.int n :: (L.filterMap cancelN).map PyData.int
      rw [ih]
      rfl
    | order m s p z fs => exact ih
    | prints fs => exact ih
    | closed => exact ih
    | call p ps => exact ih
end Rec
namespace K8
open PySem PySem.Spec L2 Fsh Rec
section
variable {P : Program} {w : World} {K : PySem.W.Frag} {mg : Str → Option Value} {base : Heap}
theorem tag_can {r : RowM} {tag : Str} {ds : List PyData} (e : rowD r = .tuple (.str tag :: ds)) : decide (tag = u "cancel") = isCan r := by
  obtain ⟨tag2, ds2, e2, _, _, h⟩ := tag_row r
  rw [e] at e2
  injection e2 with e3
  injection e3 with e4 _
  injection e4 with e5
  rw [e5, h]
  cases r <;> rfl
theorem tag_call {r : RowM} {tag : Str} {ds : List PyData} (e : rowD r = .tuple (.str tag :: ds)) : decide (tag = u "call") = isCall r := by
  obtain ⟨tag2, ds2, e2, _, h, _⟩ := tag_row r
  rw [e] at e2
  injection e2 with e3
  injection e3 with e4 _
  injection e4 with e5
  rw [e5, h]
  cases r <;> rfl
theorem ord_is {rows : List RowM} {k : Nat} (h : k ∈ ordersM rows) : ∃ m s p z fs, rows[k]? = some (.order m s p z fs) := by
  unfold ordersM at h
  rw [List.mem_filter] at h
  cases hz : rows[k]? with
  | none =>
    rw [hz] at h
    cases h.2
  | some r =>
    rw [hz] at h
    cases r with
    | order m s p z fs => exact ⟨m, s, p, z, fs, rfl⟩
    | cancel n => cases h.2
    | prints fs => cases h.2
    | closed => cases h.2
    | call p ps => cases h.2
theorem found_ord {rows : List RowM} {t : Int} {k : Nat} (h : k ∈ foundM rows t) : k ∈ ordersM rows := by
  unfold foundM at h
  exact (List.mem_filter.mp h).1
theorem look_sum (L : List (Int × Int)) (k : Int) : (look (encI (dsum L)) (.inl k)).getD (intV 0) = intV (sumOf L k) := by
  rw [look_enc, ← dsum_get]
  cases getI (dsum L) k <;> rfl
theorem ords_len (rows : List RowM) : (ordersM rows).length ≤ rows.length := by
  unfold ordersM
  refine Nat.le_trans (List.length_filter_le _ _) ?_
  rw [List.length_range]
  exact Nat.le_refl _
theorem found_len (rows : List RowM) (t : Int) : (foundM rows t).length ≤ rows.length := by
  unfold foundM
  exact Nat.le_trans (List.length_filter_le _ _) (ords_len rows)
theorem f_open {f : Addr} {fd : FuncData} (F1 : Fun K "_law_open" "_law_open" sOpen f fd) (hm : mg "_law_open" = some (.ref f)) (B : Bn mg) (T : Fn P w K mg base 2 "_law_trades" ["_law_rows", "_law_t", "_law_i"] zTr) (T2 : Fn P w K mg base 1 "_law_orders" ["_law_rows"] zOrds) : Fn P w K mg base 3 "_law_open" ["_law_rows", "_law_t", "_law_i"] zOpen := by
  refine fn_rule F1 scOpen (F1.binds fun _ _ _ _ _ _ us hl => match us, hl with | [_, _, _], _ => rfl) hm (fun xs G Φ h => by obtain ⟨_, _, _, rfl, _⟩ := h; rfl) fun cdv A outer s H E hr xs G Φ hz => ?_
  obtain ⟨rows, t, i, rfl, hok, ht, ht2, hi, hq⟩ := hz
  have h1 := hok.1
  have hu := Nat.lt_of_le_of_lt (Nat.add_le_add_left (by decide : 1 ≤ 64) _) hr.units
  -- the cancelled
  refine xss_at (xs_setD 3 (y := .d (.list ((goneM rows t).map PyData.int))) (Xl.data (Xl.cast (xl_filL (rows.take t.toNat) rowD canN isCan (fun r => [some (rowsV rows), some (intV t), some (intV i), none, none, none, none, none, some (.d (rowD r))]) scOpen.nd
    (Xl.data (Xl.cast (xl_sl (l := none) (h := some t) (xd_name 0) po_none ro_none po_x (ro_x (xd_name 1))) ?_))
    (blkOk_by (own := [("_law_row", 8)]) (N := NOpen) (sc := defScope sOpen) (by decide +kernel)) (fun _ _ _ _ _ => pg_name (i := 8) scOpen.nd rfl (Or.inl rfl)) (by decide) (Nat.le_trans (List.length_take_le _ _) (by omega)) (fun x _ => rg_name)
    (fun r hr z => xb_tag (xd_name 8) fun tag ds e => tag_can e) (fun r hr h z => ?_)) ?_)) scOpen.nd) ?_
  · have := cut_take rowD rows t.toNat
    rw [Int.toNat_of_nonneg ht] at this
    exact this
  · cases r with
    | cancel n => exact xd_ixT (xd_name 8) xd_int rfl
    | order m s p z fs => cases h
    | prints fs => cases h
    | closed => cases h
    | call p ps => cases h
  · exact gone_eq _
  -- the traded
  refine xss_cons (M := fun ρ' G' => ∃ l, ρ' = [some (rowsV rows), some (intV t), some (intV i), some (.d (.list ((goneM rows t).map PyData.int))), some (.a l), none, none, none, none] ∧ G' = (l, .dct []) :: G) (xs_set 4 (Φe := fun y G2 => ∃ l, y = .a l ∧ G2 = (l, .dct []) :: G) (xp_dnew fun l => ⟨l, rfl, rfl⟩) (fun y G2 q => by obtain ⟨l, e1, e2⟩ := q; exact ⟨l, by rw [e1]; rfl, e2⟩) scOpen.nd) fun ρ' G' q => ?_
  obtain ⟨l, rfl, rfl⟩ := q
  refine xss_cons (M := fun ρ1 G1 => ∃ a5 a6, ρ1 = [some (rowsV rows), some (intV t), some (intV i), some (.d (.list ((goneM rows t).map PyData.int))), some (.a l), a5, a6, none, none] ∧ G1 = (l, .dct (encI (dsum (trades rows t i)))) :: G)
    (xs_forL (js := [5] ++ ([6] ++ [])) (ds := (trades rows t i).map pairD) (fun j ρ1 G1 => ∃ a5 a6, ρ1 = [some (rowsV rows), some (intV t), some (intV i), some (.d (.list ((goneM rows t).map PyData.int))), some (.a l), a5, a6, none, none] ∧ G1 = (l, .dct (encI (dsum ((trades rows t i).take j)))) :: G) PassesOwn.never
      (xd_call T (hr.mono (by decide)) (xad_cons (xd_name 0) (xad_cons (xd_name 1) (xad_cons (xd_name 2) xa_nil))) fun G Φ q => ⟨rows, t, i, rfl, hok, ht, ht2, hi, q⟩)
      (pg_tup (n := 2) rfl (pgs_cons (pg_name (i := 5) scOpen.nd rfl (.inl rfl)) (pgs_cons (pg_name (i := 6) scOpen.nd rfl (.inl rfl)) pgs_nil))) ⟨none, none, rfl, rfl⟩ ?_ ?_) fun ρ' G' q => ?_
  · rintro j d ρ1 G1 hd ⟨a5, a6, rfl, rfl⟩
    obtain ⟨⟨n, z⟩, hf, rfl⟩ := of_map_at hd
    refine ⟨[some (rowsV rows), some (intV t), some (intV i), some (.d (.list ((goneM rows t).map PyData.int))), some (.a l), some (intV n), some (intV z), none, none], rg_tup rfl (rgs_cons rg_name (rgs_cons rg_name rgs_nil)), ?_⟩
    have e1 : encI (dsum ((trades rows t i).take (j + 1))) = putD (encI (dsum ((trades rows t i).take j))) (.inl n) (intV (sumOf ((trades rows t i).take j) n + z)) := by
      rw [List.take_add_one, hf]
      show encI (dsum (_ ++ [(n, z)])) = _
      rw [dsum_snoc, dsum_get, ← put_enc]
    refine xss_one (xs_dput (k := .inl n) hu (xi_add (i := sumOf ((trades rows t i).take j) n) (j := z) (xp_dget2 (k := .inl n) (y := intV 0) hu (xd_name 4) (xd_name 5) xd_int List.mem_cons_self ⟨look_sum _ _, rfl⟩) ((xd_name 6).g)) (xd_name 4) (xd_name 5) fun x G2 q => ⟨[], _, G, q.2, ?_, _, _, rfl, ?_⟩)
    · have h2 := dsum_len ((trades rows t i).take j)
      have h3 : ((trades rows t i).take j).length ≤ _ := List.length_take_le' _ _
      have h4 := trades_len hok t i
      have h5 : (encI (dsum ((trades rows t i).take j))).length = (dsum ((trades rows t i).take j)).length := List.length_map ..
      omega
    · rw [q.1, e1]
      rfl
  · rintro ρ1 G1 ⟨a5, a6, rfl, rfl⟩
    refine ⟨a5, a6, rfl, ?_⟩
    rw [List.length_map, List.take_length]
  obtain ⟨a5, a6, rfl, rfl⟩ := q
  refine xss_at (xs_setLcD 7 (ds := (foundM rows t).map fun (k : Nat) => PyData.int k) (lm_filL (ordersM rows) (fun (k : Nat) => PyData.int k) (fun (k : Nat) => PyData.int k) (fun k => decide ((k : Int) < t) && !decide ((k : Int) ∈ goneM rows t)) (fun k => [some (rowsV rows), some (intV t), some (intV i), some (.d (.list ((goneM rows t).map PyData.int))), some (.a l), some (intV k), a6, none, none]) scOpen.nd
    (xd_call T2 (hr.mono (by decide)) (xad_cons (xd_name 0) xa_nil) fun G Φ q => ⟨rows, rfl, hok, q⟩)
    (blkOk_by (own := [("_law_n", 5)]) (N := NOpen) (sc := defScope sOpen) (by decide +kernel)) (fun _ _ _ _ _ => pg_name (i := 5) scOpen.nd rfl (Or.inl rfl)) (by decide) (Nat.le_trans (ords_len rows) (by omega)) (fun x _ => rg_name)
    (fun k hk z G => xti_and (xb_lt (xd_name 5) (xd_name 1) rfl G) fun _ => xb_niI (xd_name 5) (xd_name 3) rfl rfl G) (fun k hk h z => xd_name 5))) ?_
  refine xss_one (xs_ret (R.lose (xp_give ((xi_filL (foundM rows t) (fun (k : Nat) => PyData.int k) (fun (k : Nat) => PyData.int k) (fun k => decide (sumOf (trades rows t i) k < (match rows[k]? with | some r => Rec.sizeOf r | none => 0))) (fun k => [some (rowsV rows), some (intV t), some (intV i), some (.d (.list ((goneM rows t).map PyData.int))), some (.a l), some (intV k), a6, some (.d (.list ((foundM rows t).map fun (k : Nat) => PyData.int k))), none]) scOpen.nd
    (xd_name 7) (blkOk_by (own := [("_law_n", 5)]) (N := NOpen) (sc := defScope sOpen) (by decide +kernel)) (fun _ _ _ _ _ => pg_name (i := 5) scOpen.nd rfl (Or.inl rfl)) (by decide) (Nat.le_trans (found_len rows t) (by omega)) (fun x _ => rg_name)
    (fun k hk z => ?_) (fun k hk h z => (xd_name 5).g)).imp fun y G2 q => ?_))))
  · obtain ⟨m, sd, p, zz, fs, hn⟩ := ord_is (found_ord hk)
    refine xti_gt (s := zz) (t := sumOf (trades rows t i) k) ((xd_ixT (i := 4) (ds := [.str "order", .str m, .str sd, .int p, .int zz, .tuple (fs.map filD)]) (xd_ixL (xd_name 0) (xd_name 5) (at_map rowD hn)) xd_int rfl).g) (xp_dget2 (k := .inl (k : Int)) (y := intV 0) hu (xd_name 4) (xd_name 5) xd_int List.mem_cons_self ⟨look_sum _ _, rfl⟩) ?_
    rw [hn]
    rfl
  · obtain ⟨l2, e1, e2⟩ := q
    exact ⟨l2, _, _, e1, e2, _, _, rfl, hq⟩
end
end K8

set_option Elab.async false
set_option linter.all false
set_option maxRecDepth 100000
set_option maxHeartbeats 8000000
namespace K8
open PySem PySem.Spec L2 Fsh Rec
abbrev sRdr : Stmt := topG 9
abbrev sDraw : Stmt := topG 10
abbrev NRdr : List Str := ["_law_script"]
abbrev NDraw : List Str := ["_law_reader_here", "_law_many", "_law_calls", "_law_figure", "_law_spot", "_law_cells", "_law_cell", "_law_once"]
theorem scRdr : FnScope NRdr ["_law_script"] (defScope sRdr) := ⟨rfl, rfl, rfl, by decide +kernel, rfl, by decide +kernel, by decide +kernel⟩
theorem scDraw : FnScope NDraw ["_law_reader_here", "_law_many"] (defScope sDraw) := ⟨rfl, rfl, rfl, by decide +kernel, rfl, by decide +kernel, by decide +kernel⟩
def rdC (c : Addr) (sp rs cl : Int) : List (Key × DV) := [(.inr "cells", .a c), (.inr "spot", intV sp), (.inr "rest", intV rs), (.inr "calls", intV cl)]
def rdG (c : Addr) (cs : List Int) (r : Addr) (sp rs cl : Int) : Store := [(c, .lst (cs.map PyData.int)), (r, .dct (rdC c sp rs cl))]
/-- the reader, after n draws at most -/
def Rd (n : Int) (r : Addr) (G : Store) : Prop := ∃ c cs sp rs cl, G = rdG c cs r sp rs cl ∧ cs.length ≤ 63 ∧ 0 ≤ sp ∧ 0 ≤ rs ∧ 0 ≤ cl ∧ cl ≤ n
def zRdr : Fsh.Spec := fun xs G Φ => ∃ cs : List Int, xs = [.d (.list (cs.map PyData.int))] ∧ cs.length ≤ 63 ∧ ∀ r Gr, Rd 0 r Gr → Φ (.a r) (Gr ++ G)
def zDraw : Fsh.Spec := fun xs G Φ => ∃ r n m Gr G', xs = [.a r, intV m] ∧ G = Gr ++ G' ∧ Rd n r Gr ∧ n < 1000000 ∧ 0 < m ∧ m < 1073741824 ∧ ∀ i Gr', 0 ≤ i → i < m → Rd (n + 1) r Gr' → Φ (intV i) (Gr' ++ G')
theorem noLs_ints : ∀ ns : List Int, noLs (ns.map PyData.int) = true
  | [] => rfl
  | n :: ns => by
    rw [List.map_cons]
    have := noLs_ints ns
    unfold noLs
    rw [this]
    rfl
theorem Rd.noL {n : Int} {r : Addr} {G : Store} (h : Rd n r G) : ∀ p ∈ G, noLc p.2 = true := by
  obtain ⟨c, cs, sp, rs, cl, rfl, _⟩ := h
  intro p hp
  simp only [rdG, List.mem_cons, List.not_mem_nil, or_false] at hp
  rcases hp with e | e <;> subst e
  · exact noLs_ints cs
  · rfl
theorem Rd.mono {n m : Int} {r : Addr} {G : Store} (h : Rd n r G) (l : n ≤ m) : Rd m r G := by
  obtain ⟨c, cs, sp, rs, cl, h1, h2, h3, h4, h5, h6⟩ := h
  exact ⟨c, cs, sp, rs, cl, h1, h2, h3, h4, h5, Int.le_trans h6 l⟩
theorem rd_look (cs : Addr) (sp rs cl : Int) : look (rdC cs sp rs cl) (.inr "cells") = some (.a cs) ∧ look (rdC cs sp rs cl) (.inr "spot") = some (intV sp) ∧ look (rdC cs sp rs cl) (.inr "rest") = some (intV rs) ∧ look (rdC cs sp rs cl) (.inr "calls") = some (intV cl) := by
  refine ⟨rfl, rfl, rfl, rfl⟩
theorem rd_put (cs : Addr) (sp rs cl n : Int) : putD (rdC cs sp rs cl) (.inr "spot") (intV n) = rdC cs n rs cl ∧ putD (rdC cs sp rs cl) (.inr "rest") (intV n) = rdC cs sp n cl ∧ putD (rdC cs sp rs cl) (.inr "calls") (intV n) = rdC cs sp rs n := by
  refine ⟨rfl, rfl, rfl⟩
section
variable {P : Program} {w : World} {K : PySem.W.Frag} {mg : Str → Option Value} {base : Heap}
theorem f_rdr {f : Addr} {fd : FuncData} (F1 : Fun K "_law_reader" "_law_reader" sRdr f fd) (hm : mg "_law_reader" = some (.ref f)) (B : Bn mg) : Fn P w K mg base 1 "_law_reader" ["_law_script"] zRdr := by
  refine fn_rule F1 scRdr (F1.binds fun _ _ _ _ _ _ us hl => match us, hl with | [_], _ => rfl) hm (fun xs G Φ h => by obtain ⟨o, rfl, _⟩ := h; rfl) fun cdv A outer s H E hr xs G Φ hz => ?_
  obtain ⟨cs, rfl, hl, hq⟩ := hz
  have e : cutD (cs.map PyData.int) none (some 63) = cs.map PyData.int := by
    have h1 := cut_take PyData.int cs 63
    rw [List.take_of_length_le hl] at h1
    exact h1
  exact xss_one (xs_ret (xp_dispL (kvs := [(.inr "spot", intV 0), (.inr "rest", intV 0), (.inr "calls", intV 0)]) (xl_listL B (Xl.data (Xl.cast (xl_sl (l := none) (h := some 63) (xd_name 0) po_none ro_none po_x (ro_x xd_int)) e))) (.cons xd_int (.cons xd_int (.cons xd_int .nil))) (by decide) (fun c => rfl) fun l c => hq l _ ⟨c, cs, 0, 0, 0, rfl, hl, by decide, by decide, by decide, by decide⟩))
end
end K8

set_option Elab.async false
set_option linter.all false
set_option maxRecDepth 100000
set_option maxHeartbeats 8000000
namespace K8
open PySem PySem.Spec L2 Fsh Rec
section
variable {P : Program} {w : World} {K : PySem.W.Frag} {mg : Str → Option Value} {base : Heap}
theorem xs_rdput {X : Cx} {a o e : Expr} {ρ : Fsh.Env} {pos pos' : Pos} {Φ : Pst} {c r : Addr} {cs : List Int} {k : Key} {x : DV} {s1 r1 c1 s2 r2 c2 : Int} {G' : Store} (he : putD (rdC c s1 r1 c1) k x = rdC c s2 r2 c2) (hu : X.A.units + 1 < cLine) (hv : Xi X a ρ (rdG c cs r s1 r1 c1 ++ G') x) (ho : Xd X o ρ (.a r)) (hi : Xd X e ρ (keyD k))
    (hs : swapsWith a (some (.Subscript o e pos')) pos.line X.env = pure false := by rfl) : Xs X (.Assign [.Subscript o e pos'] a pos) ρ (rdG c cs r s1 r1 c1 ++ G') (At ρ (rdG c cs r s2 r2 c2 ++ G')) Φ := by
  have h := xs_dputI (Φ := Φ) (pos := pos) (G1 := [(c, .lst (cs.map PyData.int))]) (kvs := rdC c s1 r1 c1) (G2 := G') hu hv ho hi (by show 4 ≤ 100000; decide) hs
  rw [he] at h
  exact h
theorem f_draw {f : Addr} {fd : FuncData} (F1 : Fun K "_law_draw" "_law_draw" sDraw f fd) (hm : mg "_law_draw" = some (.ref f)) (B : Bn mg) : Fn P w K mg base 1 "_law_draw" ["_law_reader_here", "_law_many"] zDraw := by
  refine fn_rule F1 scDraw (F1.binds fun _ _ _ _ _ _ us hl => match us, hl with | [_, _], _ => rfl) hm (fun xs G Φ h => by obtain ⟨_, _, _, _, _, rfl, _⟩ := h; rfl) fun cdv A outer s H E hr xs G Φ hz => ?_
  obtain ⟨r, n, m, Gr, G', rfl, rfl, ⟨c, cs, sp, rs, cl, rfl, hcs, hsp, hrs, hcl, hcn⟩, hn, hm0, hm1, hq⟩ := hz
  have cm : ∀ a b d : Int, (c, Cell.lst (cs.map PyData.int)) ∈ rdG c cs r a b d ++ G' := fun a b d => List.mem_cons_self
  have rm : ∀ a b d : Int, (r, Cell.dct (rdC c a b d)) ∈ rdG c cs r a b d ++ G' := fun a b d => List.mem_cons_of_mem _ List.mem_cons_self
  have hu := Nat.lt_of_le_of_lt (Nat.add_le_add_left (by decide : 1 ≤ 64) _) hr.units
  have hmn : m ≠ 0 := by omega
  have hdv : CDivN rs m := ⟨hmn, by omega⟩
  refine xss_at (xs_setI 2 (y := intV (cl + 1)) (xi_add (xi_dget (k := .inr "calls") hu (xd_name 0) xd_str (rm _ _ _) (rd_look c sp rs cl).2.2.2) xd_int.g) scDraw.nd) ?_
  refine xss_at (xs_rdput (rd_put c sp rs cl (cl + 1)).2.2 (k := .inr "calls") hu (xd_name 2).g (xd_name 0) xd_str) ?_
  have fin : ∀ (i sp' rs' : Int), 0 ≤ i → i < m → 0 ≤ sp' → 0 ≤ rs' → Φ (intV i) (rdG c cs r sp' rs' (cl + 1) ++ G') := fun i sp' rs' h1 h2 h3 h4 => hq i _ h1 h2 ⟨c, cs, sp', rs', cl + 1, rfl, hcs, h3, h4, by omega, by omega⟩
  refine xss_at (xs_ifI (t := decide (0 < rs)) (xti_gt (xi_dget (k := .inr "rest") hu (xd_name 0) xd_str (rm _ _ _) (rd_look c sp rs (cl + 1)).2.2.1) xd_int.g rfl) (fun hd => ?_) fun hd => xss_nil ⟨rfl, rfl⟩) ?_
  · refine xss_at (xs_setI 3 (y := intV (rs.fmod m)) (xi_mod (xi_int B (xi_dget (k := .inr "rest") hu (xd_name 0) xd_str (rm _ _ _) (rd_look c sp rs (cl + 1)).2.2.1)) (xd_name 1).g hmn) scDraw.nd) ?_
    refine xss_at (xs_rdput (rd_put c sp rs (cl + 1) (rs.fdiv m)).2.1 (k := .inr "rest") hu (xi_fdiv (xi_dget (k := .inr "rest") hu (xd_name 0) xd_str (rm _ _ _) (rd_look c sp rs (cl + 1)).2.2.1) (xd_name 1).g hdv) (xd_name 0) xd_str) ?_
    exact xss_one (xs_ret (Xd.to (xd_name 3) (fin _ _ _ (Int.fmod_nonneg_of_pos _ hm0) (Int.fmod_lt_of_pos _ hm0) hsp (Int.fdiv_nonneg hrs (by omega)))))
  · refine xss_at (xs_setI 4 (y := intV sp) (xi_dget (k := .inr "spot") hu (xd_name 0) xd_str (rm _ _ _) (rd_look c sp rs (cl + 1)).2.1) scDraw.nd) ?_
    refine xss_at (xs_rdput (rd_put c sp rs (cl + 1) (sp + 1)).1 (k := .inr "spot") (x := intV (sp + 1)) hu (xd_add (xd_name 4) xd_int).g (xd_name 0) xd_str) ?_
    refine xss_at (xs_setI 5 (y := .a c) (xi_dget (k := .inr "cells") hu (xd_name 0) xd_str (rm _ _ _) (rd_look c (sp + 1) rs (cl + 1)).1) scDraw.nd) ?_
    refine xss_cons (M := fun ρ' G2 => ∃ cv, ρ' = [some (.a r), some (intV m), some (intV (cl + 1)), none, some (intV sp), some (.a c), some (intV cv), none] ∧ G2 = rdG c cs r (sp + 1) rs (cl + 1) ++ G')
      (xs_set 6 (Φe := fun y G2 => ∃ cv, y = intV cv ∧ G2 = rdG c cs r (sp + 1) rs (cl + 1) ++ G') (xp_if (Φc := IsT (decide ((0 : Int) < ((cs.map PyData.int).length : Nat))) (rdG c cs r (sp + 1) rs (cl + 1) ++ G')) (xti_gt (xi_lenC B (xd_name 5) (cm _ _ _)) xd_int.g rfl) (fun G1 hd => ?_) fun G1 hd => by rw [hd.2]; exact Xd.to xd_int ⟨_, rfl, rfl⟩) (fun y G2 q => by obtain ⟨cv, e1, e2⟩ := q; exact ⟨cv, by rw [e1]; rfl, e2⟩) scDraw.nd) fun ρ' G2 q => ?_
    · have hl : (0 : Int) < ((cs.map PyData.int).length : Nat) := of_decide_eq_true hd.1.symm
      have h1 := Int.fmod_nonneg_of_pos sp hl
      have h2 := Int.fmod_lt_of_pos sp hl
      obtain ⟨cv, hcv⟩ : ∃ cv, cs[(sp.fmod ((cs.map PyData.int).length : Nat)).toNat]? = some cv := ⟨_, List.getElem?_eq_getElem (by rw [List.length_map] at *; omega)⟩
      have h3 := at_map PyData.int hcv
      rw [Int.toNat_of_nonneg h1] at h3
      rw [hd.2]
      exact Xi.to (xi_ixC (xd_name 5) (xi_mod (xd_intc B (xd_name 4)).g (xi_lenC B (xd_name 5) (cm _ _ _)) (by omega)) (cm _ _ _) h3) ⟨cv, rfl, rfl⟩
    · obtain ⟨cv, rfl, rfl⟩ := q
      refine xss_at (xs_ifI (t := decide (sp < ((cs.map PyData.int).length : Nat)) && decide ((10 : Int) ^ (18 : Int).toNat ≤ cv)) (xti_and (xti_lt (xd_name 4).g (xi_lenC B (xd_name 5) (cm _ _ _)) rfl) fun _ => xti_ge (xd_name 6).g (xd_pow xd_int xd_int ⟨by decide, by decide, by decide⟩).g rfl) (fun hd => ?_) fun hd => xss_nil ⟨rfl, rfl⟩) ?_
      · rw [Bool.and_eq_true] at hd
        have hc0 : 0 ≤ cv := Int.le_trans (by decide) (of_decide_eq_true hd.2)
        refine xss_at (xs_rdput (rd_put c (sp + 1) rs (cl + 1) (cv.fdiv m)).2.1 (k := .inr "rest") hu (xd_fdiv (xd_name 6) (xd_name 1) ⟨hmn, hdv.2⟩).g (xd_name 0) xd_str) ?_
        exact xss_one (xs_ret (Xd.to (xd_mod (xd_intc B (xd_name 6)) (xd_name 1) hmn) (fin _ _ _ (Int.fmod_nonneg_of_pos _ hm0) (Int.fmod_lt_of_pos _ hm0) (by omega) (Int.fdiv_nonneg hc0 (by omega)))))
      · have h1 := Int.fmod_nonneg_of_pos cv (show (0 : Int) < 2147483629 by decide)
        have h2 := Int.fmod_lt_of_pos cv (show (0 : Int) < 2147483629 by decide)
        refine xss_at (xs_setD 7 (y := intV _) (xd_mod (xd_intc B (xd_pow (xd_add (xd_add (xd_mod (xd_intc B (xd_name 6)) xd_int (by decide)) (xd_mul xd_int (xd_name 2) (.inl (by decide)))) xd_int) xd_int ⟨by decide, by decide, ?_⟩)) xd_int (by decide)) scDraw.nd) ?_
        · have : 6131 * (cl + 1) < 6131 * 1000001 := by omega
          omega
        · have h3 := Int.fmod_nonneg_of_pos ((cv.fmod 2147483629 + 6131 * (cl + 1) + 37) ^ (5 : Int).toNat) (show (0 : Int) < 2147483647 by decide)
          have h4 := Int.fmod_lt_of_pos ((cv.fmod 2147483629 + 6131 * (cl + 1) + 37) ^ (5 : Int).toNat) (show (0 : Int) < 2147483647 by decide)
          have h5 : 0 ≤ 4177 * (cl + 1) * (cl + 1) := Int.mul_nonneg (by omega) (by omega)
          have h6 : 4177 * (cl + 1) * (cl + 1) ≤ 4177 * 1000001 * 1000001 := Int.mul_le_mul (by omega) (by omega) (by omega) (by decide)
          refine xss_one (xs_ret (Xd.to (xd_mod (xd_intc B (xd_fdiv (xd_mod (xd_intc B (xd_pow (xd_add (xd_name 7) (xd_mul (xd_mul xd_int (xd_name 2) (.inl (by decide))) (xd_name 2) (.inr (by omega)))) xd_int ⟨by decide, by decide, ?_⟩)) xd_int (by decide)) xd_int ⟨by decide, by decide⟩)) (xd_name 1) hmn) (fin _ _ _ (Int.fmod_nonneg_of_pos _ hm0) (Int.fmod_lt_of_pos _ hm0) (by omega) hrs)))
          omega
end
end K8

set_option Elab.async false
set_option linter.all false
set_option maxRecDepth 100000
set_option maxHeartbeats 8000000
namespace K8
open PySem PySem.Spec L2 Fsh Rec
theorem cut_sub {α : Type} (f : α → PyData) (xs : List α) (l h : Option Int) : ∃ ys : List α, cutD (xs.map f) l h = ys.map f ∧ (∀ y ∈ ys, y ∈ xs) ∧ ys.length ≤ xs.length := by
  unfold cutD
  rw [← List.map_drop, ← List.map_take]
  refine ⟨_, rfl, fun y hy => List.mem_of_mem_drop (List.mem_of_mem_take hy), ?_⟩
  rw [List.length_take, List.length_drop]
  omega
section
variable {P : Program} {w : World} {K : PySem.W.Frag} {mg : Str → Option Value} {base : Heap}
theorem f_shut {f : Addr} {fd : FuncData} (F1 : Fun K "_law_is_shut" "_law_is_shut" sShut f fd) (hm : mg "_law_is_shut" = some (.ref f)) (B : Bn mg) : Fn P w K mg base 1 "_law_is_shut" ["_law_rows", "_law_t"] zShut := by
  refine fn_rule F1 scShut (F1.binds fun _ _ _ _ _ _ us hl => match us, hl with | [_, _], _ => rfl) hm (fun xs G Φ h => by obtain ⟨_, rfl, _⟩ := h; rfl) fun cdv A outer s H E hr xs G Φ hz => ?_
  obtain ⟨rows, rfl, hok, hq⟩ := hz
  have hu := hr.units
  refine xss_one (xs_ret (xp_and (Φa := fun y G2 => y = .d (.bool (decide ((0 : Int) < rows.length))) ∧ G2 = G) (Xd.to (xv_gt (xd_name 1) xd_int rfl) ⟨_, rfl, rfl, rfl⟩) (fun G1 q => ?_) fun G1 q => by rw [q.2]; exact hq false))
  have e2 := q.2
  subst e2
  have hp : (0 : Int) < rows.length := by
    have e1 := q.1
    injection e1 with e1
    injection e1 with e1
    exact of_decide_eq_true e1.symm
  obtain ⟨r, hr0⟩ : ∃ r, rows[0]? = some r := ⟨_, List.getElem?_eq_getElem (by omega)⟩
  have hrk := hok.2 r (List.mem_of_getElem? hr0)
  obtain ⟨ys, ey, hy, hyl⟩ := cut_sub rowD rows (some 1) (some (rows.length : Int))
  have n1 : Nice 3 200000 (.tuple [.str "closed"]) := nice_row (r := .closed) True.intro
  refine xp_and (Φa := fun y G2 => G2 = G1) (Xd.to (xv_eqd hu (xd_ixL (xd_name 0) xd_int (at_map rowD hr0)) (xd_tup (ds := [.str "closed"]) (xad_cons xd_str xa_nil)) ((nice_row hrk).shaped (by decide)) (n1.shaped (by decide)) rfl) ⟨_, rfl, rfl⟩) (fun G2 q2 => ?_) fun G2 q2 => by rw [q2]; exact hq false
  rw [q2]
  refine xp_one (Xd.to (xv_eqd hu (Xl.data (xl_filL ys rowD rowD isCall (fun r => [some (rowsV rows), some (intV rows.length), some (.d (rowD r))]) scShut.nd (Xl.data (Xl.cast (xl_sl (l := some 1) (h := some (rows.length : Int)) (xd_name 0) po_x (ro_x xd_int) po_x (ro_x (xd_name 1))) ey))
    (blkOk_by (own := [("_law_row", 2)]) (N := NShut) (sc := defScope sShut) (by decide +kernel)) (fun _ _ _ _ _ => pg_name (i := 2) scShut.nd rfl (Or.inl rfl)) (by decide) (by have := hok.1; omega) (fun x _ => rg_name)
    (fun r hr z => xb_tag (xd_name 2) fun tag ds e => tag_call e) (fun r hr h z => xd_name 2))) (Xl.data (xl_lst (ds := []) xa_nil)) ?_ ((nice_rows (rows := []) (by decide) (fun r h => by cases h)).2.shaped (by decide)) rfl) (hq _))
  refine (nice_rows (rows := ys.filter isCall) ?_ fun r h => hok.2 r (hy r (List.mem_filter.mp h).1)).2.shaped (by decide)
  exact Nat.le_trans (List.length_filter_le _ _) (Nat.le_trans hyl hok.1)
end
end K8

set_option Elab.async false
set_option linter.all false
set_option maxRecDepth 100000
set_option maxHeartbeats 2000000
namespace Fsh
open PySem PySem.Spec L2
section
variable {X : Cx} {e a b : Expr} {ρ : Fsh.Env} {G : Store} {Φ : Pst} {pos : Pos}
theorem x_binL {op : Operator} {r : R2} {y : DV} {Φa : Pst} (ho : OpR X (binaryOp op) r) (ha : Xp X a ρ G Φa) (hb : Xd X b ρ y) (hr : ∀ x G2, Φa x G2 → Op X.K r x y G2 Φ) : Xp X (.BinOp a op b pos) ρ G Φ :=
  x_bin (Φb := fun x z G2 => z = y ∧ Φa x G2) ho ha (fun x G1 q => Xd.to hb ⟨rfl, q⟩) fun x G1 z G2 q1 q2 => by rw [q2.1]; exact hr x G2 q2.2
theorem xs_imp {st : Stmt} {N N1 : Fsh.Env → Store → Prop} (h : Xs X st ρ G N1 Φ) (q : ∀ ρ' G', N1 ρ' G' → N ρ' G') : Xs X st ρ G N Φ := RS.imp h q
theorem xs_par (i j : Nat) {x y : Str} {px py pt pt2 : Pos} {kt k2 : Nat} {N : Fsh.Env → Store → Prop} {Φl : List DV → Store → Prop} (h : Xa X [a, b] ρ G Φl) (hg : ∀ xs G2, Φl xs G2 → ∃ x y, xs = [x, y] ∧ N ((ρ.set i (some x)).set j (some y)) G2) (hN : X.N.Nodup) (hc : X.calm = true := by rfl) (hi : X.N[i]? = some x := by rfl) (hj : X.N[j]? = some y := by rfl) (hij : i ≠ j := by decide)
    (hx : X.env.scope.names.lookup x = some .local := by rfl) (hy : X.env.scope.names.lookup y = some .local := by rfl) (hw : swappedStores [.Tuple [.Name x px, .Name y py] kt pt] (.Tuple [a, b] k2 pt2) X.env = pure (some [x, y]) := by rfl)
    (hs : swapsWithSole [.Tuple [.Name x px, .Name y py] kt pt] (.Tuple [a, b] k2 pt2) pos.line X.env = pure false := by rfl) : Xs X (.Assign [.Tuple [.Name x px, .Name y py] kt pt] (.Tuple [a, b] k2 pt2) pos) ρ G N Φ :=
  xs_of (ps_par hc hN hi hj hij hx hy pa_tw hw hs) (rs_par h hg)
/-- two arguments, both with a choice -/
theorem xa_two {Φa : Pst} {Φl : List DV → Store → Prop} (ha : Xp X a ρ G Φa) (hb : ∀ x G1, Φa x G1 → Xp X b ρ G1 fun y G2 => Φl [x, y] G2) (hs : starEach [a, b] X.env = (false, eval a X.env) :: starEach [b] X.env := by rfl) (hs2 : starEach [b] X.env = (false, eval b X.env) :: starEach [] X.env := by rfl) : Xa X [a, b] ρ G Φl :=
  xa_cons (Φr := fun x ys G2 => Φl (x :: ys) G2) ha (fun x G1 q => xa_last (hb x G1 q) (fun y G2 z => z) hs2) (fun x G1 xs G2 q1 q2 => q2) hs
theorem thaw_at {l : Addr} {xs : List PyData} {i : Nat} (h : ρ[i]? = some (some (.a l))) : (thawE l xs ρ)[i]? = some (some (.d (.list xs))) := by
  unfold thawE
  rw [List.getElem?_map, h]
  show some (if l = l then some (DV.d (.list xs)) else some (.a l)) = _
  rw [if_pos rfl]
theorem eqv_nil (ds : List PyData) : PyData.eqv (.list ds) (.list []) = ds.isEmpty := by
  cases ds <;> simp [PyData.eqv, PyData.eqvAll]
end
end Fsh
namespace K8
open PySem PySem.Spec L2 Fsh Rec
abbrev sNew : Stmt := topG 17
abbrev NNew : List Str := ["_law_reader_here", "_law_rows", "_law_most", "_law_left", "_law_side", "_law_limit", "_law_found", "_law_t", "_law_k", "_law_late", "_law_n", "_law_there", "_law_one", "_law_used", "_law_room", "_law_price"]
theorem scNew : FnScope NNew ["_law_reader_here", "_law_rows", "_law_most", "_law_left", "_law_side", "_law_limit"] (defScope sNew) := ⟨rfl, rfl, rfl, by decide +kernel, rfl, by decide +kernel, by decide +kernel⟩
def sideD : Option Str → PyData
  | none => .none
  | some s => .str s
def zNew : Fsh.Spec := fun xs G Φ => ∃ (r : Addr) (n : Int) (rows : List RowM) (most left limit : Int) (side : Option Str) (Gr G' : Store), xs = [.a r, rowsV rows, intV most, intV left, .d (sideD side), intV limit] ∧ G = Gr ++ G' ∧ Rd n r Gr ∧ n < 900000 ∧ okRs rows ∧ rows.length ≤ 30 ∧ 0 ≤ most ∧ most ≤ 5 ∧ 0 ≤ limit ∧ limit ≤ 1000 ∧
  ∀ fs Gr', okFs fs → (∀ f ∈ fs, 0 ≤ f.2.1) → Rd (n + 100) r Gr' → Φ (.d (.tuple (fs.map filD))) (Gr' ++ G')
theorem lil_of {n : Int} (h1 : -100000 ≤ n) (h2 : n ≤ 100000) : lil n := by
  unfold lil
  have h : n.natAbs < 2 ^ 200 := Nat.lt_of_lt_of_le (show n.natAbs < 100001 by omega) (by decide)
  by_cases z : n.natAbs = 0
  · rw [z]
    decide
  · exact (Nat.log2_lt z).mpr h
section
variable {P : Program} {w : World} {K : PySem.W.Frag} {mg : Str → Option Value} {base : Heap}
section
variable {X : Cx} {e e2 : Expr} {ρ : Fsh.Env} {Φ : Pst} {pos p : Pos} {k : Nat}
/-- a draw, the reader anywhere in the store -/
theorem xp_draw {G1 Gr G2 : Store} {r : Addr} {n m : Int} (Fx : Fn X.prog X.w X.K X.mg X.base k "_law_draw" ["_law_reader_here", "_law_many"] zDraw) (hr : Room k X.A) (hc : Rd n r Gr) (hn : n < 1000000) (h0 : 0 < m) (h1 : m < 1073741824) (ha : Xa X [e, e2] ρ (G1 ++ (Gr ++ G2)) (IsA [.a r, intV m] (G1 ++ (Gr ++ G2))))
    (h : ∀ i Gr', 0 ≤ i → i < m → Rd (n + 1) r Gr' → Φ (intV i) (G1 ++ (Gr' ++ G2))) (hg : Gl X "_law_draw" := by rfl)
    (hst : starEach [e, e2] X.env = (false, eval e X.env) :: starEach [e2] X.env := by rfl) (hpl : (backTo pos (starEach [e2] X.env)).any (·.1) = false := by rfl) : Xp X (.Call (.Name "_law_draw" p) [e, e2] [] pos) ρ (G1 ++ (Gr ++ G2)) Φ :=
  xp_call Fx hr ha (fun xs G' q => ⟨G1, Gr ++ G2, q.2, r, n, m, Gr, G2, q.1, rfl, hc, hn, h0, h1, h⟩) hg (by decide) hst hpl
end
def ordSide : RowM → Str
  | .order _ s _ _ _ => s
  | _ => u ""
def ordPrice : RowM → Int
  | .order _ _ p _ _ => p
  | _ => 0
def at_ (rows : List RowM) (k : Nat) : RowM := rows[k]?.getD .closed
theorem late_ok {rows : List RowM} (h : okRs rows) (hl : rows.length ≤ 30) {fs : List Fil} (hf : okFs fs) : okRs (rows ++ [.prints fs]) := by
  refine ⟨by rw [List.length_append]; show rows.length + 1 ≤ 40; omega, fun r hr => ?_⟩
  rcases List.mem_append.mp hr with hr | hr
  · exact h.2 r hr
  · rw [List.mem_singleton] at hr
    subst hr
    exact hf
/-- an open order of the rows so far, seen from the row behind them -/
theorem open_late {rows : List RowM} {fs : List Fil} {i : Int} {k : Nat} (h : k ∈ openM (rows ++ [.prints fs]) rows.length i) : (∃ m s p z fs', rows[k]? = some (.order m s p z fs') ∧ (rows ++ [.prints fs])[k]? = some (.order m s p z fs')) := by
  obtain ⟨⟨m, s, p, z, fs', e⟩, h2, _⟩ := open_is h
  have h3 : k < rows.length := by omega
  rw [List.getElem?_append_left h3] at e
  exact ⟨m, s, p, z, fs', e, by rw [List.getElem?_append_left h3]; exact e⟩
theorem xd_row {X : Cx} {a b : Expr} {ρ : Fsh.Env} {pos p2 p3 : Pos} {rows : List RowM} {k : Nat} {m s : Str} {p z : Int} {fs : List Fil} {i : Int} {j : Nat} {d : PyData} (ha : Xd X a ρ (rowsV rows)) (hb : Xd X b ρ (intV k)) (h : rows[k]? = some (.order m s p z fs)) (hi : atI [.str "order", .str m, .str s, .int p, .int z, .tuple (fs.map filD)] i = some d) (hs : PlainIx b := by exact fun _ _ => rfl) : Xd X (.Subscript (.Subscript a b p2) (.Constant (.int i) j p3) pos) ρ (.d d) :=
  xd_ixT (ds := [.str "order", .str m, .str s, .int p, .int z, .tuple (fs.map filD)]) (xd_ixL ha hb (at_map rowD h) hs) xd_int hi
abbrev eN (r : Addr) (rows : List RowM) (most left : Int) (side : Option Str) (limit : Int) (l : Addr) (t8 t9 t10 t11 t12 t13 t14 t15 : Option DV) : Fsh.Env := [some (.a r), some (rowsV rows), some (intV most), some (intV left), some (.d (sideD side)), some (intV limit), some (.a l), some (intV rows.length), t8, t9, t10, t11, t12, t13, t14, t15]
theorem shaped_ints (ks : List Nat) : SeqAt.shaped (.list (ks.map fun (k : Nat) => PyData.int k)) = true := by
  have h : PyData.canLayAll0 (ks.map fun (k : Nat) => PyData.int k) = true ∧ PyData.depthAll (ks.map fun (k : Nat) => PyData.int k) = 0 := by
    induction ks with
    | nil => exact ⟨by simp only [List.map_nil, PyData.canLayAll0], by simp only [List.map_nil, PyData.depthAll]⟩
    | cons a ks ih => exact ⟨by simp only [List.map_cons, PyData.canLayAll0, ih.1, PyData.canLay0]; rfl, by simp only [List.map_cons, PyData.depthAll, ih.2, PyData.depth]; rfl⟩
  unfold SeqAt.shaped
  simp only [PyData.canLay0, h.1, PyData.depth, h.2]
  decide
abbrev ksV (ks : List Nat) : DV := .d (.list (ks.map fun (k : Nat) => PyData.int k))
abbrev oI (o : Option Nat) : Option Int := o.map Int.ofNat
theorem f_new {f : Addr} {fd : FuncData} (F1 : Fun K "_law_new_fills" "_law_new_fills" sNew f fd) (hm : mg "_law_new_fills" = some (.ref f)) (B : Bn mg) (D : Fn P w K mg base 1 "_law_draw" ["_law_reader_here", "_law_many"] zDraw) (T : Fn P w K mg base 3 "_law_open" ["_law_rows", "_law_t", "_law_i"] zOpen) (T2 : Fn P w K mg base 3 "_law_rest" ["_law_rows", "_law_n", "_law_t", "_law_i"] zRest) : Fn P w K mg base 4 "_law_new_fills" ["_law_reader_here", "_law_rows", "_law_most", "_law_left", "_law_side", "_law_limit"] zNew := by
  refine fn_rule F1 scNew (F1.binds fun _ _ _ _ _ _ us hl => match us, hl with | [_, _, _, _, _, _], _ => rfl) hm (fun xs G Φ h => by obtain ⟨_, _, _, _, _, _, _, _, _, rfl, _⟩ := h; rfl) fun cdv A outer s H E hr xs G Φ hz => ?_
  obtain ⟨r, n, rows, most, left, limit, side, Gr, G', rfl, rfl, hR, hn, hok, hl30, hm0, hm5, hl0, hl1, hq⟩ := hz
  have hD : Room 1 (A.deeper (PyProof.Rows.envOfC (Str.ofString "_law_new_fills") (defScope sNew) s.heap.objs.size f cdv)) := hr.mono (by decide)
  -- found, t
  refine xss_cons (M := fun ρ' G2 => ∃ l, ρ' = eN r rows most left side limit l none none none none none none none none ∧ G2 = (l, .lst []) :: (Gr ++ G')) ?_ fun ρ' G2 q => ?_
  · refine xs_par 6 7 (Φl := fun xs G2 => ∃ l, xs = [.a l, intV rows.length] ∧ G2 = (l, .lst []) :: (Gr ++ G')) (xa_two (Φa := fun y G2 => ∃ l, y = .a l ∧ G2 = (l, .lst []) :: (Gr ++ G')) (xl_lst (ds := []) xa_nil).g (fun y G1 q => ?_)) (fun xs G2 q => ?_) scNew.nd
    · obtain ⟨l, rfl, rfl⟩ := q
      exact Xd.to (Xd.cast (xd_lenL B (xd_name 1)) (by rw [List.length_map])) ⟨l, rfl, rfl⟩
    · obtain ⟨l, rfl, rfl⟩ := q
      exact ⟨_, _, rfl, l, rfl, rfl⟩
  obtain ⟨l, rfl, rfl⟩ := q
  refine xss_cons (M := fun ρ' G2 => ∃ fs Gr' t8 t9 t10 t11 t12 t13 t14 t15, ρ' = eN r rows most left side limit l t8 t9 t10 t11 t12 t13 t14 t15 ∧ G2 = (l, .lst (fs.map filD)) :: (Gr' ++ G') ∧ okFs fs ∧ (∀ f ∈ fs, 0 ≤ f.2.1) ∧ Rd (n + 100) r Gr') ?_ fun ρ' G2 q => ?_
  · refine xs_forR (js := [8]) (Φl := fun xs G2 => ∃ c Gr1, xs = [intV c] ∧ 0 ≤ c ∧ c ≤ most ∧ Rd (n + 1) r Gr1 ∧ G2 = (l, .lst []) :: (Gr1 ++ G'))
      (fun c k ρ1 G1 => c ≤ 5 ∧ ∃ fs Gr1 t8 t9 t10 t11 t12 t13 t14 t15, ρ1 = eN r rows most left side limit l t8 t9 t10 t11 t12 t13 t14 t15 ∧ G1 = (l, .lst (fs.map filD)) :: (Gr1 ++ G') ∧ okFs fs ∧ fs.length ≤ k ∧ Rd (n + 1 + 10 * k) r Gr1 ∧ ∀ f ∈ fs, 0 ≤ f.2.1) PassesOwn.never B.range
      (xa_last (xp_draw (G1 := [(l, .lst [])]) D hD hR (by omega) (m := most + 1) (by omega) (by omega) (xad_cons (xd_name 0) (xad_cons (xd_add (xd_name 2) xd_int) xa_nil)).i (Φ := fun y G2 => ∃ c Gr1, y = intV c ∧ 0 ≤ c ∧ c ≤ most ∧ Rd (n + 1) r Gr1 ∧ G2 = (l, .lst []) :: (Gr1 ++ G')) fun i Gr1 h1 h2 h3 => ⟨i, Gr1, rfl, h1, by omega, h3, rfl⟩) fun x G2 q => by
        obtain ⟨c, Gr1, e1, q⟩ := q
        exact ⟨c, Gr1, by rw [e1], q⟩)
      (pg_name (i := 8) scNew.nd rfl (Or.inl rfl)) ?_ ?_ ?_
    · rintro xs G1 ⟨c, Gr1, rfl, h1, h2, h3, rfl⟩
      exact ⟨c, rfl, by omega, by omega, by omega, [], Gr1, none, none, none, none, none, none, none, none, rfl, rfl, ⟨Nat.zero_le _, fun f h => by cases h⟩, Nat.zero_le _, h3.mono (by omega), fun f h => by cases h⟩
    · rintro c k ρ1 G1 hk ⟨hc5, fs, Gr1, t8, t9, t10, t11, t12, t13, t14, t15, rfl, rfl, hf, hfk, hR1, hfp⟩
      refine ⟨_, rg_name, ?_⟩
      have hN0 : n + 1 + 10 * (k : Int) < 950000 := by omega
      have hlk := late_ok hok hl30 hf
      have hks : k ≤ 5 := by omega
      have fl30 := hf.1
      -- late
      refine xss_at (xs_setI 9 (y := rowsV (rows ++ [RowM.prints fs])) (Xi.cast (xi_cat (xd_name 1).g (xi_lst (ds := [.tuple [.str "prints", .tuple (fs.map filD)]]) (xi_cons (xi_tup (ds := [.str "prints", .tuple (fs.map filD)]) (xi_cons xd_str.g (xi_cons (xi_tupC B (xd_name 6) List.mem_cons_self) (xa_nil _))) (by show 2 ≤ 100000; decide)) (xa_nil _)) (by show 1 ≤ 100000; decide)) ?_) ?_) scNew.nd) ?_
      · rw [List.length_map]
        show rows.length + 1 ≤ 100000
        omega
      · show _ = rowsV _
        unfold rowsV
        rw [List.map_append]
        rfl
      -- there
      refine xss_cons (M := fun ρ' G2 => ∃ ks : List Nat, ρ' = eN r rows most left side limit l (some (intV k)) (some (rowsV (rows ++ [RowM.prints fs]))) t10 (some (ksV ks)) t12 t13 t14 t15 ∧ G2 = (l, .lst (fs.map filD)) :: (Gr1 ++ G') ∧ (∀ kk ∈ ks, kk ∈ openM (rows ++ [RowM.prints fs]) rows.length fs.length) ∧ ks.length ≤ 40) (xs_imp (xs_setLcI 11 (ds := ((openM (rows ++ [RowM.prints fs]) rows.length fs.length).filter fun kk => match side with | none => true | some sd => !decide (ordSide (at_ rows kk) = sd)).map fun (kk : Nat) => PyData.int kk)
        (li_filL _ _ _ _ (fun kk => eN r rows most left side limit l (some (intV k)) (some (rowsV (rows ++ [RowM.prints fs]))) (some (intV kk)) t11 t12 t13 t14 t15) scNew.nd
          (xi_call T (hr.mono (by decide)) (xi_cons (xd_name 9).g (xi_cons (xd_name 7).g (xi_cons (Xi.cast (xi_lenC B (xd_name 6) List.mem_cons_self) (show _ = intV fs.length by rw [List.length_map])) (xa_nil _)))) fun G Φ q => ⟨_, _, _, rfl, hlk, by omega, by omega, by omega, q⟩)
          (blkOk_by (own := [("_law_n", 10)]) (N := NNew) (sc := defScope sNew) (by decide +kernel)) (fun _ _ _ _ _ => pg_name (i := 10) scNew.nd rfl (Or.inl rfl)) (by decide) (Nat.le_trans (open_len _ _ _) (by have := hlk.1; omega)) (fun x _ => rg_name)
          (fun kk hk z => ?_) (fun kk hk h z => (xd_name 10).g))) fun ρ2 G2 q => ⟨_, q.1, q.2, fun kk h => (List.mem_filter.mp h).1, Nat.le_trans (List.length_filter_le _ _) (Nat.le_trans (open_len _ _ _) hlk.1)⟩) fun ρ' G2 q => ?_
      · obtain ⟨m, sd2, p, zz, fs', e1, e2⟩ := open_late hk
        cases side with
        | none => exact xti_or (s := true) (t := true) (Xb.i (xb_isn (xd_name 4) rfl)) fun h => nomatch h
        | some sd =>
          refine xti_or (s := false) (Xb.i (xb_isn (xd_name 4) rfl)) fun _ => Xb.i (xb_nes (xd_row (xd_name 1) (xd_name 10) e1 rfl) (xd_name 4) ?_)
          show (!decide (sd2 = sd)) = (!decide (ordSide (at_ rows kk) = sd))
          unfold at_
          rw [e1]
          rfl
      obtain ⟨ks0, rfl, rfl, hks0, hkl0⟩ := q
      -- by the limit
      refine xss_cons (M := fun ρ' G2 => ∃ ks : List Nat, ρ' = eN r rows most left side limit l (some (intV k)) (some (rowsV (rows ++ [RowM.prints fs]))) t10 (some (ksV ks)) t12 t13 t14 t15 ∧ G2 = (l, .lst (fs.map filD)) :: (Gr1 ++ G') ∧ (∀ kk ∈ ks, kk ∈ openM (rows ++ [RowM.prints fs]) rows.length fs.length) ∧ ks.length ≤ 40)
        (xs_ifD (t := side.isSome) ?_ ?_ ?_) fun ρ' G2 q => ?_
      · exact xb_notn (xd_name 4) (by cases side <;> rfl)
      rotate_left
      · intro h; exact xss_nil ⟨ks0, rfl, rfl, hks0, hkl0⟩
      rotate_left
      · intro h
        cases side with
        | none => cases h
        | some sd =>
          refine xss_one (xs_imp (xs_setLcI 11 (ds := (ks0.filter fun kk => decide ((ordPrice (at_ rows kk) - limit) * (if sd = u "buy" then 1 else -1) ≤ 0)).map fun (kk : Nat) => PyData.int kk) ?_) fun ρ2 G2 q => ⟨_, q.1, q.2, fun kk h => hks0 kk (List.mem_filter.mp h).1, Nat.le_trans (List.length_filter_le _ _) hkl0⟩)
          refine li_filL _ _ _ _ (fun kk => eN r rows most left (some sd) limit l (some (intV k)) (some (rowsV (rows ++ [RowM.prints fs]))) (some (intV kk)) (some (ksV ks0)) t12 t13 t14 t15) scNew.nd (xd_name 11).g (blkOk_by (own := [("_law_n", 10)]) (N := NNew) (sc := defScope sNew) (by decide +kernel)) (fun _ _ _ _ _ => pg_name (i := 10) scNew.nd rfl (Or.inl rfl)) (by decide) (Nat.le_trans hkl0 (by decide)) (fun x _ => rg_name) (fun kk hk z => ?_) (fun kk hk h z => (xd_name 10).g)
          obtain ⟨m, sd2, p, zz, fs', e1, e2⟩ := open_late (hks0 kk hk)
          have sg : (if sd = u "buy" then (1 : Int) else -1) = 1 ∨ (if sd = u "buy" then (1 : Int) else -1) = -1 := by split <;> simp
          refine Xb.i (xb_le (xd_mul (j := if sd = u "buy" then 1 else -1) (xd_sub (xd_row (xd_name 1) (xd_name 10) e1 rfl) (xd_name 5)) (xd_if (t := decide (sd = u "buy")) (xb_eqs (xd_name 4) xd_str rfl) (fun h => ?_) fun h => ?_) (.inr (by omega))) xd_int ?_)
          · rw [if_pos (of_decide_eq_true h)]
            exact xd_int
          · rw [if_neg (of_decide_eq_false h)]
            exact xd_neg xd_int
          · show decide ((p - limit) * _ ≤ 0) = decide ((ordPrice (at_ rows kk) - limit) * _ ≤ 0)
            unfold at_
            rw [e1]
            rfl
      obtain ⟨ks, rfl, rfl, hks1, hkl1⟩ := q
      -- used
      refine xss_cons (M := fun ρ' G2 => ∃ v : Int, ρ' = eN r rows most left side limit l (some (intV k)) (some (rowsV (rows ++ [RowM.prints fs]))) t10 (some (ksV ks)) t12 (some (intV v)) t14 t15 ∧ G2 = (l, .lst (fs.map filD)) :: (Gr1 ++ G')) (xs_imp (xs_setI 13 (y := intV (left - (fs.map fun f => f.2.1).sum)) ?_ scNew.nd) fun ρ2 G2 q => ⟨left - (fs.map fun f => f.2.1).sum, q.1, q.2⟩) fun ρ' G2 q => ?_
      · refine xi_sub (xd_name 3).g (xi_froz (G1 := []) (y := intV (fs.map fun f => f.2.1).sum) ?_ rfl)
        refine xd_sum B (Xl.data (Xl.cast (y := fs.map fun f => .int f.2.1) ?_ (List.map_map ..).symm))
        refine xl_mapL _ _ _ _ scNew.nd (xd_name 6 (hr := thaw_at rfl)) (blkOk_by (own := [("_law_one", 12)]) (N := NNew) (sc := defScope sNew) (by decide +kernel)) (fun _ _ _ _ _ => pg_name (i := 12) scNew.nd rfl (Or.inl rfl)) (by decide) ?_ (fun x _ => rg_name) (fun f hf z => ?_)
        · omega
        · exact xd_ixT (ds := [.int f.1, .int f.2.1, optD f.2.2]) (xd_name 12) xd_int rfl
      obtain ⟨used, rfl, rfl⟩ := q
      -- whose order
      refine xss_cons (M := fun ρ' G2 => ∃ (o : Option Nat) (Gr2 : Store), ρ' = eN r rows most left side limit l (some (intV k)) (some (rowsV (rows ++ [RowM.prints fs]))) (some (.d (optD (oI o)))) (some (ksV ks)) t12 (some (intV used)) t14 t15 ∧ G2 = (l, .lst (fs.map filD)) :: (Gr2 ++ G') ∧ Rd (n + 1 + 10 * k + 2) r Gr2 ∧ ∀ kk, o = some kk → kk ∈ ks)
        (xs_set 10 (Φe := fun y G2 => ∃ (o : Option Nat) (Gr2 : Store), y = .d (optD (oI o)) ∧ G2 = (l, .lst (fs.map filD)) :: (Gr2 ++ G') ∧ Rd (n + 1 + 10 * k + 2) r Gr2 ∧ ∀ kk, o = some kk → kk ∈ ks) ?_ (fun y G2 q => ?_) scNew.nd) fun ρ' G2 q => ?_
      · refine xp_if (Φc := fun tt G2 => ∃ Gr2, Rd (n + 1 + 10 * k + 1) r Gr2 ∧ G2 = (l, .lst (fs.map filD)) :: (Gr2 ++ G') ∧ (tt = true → ks ≠ [])) (xt_w (xw_and (Φa := fun tt G2 => tt = !ks.isEmpty ∧ G2 = (l, .lst (fs.map filD)) :: (Gr1 ++ G')) ?_ (fun G1 q => xw_one ?_) fun G1 q => ?_)) (fun G1 q => ?_) fun G1 q => ?_
        · refine Xb.to (xb_ned hr.units (xd_name 11) (xl_lst (ds := []) xa_nil).data ?_ ?_ ?_) ⟨rfl, rfl⟩
          · exact shaped_ints ks
          · exact shaped_ints []
          · rw [eqv_nil, List.isEmpty_map]
        · rw [q.2]
          refine xt_gtR (xp_draw (G1 := [(l, .lst (fs.map filD))]) (m := 4) (Φ := fun y G2 => ∃ i Gr2, y = intV i ∧ Rd (n + 1 + 10 * k + 1) r Gr2 ∧ G2 = (l, .lst (fs.map filD)) :: (Gr2 ++ G')) D hD hR1 (by omega) (by decide) (by decide) (Xad.i (xad_cons (xd_name 0) (xad_cons xd_int xa_nil))) fun i Gr2 h1 h2 h3 => ⟨i, Gr2, rfl, h3, rfl⟩) fun y G2 w => ?_
          obtain ⟨i, Gr2, e1, e2, e3⟩ := w
          refine ⟨i, e1, Gr2, e2, e3, fun _ e => ?_⟩
          have := q.1
          rw [e] at this
          cases this
        · refine ⟨Gr1, hR1.mono (by omega), q.2, fun h => nomatch h⟩
        · obtain ⟨Gr2, h1, rfl, h2⟩ := q
          have hne := h2 rfl
          have hp : 0 < ks.length := List.length_pos_iff.mpr hne
          refine xp_ixL (xd_name 11) (xp_draw (G1 := [(l, .lst (fs.map filD))]) (m := ks.length) (Φ := fun y G2 => ∃ (i : Int) (Gr3 : Store), y = intV i ∧ 0 ≤ i ∧ i < ks.length ∧ Rd (n + 1 + 10 * k + 2) r Gr3 ∧ G2 = (l, .lst (fs.map filD)) :: (Gr3 ++ G')) D hD h1 (by omega) (by omega) (by omega) (Xad.i (xad_cons (xd_name 0) (xad_cons (Xd.cast (xd_lenL B (xd_name 11)) (by rw [List.length_map])) xa_nil))) fun i Gr3 h3 h4 h5 => ⟨i, Gr3, rfl, h3, h4, h5.mono (by omega), rfl⟩) fun y G2 w => ?_
          obtain ⟨i, Gr3, e1, h3, h4, h5, e2⟩ := w
          obtain ⟨kk, hkk⟩ : ∃ kk, ks[i.toNat]? = some kk := ⟨_, List.getElem?_eq_getElem (by omega)⟩
          have h6 := at_map (fun (k : Nat) => PyData.int k) hkk
          rw [Int.toNat_of_nonneg h3] at h6
          exact ⟨i, _, e1, h6, some kk, Gr3, rfl, e2, h5, fun k2 e => by rw [← Option.some.inj e]; exact List.mem_of_getElem? hkk⟩
        · obtain ⟨Gr2, h1, e2, h2⟩ := q
          exact Xd.to xd_none ⟨none, Gr2, rfl, e2, h1.mono (by omega), fun k2 e => nomatch e⟩
      · obtain ⟨o, Gr2, e1, e2, e3, e4⟩ := q
        exact ⟨o, Gr2, by rw [e1]; rfl, e2, e3, e4⟩
      obtain ⟨o, Gr2, rfl, rfl, hR2, ho⟩ := q
      -- room
      refine xss_cons (M := fun ρ' G2 => ∃ v : Int, ρ' = eN r rows most left side limit l (some (intV k)) (some (rowsV (rows ++ [RowM.prints fs]))) (some (.d (optD (oI o)))) (some (ksV ks)) t12 (some (intV used)) (some (intV v)) t15 ∧ G2 = (l, .lst (fs.map filD)) :: (Gr2 ++ G'))
        (xs_set 14 (Φe := fun y G2 => ∃ v : Int, y = intV v ∧ G2 = (l, .lst (fs.map filD)) :: (Gr2 ++ G')) ?_ (fun y G2 q => ?_) scNew.nd) fun ρ' G2 q => ?_
      · cases o with
        | none => exact xp_ifD (t := false) (xb_notn (xd_name 10) rfl) (fun h => nomatch h) fun _ => Xd.to (xd_name 13) ⟨used, rfl, rfl⟩
        | some kk =>
          obtain ⟨m, sd2, p, zz, fs', e1, e2⟩ := open_late (hks1 kk (ho kk rfl))
          refine xp_ifD (t := true) (xb_notn (xd_name 10) rfl) (fun _ => ?_) fun h => nomatch h
          refine Xi.to (xi_min (i := used) (j := restM (rows ++ [RowM.prints fs]) kk rows.length fs.length) B (xd_name 13).g ?_) ⟨_, rfl, rfl⟩
          refine xi_call T2 (hr.mono (by decide)) (xi_cons (xd_name 9).g (xi_cons (xd_name 10).g (xi_cons (xd_name 7).g (xi_cons (Xi.cast (xi_lenC B (xd_name 6) List.mem_cons_self) (show _ = intV fs.length by rw [List.length_map])) (xa_nil _))))) fun G Φ q => ?_
          exact ⟨_, kk, _, _, rfl, hlk, by omega, by omega, by omega, ⟨m, sd2, p, zz, fs', e2⟩, q⟩
      · obtain ⟨v, e1, e2⟩ := q
        exact ⟨v, by rw [e1]; rfl, e2⟩
      obtain ⟨v, rfl, rfl⟩ := q
      refine xss_one (xs_ifD (t := decide (0 < v)) ?_ ?_ ?_)
      · exact xb_gt (xd_name 14) xd_int rfl
      rotate_left
      · intro h
        exact xss_nil ⟨hc5, fs, Gr2, _, _, _, _, _, _, _, _, rfl, rfl, hf, by omega, hR2.mono (by omega), hfp⟩
      intro hv
      have hv : 0 < v := of_decide_eq_true hv
      -- the price
      refine xss_cons (M := fun ρ' G2 => ∃ (p : Int) (Gr3 : Store), ρ' = eN r rows most left side limit l (some (intV k)) (some (rowsV (rows ++ [RowM.prints fs]))) (some (.d (optD (oI o)))) (some (ksV ks)) t12 (some (intV used)) (some (intV v)) (some (intV p)) ∧ G2 = (l, .lst (fs.map filD)) :: (Gr3 ++ G') ∧ Rd (n + 1 + 10 * k + 3) r Gr3 ∧ lil p)
        (xs_set 15 (Φe := fun y G2 => ∃ (p : Int) (Gr3 : Store), y = intV p ∧ G2 = (l, .lst (fs.map filD)) :: (Gr3 ++ G') ∧ Rd (n + 1 + 10 * k + 3) r Gr3 ∧ lil p) ?_ (fun y G2 q => ?_) scNew.nd) fun ρ' G2 q => ?_
      · cases o with
        | none =>
          refine xp_ifD (t := false) (xb_notn (xd_name 10) rfl) (fun h => nomatch h) fun _ => ?_
          refine x_binR op_add xd_int (xp_draw (G1 := [(l, .lst (fs.map filD))]) (m := 5) (Φ := fun y G2 => ∃ (i : Int) (Gr3 : Store), y = intV i ∧ 0 ≤ i ∧ i < 5 ∧ Rd (n + 1 + 10 * k + 3) r Gr3 ∧ G2 = (l, .lst (fs.map filD)) :: (Gr3 ++ G')) D hD hR2 (by omega) (by decide) (by decide) (Xad.i (xad_cons (xd_name 0) (xad_cons xd_int xa_nil))) fun i Gr3 h1 h2 h3 => ⟨i, Gr3, rfl, h1, h2, h3.mono (by omega), rfl⟩) fun y G2 w => ?_
          obtain ⟨i, Gr3, rfl, h1, h2, h3, e3⟩ := w
          exact op_ii0 (fun _ => .rint _) ⟨8 + i, Gr3, rfl, e3, h3, lil_of (by omega) (by omega)⟩
        | some kk =>
          obtain ⟨m, sd2, p, zz, fs', e1, e2⟩ := open_late (hks1 kk (ho kk rfl))
          refine xp_ifD (t := true) (xb_notn (xd_name 10) rfl) (fun _ => ?_) fun h => nomatch h
          exact Xd.to (xd_row (xd_name 1) (xd_name 10) e1 rfl) ⟨p, Gr2, rfl, rfl, hR2.mono (by omega), (hok.2 _ (List.mem_of_getElem? e1)).2.2.1⟩
      · obtain ⟨p, Gr3, e1, e2⟩ := q
        exact ⟨p, Gr3, by rw [e1]; rfl, e2⟩
      obtain ⟨p0, Gr3, rfl, rfl, hR3, hp0⟩ := q
      refine xss_cons (M := fun ρ' G2 => ∃ (p : Int) (Gr3 : Store), ρ' = eN r rows most left side limit l (some (intV k)) (some (rowsV (rows ++ [RowM.prints fs]))) (some (.d (optD (oI o)))) (some (ksV ks)) t12 (some (intV used)) (some (intV v)) (some (intV p)) ∧ G2 = (l, .lst (fs.map filD)) :: (Gr3 ++ G') ∧ Rd (n + 1 + 10 * k + 4) r Gr3 ∧ lil p)
        (xs_ifI (t := isNo (optD (oI o)) && side.isSome) ?_ ?_ ?_) fun ρ' G2 q => ?_
      · exact xti_and (Xb.i (xb_isn (xd_name 10) rfl)) fun _ => Xb.i (xb_notn (xd_name 4) (by cases side <;> rfl))
      rotate_left
      · intro h
        exact xss_nil ⟨p0, Gr3, rfl, rfl, hR3.mono (by omega), hp0⟩
      rotate_left
      · intro h
        cases side with
        | none =>
          rw [Bool.and_eq_true] at h
          cases h.2
        | some sd =>
          have sg : (if sd = u "buy" then (-1 : Int) else 1) = 1 ∨ (if sd = u "buy" then (-1 : Int) else 1) = -1 := by split <;> simp
          refine xss_one (xs_set 15 (Φe := fun y G2 => ∃ (p : Int) (Gr3 : Store), y = intV p ∧ G2 = (l, .lst (fs.map filD)) :: (Gr3 ++ G') ∧ Rd (n + 1 + 10 * k + 4) r Gr3 ∧ lil p) ?_ (fun y G2 q => ?_) scNew.nd)
          · refine x_binR op_add (xd_name 5) (x_binL (y := intV (if sd = u "buy" then -1 else 1)) (Φ := fun y G2 => ∃ (i : Int) (Gr4 : Store), y = intV i ∧ -3 ≤ i ∧ i ≤ 3 ∧ Rd (n + 1 + 10 * k + 4) r Gr4 ∧ G2 = (l, .lst (fs.map filD)) :: (Gr4 ++ G')) op_mul (xp_draw (G1 := [(l, .lst (fs.map filD))]) (m := 3) (Φ := fun y G2 => ∃ (i : Int) (Gr3 : Store), y = intV i ∧ 0 ≤ i ∧ i < 3 ∧ Rd (n + 1 + 10 * k + 4) r Gr3 ∧ G2 = (l, .lst (fs.map filD)) :: (Gr3 ++ G')) D hD hR3 (by omega) (by decide) (by decide) (Xad.i (xad_cons (xd_name 0) (xad_cons xd_int xa_nil))) fun i Gr3 h1 h2 h3 => ⟨i, Gr3, rfl, h1, h2, h3.mono (by omega), rfl⟩) ?_ fun x G2 w => ?_) fun y G2 w => ?_
            · refine xd_if (t := decide (sd = u "buy")) (xb_eqs (xd_name 4) xd_str rfl) (fun h => ?_) fun h => ?_
              · rw [if_pos (of_decide_eq_true h)]
                exact xd_neg xd_int
              · rw [if_neg (of_decide_eq_false h)]
                exact xd_int
            · obtain ⟨i, Gr4, rfl, h1, h2, h3, e3⟩ := w
              refine op_ii (.inl ⟨by omega, by omega⟩) (fun _ => .rint _) ⟨i * (if sd = u "buy" then -1 else 1), Gr4, rfl, ?_, ?_, h3, e3⟩
              · rcases sg with e | e <;> rw [e] <;> omega
              · rcases sg with e | e <;> rw [e] <;> omega
            · obtain ⟨i, Gr4, rfl, h1, h2, h3, e3⟩ := w
              exact op_ii0 (fun _ => .rint _) ⟨limit + i, Gr4, rfl, e3, h3, lil_of (by omega) (by omega)⟩
          · obtain ⟨p, Gr4, e1, e2⟩ := q
            exact ⟨p, Gr4, by rw [e1]; rfl, e2⟩
      obtain ⟨p1, Gr4, rfl, rfl, hR4, hp1⟩ := q
      -- found.append
      have hb3 : (if 3 < v then 3 else v) ≤ 3 ∧ 0 < (if 3 < v then 3 else v) := by split <;> omega
      refine xss_one (xs_expr (Φe := fun y G2 => ∃ (i : Int) (Gr5 : Store), 0 ≤ i ∧ i < 3 ∧ Rd (n + 1 + 10 * k + 5) r Gr5 ∧ G2 = (l, .lst ((fs ++ [(p1, 1 + i, oI o)]).map filD)) :: (Gr5 ++ G')) (xp_append (Φe := fun y G2 => ∃ (i : Int) (Gr5 : Store), y = .d (filD (p1, 1 + i, oI o)) ∧ 0 ≤ i ∧ i < 3 ∧ Rd (n + 1 + 10 * k + 5) r Gr5 ∧ G2 = (l, .lst (fs.map filD)) :: (Gr5 ++ G')) (xd_name 6) ⟨_, List.mem_cons_self⟩ ?_ fun y G2 w => ?_) fun y G2 w => ?_)
      · refine xp_tup (Φl := fun xs G2 => ∃ (i : Int) (Gr5 : Store), xs = [intV p1, intV (1 + i), .d (optD (oI o))] ∧ 0 ≤ i ∧ i < 3 ∧ Rd (n + 1 + 10 * k + 5) r Gr5 ∧ G2 = (l, .lst (fs.map filD)) :: (Gr5 ++ G')) (xa_front (xd_name 15) (xa_two (Φa := fun y G2 => ∃ (i : Int) (Gr5 : Store), y = intV (1 + i) ∧ 0 ≤ i ∧ i < 3 ∧ Rd (n + 1 + 10 * k + 5) r Gr5 ∧ G2 = (l, .lst (fs.map filD)) :: (Gr5 ++ G')) (Φl := fun xs G2 => ∃ (i : Int) (Gr5 : Store), xs = [intV (1 + i), .d (optD (oI o))] ∧ 0 ≤ i ∧ i < 3 ∧ Rd (n + 1 + 10 * k + 5) r Gr5 ∧ G2 = (l, .lst (fs.map filD)) :: (Gr5 ++ G')) ?_ fun x G1 w => ?_) fun xs G2 w => ?_) fun xs G2 w => ?_
        · refine x_binR op_add xd_int (xp_draw (G1 := [(l, .lst (fs.map filD))]) (m := if 3 < v then 3 else v) (Φ := fun y G2 => ∃ (i : Int) (Gr3 : Store), y = intV i ∧ 0 ≤ i ∧ i < 3 ∧ Rd (n + 1 + 10 * k + 5) r Gr3 ∧ G2 = (l, .lst (fs.map filD)) :: (Gr3 ++ G')) D hD hR4 (by omega) hb3.2 (by omega) (Xad.i (xad_cons (xd_name 0) (xad_cons (xd_min B (xd_name 14) xd_int) xa_nil))) fun i Gr3 h1 h2 h3 => ⟨i, Gr3, rfl, h1, by omega, h3.mono (by omega), rfl⟩) fun y G2 w => ?_
          obtain ⟨i, Gr5, rfl, w⟩ := w
          exact op_ii0 (fun _ => .rint _) ⟨i, Gr5, rfl, w⟩
        · obtain ⟨i, Gr5, rfl, w⟩ := w
          exact Xd.to (xd_name 10) ⟨i, Gr5, rfl, w⟩
        · obtain ⟨i, Gr5, rfl, w⟩ := w
          exact ⟨i, Gr5, rfl, w⟩
        · obtain ⟨i, Gr5, rfl, w⟩ := w
          exact ⟨[.int p1, .int (1 + i), optD (oI o)], rfl, by show 3 ≤ 100000; decide, i, Gr5, rfl, w⟩
      · obtain ⟨i, Gr5, rfl, h1, h2, h3, rfl⟩ := w
        refine ⟨_, [], fs.map filD, Gr5 ++ G', rfl, rfl, by rw [List.length_map]; omega, i, Gr5, h1, h2, h3, ?_⟩
        rw [List.map_append]
        rfl
      · obtain ⟨i, Gr5, h1, h2, h3, rfl⟩ := w
        refine ⟨hc5, fs ++ [(p1, 1 + i, oI o)], Gr5, _, _, _, _, _, _, _, _, rfl, rfl, ⟨?_, fun f hf2 => ?_⟩, ?_, h3.mono (by omega), fun f hf2 => ?_⟩
        · rw [List.length_append]
          show fs.length + 1 ≤ 30
          omega
        · rcases List.mem_append.mp hf2 with h | h
          · exact hf.2 f h
          · rw [List.mem_singleton] at h
            subst h
            refine ⟨hp1, lil_of (by show -100000 ≤ 1 + i; omega) (by show 1 + i ≤ 100000; omega), fun kk he => ?_⟩
            cases o with
            | none => cases he
            | some k2 =>
              obtain ⟨m, sd2, p, zz, fs', e1, e2⟩ := open_late (hks1 k2 (ho k2 rfl))
              have h5 := (List.getElem?_eq_some_iff.mp e1).1
              have h6 : (k2 : Int) = kk := Option.some.inj he
              exact lil_of (by omega) (by omega)
        · rw [List.length_append]
          show fs.length + 1 ≤ k + 1
          omega
        · rcases List.mem_append.mp hf2 with h | h
          · exact hfp f h
          · rw [List.mem_singleton] at h
            subst h
            show 0 ≤ 1 + i
            omega
    · rintro c ρ1 G1 ⟨hc5, fs, Gr1, t8, t9, t10, t11, t12, t13, t14, t15, rfl, rfl, hf, hfk, hR1, hfp⟩
      exact ⟨fs, Gr1, t8, t9, t10, t11, t12, t13, t14, t15, rfl, rfl, hf, hfp, hR1.mono (by omega)⟩
  obtain ⟨fs, Gr', t8, t9, t10, t11, t12, t13, t14, t15, rfl, rfl, hf, hfp, hR2⟩ := q
  exact xss_one (xs_ret (R.lose (xp_tupC B (xd_name 6) List.mem_cons_self ⟨_, _, rfl, hq fs Gr' hf hfp hR2⟩)))
end
end K8

set_option Elab.async false
set_option linter.all false
set_option maxRecDepth 100000
set_option maxHeartbeats 2000000
namespace Fsh
open PySem PySem.Spec L2
theorem pick2_len {α : Type} (xs : List α) (i : Int) : (pick2 xs i).length ≤ xs.length := by
  unfold pick2
  refine Nat.le_trans (List.length_filterMap_le _ _) (sliceRange_length_le _ _ _ _ (fun hc => ?_) fun hc => ?_)
  · simp only [sliceBounds] at hc ⊢
    simp only [hc, if_true]
    constructor
    · first | omega | (simp; omega)
    · first | omega | simp
  · simp only [sliceBounds] at hc
    exact absurd (by decide) hc
theorem pick2_map {α β : Type} (f : α → β) (xs : List α) (i : Int) : pick2 (xs.map f) i = (pick2 xs i).map f := by
  unfold pick2
  rw [List.length_map, List.map_filterMap]
  congr 1
  funext j
  rw [List.getElem?_map]
section
variable {X : Cx} {e a b elt tg : Expr} {ρ : Fsh.Env} {G : Store} {Φ : Pst} {pos : Pos} {scope : Scope}
theorem xp_draw0 {k : Nat} {p : Pos} {Gr G2 : Store} {r : Addr} {n m : Int} (Fx : Fn X.prog X.w X.K X.mg X.base k "_law_draw" ["_law_reader_here", "_law_many"] K8.zDraw) (hr : Room k X.A) (hc : K8.Rd n r Gr) (hn : n < 1000000) (h0 : 0 < m) (h1 : m < 1073741824) (ha : Xa X [a, b] ρ (Gr ++ G2) (IsA [.a r, .d (.int m)] (Gr ++ G2)))
    (h : ∀ i Gr', 0 ≤ i → i < m → K8.Rd (n + 1) r Gr' → Φ (.d (.int i)) (Gr' ++ G2)) (hg : Gl X "_law_draw" := by rfl)
    (hst : starEach [a, b] X.env = (false, eval a X.env) :: starEach [b] X.env := by rfl) (hpl : (backTo pos (starEach [b] X.env)).any (·.1) = false := by rfl) : Xp X (.Call (.Name "_law_draw" p) [a, b] [] pos) ρ (Gr ++ G2) Φ :=
  K8.xp_draw (G1 := []) Fx hr hc hn h0 h1 ha h hg hst hpl
theorem LcP.give {ifs : List Expr} (h : LcP X elt tg e ifs scope ρ G fun y G2 => ∃ l xs G3, y = .a l ∧ G2 = (l, .lst xs) :: G3 ∧ Φ (.d (.list xs)) G3) : LcP X elt tg e ifs scope ρ G Φ := by
  obtain ⟨own, wi, g, tt, te, hc, hN, hi, ok, hg, ht, he, hs, r⟩ := h
  exact ⟨own, wi, g, tt, te, hc, hN, hi, ok, hg, ht, he, hs, r.give⟩
theorem xv_ge {s t : Int} {r : Bool} (ha : Xd X a ρ (.d (.int s))) (hb : Xd X b ρ (.d (.int t))) (h : decide (t ≤ s) = r) : Xd X (.Compare a [.GtE] [b] pos) ρ (.d (.bool r)) := h ▸ fun G => x_cmpD op_ge ha hb (op_ii0 (fun _ => .rbl _) ⟨rfl, rfl⟩) (nomark _)
theorem xb_eqb {s t : Bool} {r : Bool} (ha : Xd X a ρ (.d (.bool s))) (hb : Xd X b ρ (.d (.bool t))) (h : decide (s = t) = r) : Xb X (.Compare a [.Eq] [b] pos) ρ r := h ▸ xt_cmpD op_eq ha hb (fun _ => op_eqb) (nomark _)
/-- (a, b): b has a choice -/
theorem xp_tup2 {x : PyData} {x1 : Nat} {Φb : Pst} (ha : Xd X a ρ (.d x)) (hb : Xp X b ρ G Φb) (h : ∀ y G2, Φb y G2 → ∃ d, y = .d d ∧ Φ (.d (.tuple [x, d])) G2) (hs : starEach [a, b] X.env = (false, eval a X.env) :: starEach [b] X.env := by rfl) (hs2 : starEach [b] X.env = (false, eval b X.env) :: starEach [] X.env := by rfl) : Xp X (.Tuple [a, b] x1 pos) ρ G Φ :=
  xp_tup (Φl := fun xs G2 => ∃ d, xs = [.d x, .d d] ∧ Φ (.d (.tuple [x, d])) G2) (xa_two (Φa := Is (.d x) G) ha.g (fun y G1 q => by
    obtain ⟨rfl, rfl⟩ := q
    exact hb.imp fun z G2 w => by
      obtain ⟨d, e1, e2⟩ := h z G2 w
      exact ⟨d, by rw [e1], e2⟩) hs hs2) fun xs G2 q => by
    obtain ⟨d, e1, e2⟩ := q
    exact ⟨[x, d], e1, by show 2 ≤ 100000; decide, e2⟩
/-- a list of texts or ints, one of them drawn -/
theorem xp_oneof {ds : List PyData} {Φb : Pst} (ha : Xd X a ρ (.d (.list ds))) (hb : Xp X b ρ G Φb) (h : ∀ y G2, Φb y G2 → ∃ i : Int, y = .d (.int i) ∧ 0 ≤ i ∧ i < ds.length ∧ ∀ d ∈ ds, Φ (.d d) G2) (hs : PlainIx b := by exact fun _ _ => rfl) : Xp X (.Subscript a b pos) ρ G Φ :=
  xp_ixL ha hb (fun y G2 q => by
    obtain ⟨i, e1, h1, h2, h3⟩ := h y G2 q
    obtain ⟨d, hd⟩ : ∃ d, ds[i.toNat]? = some d := ⟨_, List.getElem?_eq_getElem (by omega)⟩
    have h4 : atI ds (i.toNat : Nat) = some d := atI_nat hd
    rw [Int.toNat_of_nonneg h1] at h4
    exact ⟨i, d, e1, h4, h3 d (List.mem_of_getElem? hd)⟩) hs
end
end Fsh
namespace K8
open PySem PySem.Spec L2 Fsh Rec
abbrev sRow : Stmt := topG 18
abbrev NRow : List Str := ["_law_reader_here", "_law_rows", "_law_t", "_law_shut_now", "_law_there", "_law_way", "_law_price", "_law_n", "_law_good", "_law_pairs", "_law_side", "_law_size", "_law_member", "_law_taken"]
theorem scRow : FnScope NRow ["_law_reader_here", "_law_rows"] (defScope sRow) := ⟨rfl, rfl, rfl, by decide +kernel, rfl, by decide +kernel, by decide +kernel⟩
/-- sizes as the law draws them -/
def tameR : RowM → Prop
  | .order _ _ _ z fs => z ≤ 1000 ∧ ∀ f ∈ fs, 0 ≤ f.2.1
  | .prints fs => ∀ f ∈ fs, 0 ≤ f.2.1
  | .call _ ps => ∀ q ∈ ps, 0 ≤ q.2
  | _ => True
theorem trFs_pos (s : Nat) (o : Bool) : ∀ {fs : List Fil}, (∀ f ∈ fs, 0 ≤ f.2.1) → ∀ q ∈ trFs s o fs, 0 ≤ q.2
  | [], _ => fun q hq => by cases hq
  | f :: fs, h => fun q hq => by
    have hq : q ∈ ((f :: fs).map (one s o)).flatten := hq
    rw [List.map_cons, List.flatten_cons] at hq
    rcases List.mem_append.mp hq with hq | hq
    · have hf := h f List.mem_cons_self
      unfold one at hq
      rcases List.mem_append.mp hq with hq | hq
      · split at hq
        · rw [List.mem_singleton] at hq
          subst hq
          exact hf
        · cases hq
      · split at hq
        · rw [List.mem_singleton] at hq
          subst hq
          exact hf
        · cases hq
    · exact trFs_pos s o (fun g hg => h g (List.mem_cons_of_mem _ hg)) q hq
theorem fils_tame {r : RowM} (h : tameR r) : ∀ f ∈ filsOf r, 0 ≤ f.2.1 := by
  cases r with
  | order m s p z fs => exact h.2
  | prints fs => exact h
  | cancel n => exact fun f hf => by cases hf
  | closed => exact fun f hf => by cases hf
  | call p ps => exact fun f hf => by cases hf
theorem pairs_tame {r : RowM} (h : tameR r) : ∀ q ∈ pairsOf r, 0 ≤ q.2 := by
  cases r with
  | call p ps => exact h
  | order m s p z fs => exact fun f hf => by cases hf
  | cancel n => exact fun f hf => by cases hf
  | prints fs => exact fun f hf => by cases hf
  | closed => exact fun f hf => by cases hf
theorem trAt_pos {rows : List RowM} (h : ∀ r ∈ rows, tameR r) (t i : Int) (s : Nat) : ∀ q ∈ trAt rows t i s, 0 ≤ q.2 := by
  unfold trAt
  cases z : rows[s]? with
  | none => exact fun q hq => by cases hq
  | some r =>
    have hr := h r (List.mem_of_getElem? z)
    intro q hq
    rcases List.mem_append.mp hq with hq | hq
    · exact trFs_pos s (isOrd r) (fun f hf => fils_tame hr f (List.mem_of_mem_take hf)) q hq
    · split at hq
      · exact pairs_tame hr q hq
      · cases hq
theorem sumOf_pos (L : List (Int × Int)) (n : Int) (h : ∀ q ∈ L, 0 ≤ q.2) : 0 ≤ sumOf L n := by
  induction L using snoc_ind with
  | h0 => exact Int.le_refl _
  | hs L p ih =>
    rw [sumOf_snoc]
    have h1 := ih fun q hq => h q (List.mem_append_left _ hq)
    have h2 := h p (List.mem_append_right _ List.mem_cons_self)
    split <;> omega
theorem rest_le {rows : List RowM} (h : ∀ r ∈ rows, tameR r) {k : Nat} {m s : Str} {p z : Int} {fs : List Fil} (e : rows[k]? = some (.order m s p z fs)) (t i : Int) : restM rows k t i ≤ 1000 := by
  have h1 : 0 ≤ sumOf (trades rows t i) k := sumOf_pos _ _ fun q hq => by
    unfold trades trUp at hq
    rw [List.mem_flatten] at hq
    obtain ⟨l, hl, hq⟩ := hq
    obtain ⟨s, _, rfl⟩ := List.mem_map.mp hl
    exact trAt_pos h t i s q hq
  have h2 : z ≤ 1000 := (h _ (List.mem_of_getElem? e)).1
  unfold restM
  rw [e]
  show z - _ ≤ 1000
  omega
def zRow : Fsh.Spec := fun xs G Φ => ∃ (r : Addr) (n : Int) (rows : List RowM) (Gr G' : Store), xs = [.a r, rowsV rows] ∧ G = Gr ++ G' ∧ Rd n r Gr ∧ n < 800000 ∧ okRs rows ∧ (∀ x ∈ rows, tameR x) ∧ rows.length ≤ 20 ∧
  ∀ row Gr', okR row → tameR row → Rd (n + 300) r Gr' → Φ (.d (rowD row)) (Gr' ++ G')
abbrev eR (r : Addr) (rows : List RowM) (t2 t3 t4 t5 t6 t7 t8 t9 t10 t11 t12 t13 : Option DV) : Fsh.Env := [some (.a r), some (rowsV rows), t2, t3, t4, t5, t6, t7, t8, t9, t10, t11, t12, t13]
section
variable {P : Program} {w : World} {K : PySem.W.Frag} {mg : Str → Option Value} {base : Heap}
theorem f_row {f : Addr} {fd : FuncData} (F1 : Fun K "_law_new_row" "_law_new_row" sRow f fd) (hm : mg "_law_new_row" = some (.ref f)) (B : Bn mg) (D : Fn P w K mg base 1 "_law_draw" ["_law_reader_here", "_law_many"] zDraw) (S : Fn P w K mg base 1 "_law_is_shut" ["_law_rows", "_law_t"] zShut) (T : Fn P w K mg base 3 "_law_open" ["_law_rows", "_law_t", "_law_i"] zOpen) (T2 : Fn P w K mg base 3 "_law_rest" ["_law_rows", "_law_n", "_law_t", "_law_i"] zRest)
    (W : Fn P w K mg base 4 "_law_new_fills" ["_law_reader_here", "_law_rows", "_law_most", "_law_left", "_law_side", "_law_limit"] zNew) : Fn P w K mg base 5 "_law_new_row" ["_law_reader_here", "_law_rows"] zRow := by
  refine fn_rule F1 scRow (F1.binds fun _ _ _ _ _ _ us hl => match us, hl with | [_, _], _ => rfl) hm (fun xs G Φ h => by obtain ⟨_, _, _, _, _, rfl, _⟩ := h; rfl) fun cdv A outer s H E hr xs G Φ hz => ?_
  obtain ⟨r, n, rows, Gr, G', rfl, rfl, hR, hn, hok, htm, hl20, hq⟩ := hz
  have hD : Room 1 (A.deeper (PyProof.Rows.envOfC (Str.ofString "_law_new_row") (defScope sRow) s.heap.objs.size f cdv)) := hr.mono (by decide)
  have hl20' : (rows.length : Int) ≤ 20 := by omega
  -- t, shut
  refine xss_cons (M := fun ρ' G2 => ∃ b : Bool, ρ' = eR r rows (some (intV rows.length)) (some (.d (.bool b))) none none none none none none none none none none ∧ G2 = Gr ++ G') ?_ fun ρ' G2 q => ?_
  · refine xs_asg (js := [2] ++ ([3] ++ [])) (Φe := fun y G2 => ∃ b : Bool, y = .d (.tuple [.int rows.length, .bool b]) ∧ G2 = Gr ++ G') ?_ (pg_tup (n := 2) rfl (pgs_cons (pg_name (i := 2) scRow.nd rfl (Or.inr rfl)) (pgs_cons (pg_name (i := 3) scRow.nd rfl (Or.inl rfl)) pgs_nil))) fun x G2 q => ?_
    · refine xp_tup (Φl := fun xs G2 => ∃ b : Bool, xs = [intV rows.length, .d (.bool b)] ∧ G2 = Gr ++ G') (xa_two (Φa := Is (intV rows.length) (Gr ++ G')) (Xd.g (Xd.cast (xd_lenL B (xd_name 1)) (by rw [List.length_map]))) fun x G1 q => ?_) fun xs G2 q => ?_
      · obtain ⟨rfl, rfl⟩ := q
        refine xp_call S (hr.mono (by decide)) (Xad.i (xs := [rowsV rows, intV rows.length]) (xad_cons (xd_name 1) (xad_cons (Xd.cast (xd_lenL B (xd_name 1)) (by rw [List.length_map])) xa_nil))) fun xs G2 q => ?_
        exact ⟨[], G2, rfl, rows, q.1, hok, fun b => ⟨b, rfl, q.2⟩⟩
      · obtain ⟨b, rfl, rfl⟩ := q
        exact ⟨[.int rows.length, .bool b], rfl, by show 2 ≤ 100000; decide, b, rfl, rfl⟩
    · obtain ⟨b, rfl, rfl⟩ := q
      exact ⟨_, rg_tup rfl (rgs_cons rg_name (rgs_cons rg_name rgs_nil)), b, rfl, rfl⟩
  obtain ⟨sh, rfl, rfl⟩ := q
  -- there, way
  refine xss_cons (M := fun ρ' G2 => ∃ (way : Int) (Gr1 : Store), ρ' = eR r rows (some (intV rows.length)) (some (.d (.bool sh))) (some (ksV (openM rows rows.length 0))) (some (intV way)) none none none none none none none none ∧ G2 = Gr1 ++ G' ∧ Rd (n + 1) r Gr1) ?_ fun ρ' G2 q => ?_
  · refine xs_par 4 5 (Φl := fun xs G2 => ∃ (way : Int) (Gr1 : Store), xs = [ksV (openM rows rows.length 0), intV way] ∧ G2 = Gr1 ++ G' ∧ Rd (n + 1) r Gr1) (xa_two (Φa := Is (ksV (openM rows rows.length 0)) (Gr ++ G')) ?_ (fun x G1 q => ?_)) (fun xs G2 q => ?_) scRow.nd
    · refine xi_call T (hr.mono (by decide)) (Xad.i (xs := [rowsV rows, intV rows.length, intV 0]) (xad_cons (xd_name 1) (xad_cons (xd_name 2) (xad_cons xd_int xa_nil)))) fun G Φ q => ?_
      exact ⟨rows, rows.length, 0, rfl, hok, by omega, by omega, by decide, q⟩
    · obtain ⟨rfl, rfl⟩ := q
      exact xp_draw0 (m := 8) D hD hR (by omega) (by decide) (by decide) (Xad.i (xad_cons (xd_name 0) (xad_cons xd_int xa_nil))) fun i Gr1 h1 h2 h3 => ⟨i, Gr1, rfl, rfl, h3⟩
    · obtain ⟨way, Gr1, rfl, rfl, h3⟩ := q
      exact ⟨_, _, rfl, way, Gr1, rfl, rfl, h3⟩
  obtain ⟨way, Gr1, rfl, rfl, hR1⟩ := q
  have hkk : ∀ kk ∈ openM rows rows.length 0, ∃ m s p z fs', rows[kk]? = some (.order m s p z fs') ∧ kk < rows.length ∧ 0 < restM rows kk rows.length 0 := fun kk h => by
    obtain ⟨⟨m, s, p, z, fs', e⟩, h2, h3⟩ := open_is h
    exact ⟨m, s, p, z, fs', e, by omega, h3⟩
  have hkl := open_len rows rows.length 0
  -- a call
  refine xss_at (ρ' := eR r rows (some (intV rows.length)) (some (.d (.bool sh))) (some (ksV (openM rows rows.length 0))) (some (intV way)) none none none none none none none none) (G' := Gr1 ++ G') (xs_ifI (t := sh && decide (way = 7)) ?_ ?_ ?_) ?_
  · exact xti_and (Xb.i (xb_val (xd_name 3))) fun _ => Xb.i (xb_eqi (xd_name 5) xd_int rfl)
  · intro h
    refine xss_cons (M := fun ρ' G2 => ∃ (p : Int) (Gr2 : Store), ρ' = eR r rows (some (intV rows.length)) (some (.d (.bool sh))) (some (ksV (openM rows rows.length 0))) (some (intV way)) (some (intV p)) none none none none none none none ∧ 8 ≤ p ∧ p ≤ 12 ∧ G2 = Gr2 ++ G' ∧ Rd (n + 2) r Gr2) (xs_set 6 (Φe := fun y G2 => ∃ (p : Int) (Gr2 : Store), y = intV p ∧ 8 ≤ p ∧ p ≤ 12 ∧ G2 = Gr2 ++ G' ∧ Rd (n + 2) r Gr2) ?_ (fun y G2 q => ?_) scRow.nd) fun ρ' G2 q => ?_
    · refine x_binR op_add xd_int (xp_draw0 (m := 5) (Φ := fun y G2 => ∃ (i : Int) (Gr2 : Store), y = intV i ∧ 0 ≤ i ∧ i < 5 ∧ G2 = Gr2 ++ G' ∧ Rd (n + 2) r Gr2) D hD hR1 (by omega) (by decide) (by decide) (Xad.i (xad_cons (xd_name 0) (xad_cons xd_int xa_nil))) fun i Gr2 h1 h2 h3 => ⟨i, Gr2, rfl, h1, h2, rfl, h3.mono (by omega)⟩) fun y G2 w => ?_
      obtain ⟨i, Gr3, rfl, h1, h2, e2, h4⟩ := w
      exact op_ii0 (fun _ => .rint _) ⟨8 + i, Gr3, rfl, by omega, by omega, e2, h4⟩
    · obtain ⟨p, Gr2, rfl, w⟩ := q
      exact ⟨p, Gr2, rfl, w⟩
    obtain ⟨p, Gr2, rfl, hp1, hp2, rfl, hR2⟩ := q
    -- good
    refine xss_cons (M := fun ρ' G2 => ∃ gs : List Nat, ρ' = eR r rows (some (intV rows.length)) (some (.d (.bool sh))) (some (ksV (openM rows rows.length 0))) (some (intV way)) (some (intV p)) none (some (ksV gs)) none none none none none ∧ G2 = Gr2 ++ G' ∧ (∀ kk ∈ gs, kk ∈ openM rows rows.length 0) ∧ gs.length ≤ 20) (xs_imp (xs_setLcI 8 (ds := ((openM rows rows.length 0).filter fun kk => decide (decide (p ≤ ordPrice (at_ rows kk)) = decide (ordSide (at_ rows kk) = u "buy")) || decide (ordPrice (at_ rows kk) = p)).map fun (kk : Nat) => PyData.int kk) ?_) fun ρ2 G2 q => ⟨_, q.1, q.2, fun kk h => (List.mem_filter.mp h).1, Nat.le_trans (List.length_filter_le _ _) (Nat.le_trans hkl hl20)⟩) fun ρ' G2 q => ?_
    · refine li_filL _ _ _ _ (fun kk => eR r rows (some (intV rows.length)) (some (.d (.bool sh))) (some (ksV (openM rows rows.length 0))) (some (intV way)) (some (intV p)) (some (intV kk)) none none none none none none) scRow.nd (xd_name 4).g (blkOk_by (own := [("_law_n", 7)]) (N := NRow) (sc := defScope sRow) (by decide +kernel)) (fun _ _ _ _ _ => pg_name (i := 7) scRow.nd rfl (Or.inl rfl)) (by decide) (Nat.le_trans hkl (by omega)) (fun x _ => rg_name) (fun kk hk z => ?_) (fun kk hk h z => (xd_name 7).g)
      obtain ⟨m, s2, p2, zz, fs', e1, h2, h3⟩ := hkk kk hk
      refine xti_or (Xb.i (xb_eqb (xv_ge (xd_row (xd_name 1) (xd_name 7) e1 rfl) (xd_name 6) ?_) (xv_eqs (xd_row (xd_name 1) (xd_name 7) e1 rfl) xd_str ?_) rfl)) fun _ => Xb.i (xb_eqi (xd_row (xd_name 1) (xd_name 7) e1 rfl) (xd_name 6) ?_)
      · unfold at_
        rw [e1]
        rfl
      · unfold at_
        rw [e1]
        rfl
      · unfold at_
        rw [e1]
        rfl
    obtain ⟨gs, rfl, rfl, hgs, hgl⟩ := q
    -- pairs
    refine xss_cons (M := fun ρ' G2 => ∃ (ps : List (Int × Int)) (Gr3 : Store), ρ' = eR r rows (some (intV rows.length)) (some (.d (.bool sh))) (some (ksV (openM rows rows.length 0))) (some (intV way)) (some (intV p)) none (some (ksV gs)) (some (.d (.list (ps.map pairD)))) none none none none ∧ ps.length ≤ 30 ∧ (∀ q ∈ ps, okP q ∧ 0 ≤ q.2) ∧ G2 = Gr3 ++ G' ∧ Rd (n + 40) r Gr3) (xs_setLc 9 (Φe := fun y G2 => ∃ (ps : List (Int × Int)) (Gr3 : Store), y = .d (.list (ps.map pairD)) ∧ ps.length ≤ 30 ∧ (∀ q ∈ ps, okP q ∧ 0 ≤ q.2) ∧ G2 = Gr3 ++ G' ∧ Rd (n + 40) r Gr3) (LcP.give ?_) (fun y G2 q => ?_)) fun ρ' G2 q => ?_
    · refine lcx_L (js := [7]) (Φs := fun y G2 => ∃ (hs : List Nat) (Gr3 : Store), y = ksV hs ∧ (∀ kk ∈ hs, kk ∈ openM rows rows.length 0) ∧ hs.length ≤ 20 ∧ G2 = Gr3 ++ G' ∧ Rd (n + 3) r Gr3) (fun ds => ∃ hs : List Nat, ds = hs.map (fun (kk : Nat) => PyData.int kk) ∧ (∀ kk ∈ hs, kk ∈ openM rows rows.length 0) ∧ hs.length ≤ 20) (fun ds i acc G1 => ∃ (ps : List (Int × Int)) (Gr3 : Store), acc = ps.map pairD ∧ ps.length = i ∧ (∀ q ∈ ps, okP q ∧ 0 ≤ q.2) ∧ G1 = Gr3 ++ G' ∧ Rd (n + 3 + i) r Gr3) scRow.nd ?_
        (blkOk_by (own := [("_law_n", 7)]) (N := NRow) (sc := defScope sRow) (by decide +kernel)) (fun _ _ _ _ _ => pg_name (i := 7) scRow.nd rfl (Or.inl rfl)) (by decide) (fun y G1 q => ?_) (fun ds hP i d hd => ?_) (fun l acc G3 ds hP q => ?_)
      · refine R.give (xp_pick (xd_name 8) (xp_draw0 (m := 2) (Φ := fun y G2 => ∃ (i : Int) (Gr3 : Store), y = intV i ∧ G2 = Gr3 ++ G' ∧ Rd (n + 3) r Gr3) D hD hR2 (by omega) (by decide) (by decide) (Xad.i (xad_cons (xd_name 0) (xad_cons xd_int xa_nil))) fun i Gr2 h1 h2 h3 => ⟨i, Gr2, rfl, rfl, h3.mono (by omega)⟩) fun y G2 q => ?_)
        obtain ⟨i, Gr3, rfl, rfl, h3⟩ := q
        refine ⟨i, rfl, fun l => ⟨l, _, _, rfl, rfl, pick2 gs i, Gr3, ?_, fun kk h => hgs kk (pick2_mem h), Nat.le_trans (pick2_len gs i) hgl, rfl, h3⟩⟩
        show DV.d (.list (pick2 (gs.map _) i)) = _
        rw [pick2_map]
      · obtain ⟨hs, Gr3, rfl, h1, h2, rfl, h3⟩ := q
        exact ⟨_, rfl, by rw [List.length_map]; omega, ⟨hs, rfl, h1, h2⟩, [], Gr3, rfl, rfl, (fun q hq => by cases hq), rfl, h3.mono (by omega)⟩
      · obtain ⟨hs, rfl, h1, h2⟩ := hP
        obtain ⟨kk, hk, rfl⟩ := of_map_at hd
        obtain ⟨m, s2, p2, zz, fs', e1, h3, h4⟩ := hkk kk (h1 kk (List.mem_of_getElem? hk))
        have hil := (List.getElem?_eq_some_iff.mp hk).1
        have hr5 := rest_le htm e1 rows.length 0
        refine ⟨_, rg_name, fun acc G1 q => turn_each fun z => ?_⟩
        obtain ⟨ps, Gr3, rfl, hpl, hps, rfl, hR3⟩ := q
        refine xp_tup2 (x := .int kk) (Φb := fun y G2 => ∃ (j : Int) (Gr4 : Store), y = intV (1 + j) ∧ 0 ≤ j ∧ j < 1000 ∧ G2 = Gr4 ++ G' ∧ Rd (n + 3 + i + 1) r Gr4) (xd_name 7) ?_ fun y G2 w => ?_
        · refine x_binR op_add xd_int (xp_draw0 (m := restM rows kk rows.length 0) (Φ := fun y G2 => ∃ (j : Int) (Gr4 : Store), y = intV j ∧ 0 ≤ j ∧ j < 1000 ∧ G2 = Gr4 ++ G' ∧ Rd (n + 3 + i + 1) r Gr4) D hD hR3 (by omega) h4 (by omega) (Xad.i (xad_cons (xd_name 0) (xad_cons ?_ xa_nil))) fun j Gr4 h5 h6 h7 => ⟨j, Gr4, rfl, h5, by omega, rfl, h7⟩) fun y G2 w => ?_
          · refine xd_call T2 (hr.mono (by decide)) (xad_cons (xd_name 1) (xad_cons (xd_name 7) (xad_cons (xd_name 2) (xad_cons xd_int xa_nil)))) fun G Φ q => ?_
            exact ⟨rows, kk, _, _, rfl, hok, by omega, by omega, by decide, ⟨m, s2, p2, zz, fs', e1⟩, q⟩
          · obtain ⟨j, Gr4, rfl, w⟩ := w
            exact op_ii0 (fun _ => .rint _) ⟨j, Gr4, rfl, w⟩
        · obtain ⟨j, Gr4, rfl, h5, h6, rfl, h7⟩ := w
          refine ⟨_, rfl, _, rfl, ps ++ [((kk : Int), 1 + j)], Gr4, ?_, ?_, fun q hq2 => ?_, rfl, h7.mono (by omega)⟩
          · rw [List.map_append]
            rfl
          · rw [List.length_append, hpl]
            rfl
          · rcases List.mem_append.mp hq2 with hq2 | hq2
            · exact hps q hq2
            · rw [List.mem_singleton] at hq2
              subst hq2
              exact ⟨⟨lil_of (by show -100000 ≤ (kk : Int); omega) (by show (kk : Int) ≤ 100000; omega), lil_of (by show -100000 ≤ 1 + j; omega) (by show 1 + j ≤ 100000; omega)⟩, by show 0 ≤ 1 + j; omega⟩
      · obtain ⟨hs, rfl, h1, h2⟩ := hP
        obtain ⟨ps, Gr3, rfl, hpl, hps, rfl, hR3⟩ := q
        rw [List.length_map] at hpl hR3
        exact ⟨l, _, _, rfl, rfl, ps, Gr3, rfl, by omega, hps, rfl, hR3.mono (by omega)⟩
    · obtain ⟨ps, Gr3, rfl, w⟩ := q
      exact ⟨ps, Gr3, rfl, w⟩
    obtain ⟨ps, Gr3, rfl, hpl, hps, rfl, hR3⟩ := q
    have shp : SeqAt.shaped (.list (ps.map pairD)) = true := (nice_lst (m := 30) (k := 1) (n := 1000) (fun d hd => by
      obtain ⟨q, hq, rfl⟩ := List.mem_map.mp hd
      exact nice_pair (hps q hq).1) (by rw [List.length_map]; exact hpl)).shaped (by decide)
    refine xss_one (xs_ret (xp_if (Φc := fun tt G2 => ∃ Gr4, G2 = Gr4 ++ G' ∧ Rd (n + 41) r Gr4) (xt_w (xw_or (Φa := fun tt G2 => G2 = Gr3 ++ G') ?_ (fun G1 q => xw_one ?_) fun G1 q => ?_)) (fun G1 q => ?_) fun G1 q => ?_))
    · exact Xb.to (xb_ned hr.units (xd_name 9) (xl_lst (ds := []) xa_nil).data shp (shaped_ints []) rfl) rfl
    · rw [q]
      refine xt_eqR (xp_draw0 (m := 2) (Φ := fun y G2 => ∃ (i : Int) (Gr4 : Store), y = intV i ∧ G2 = Gr4 ++ G' ∧ Rd (n + 41) r Gr4) D hD hR3 (by omega) (by decide) (by decide) (Xad.i (xad_cons (xd_name 0) (xad_cons xd_int xa_nil))) fun i Gr2 h1 h2 h3 => ⟨i, Gr2, rfl, rfl, h3.mono (by omega)⟩) fun y G2 w => ?_
      obtain ⟨i, Gr4, e1, e2, e3⟩ := w
      exact ⟨i, e1, Gr4, e2, e3⟩
    · exact ⟨Gr3, q, hR3.mono (by omega)⟩
    · obtain ⟨Gr4, rfl, h4⟩ := q
      exact Xd.to (xd_tup (ds := [.str "call", .int p, .tuple (ps.map pairD)]) (xad_cons xd_str (xad_cons (xd_name 6) (xad_cons (xd_tupL B (xd_name 9)) xa_nil))) (by show 3 ≤ 100000; decide)) (hq (.call (some p) ps) Gr4 ⟨fun k2 e => by rw [← Option.some.inj e]; exact lil_of (by omega) (by omega), hpl, fun q hq => (hps q hq).1⟩ (fun q hq => (hps q hq).2) (h4.mono (by omega)))
    · obtain ⟨Gr4, rfl, h4⟩ := q
      exact Xd.to (xd_tup (ds := [.str "call", .none, .tuple []]) (xad_cons xd_str (xad_cons xd_none (xad_cons (xd_tup (ds := []) xa_nil) xa_nil))) (by show 3 ≤ 100000; decide)) (hq (.call none []) Gr4 ⟨(fun k2 e => by cases e), Nat.zero_le _, fun q hq => by cases hq⟩ (fun q hq => by cases hq) (h4.mono (by omega)))
  · intro h
    exact xss_nil ⟨rfl, rfl⟩
  -- a cancel
  refine xss_at (ρ' := eR r rows (some (intV rows.length)) (some (.d (.bool sh))) (some (ksV (openM rows rows.length 0))) (some (intV way)) none none none none none none none none) (G' := Gr1 ++ G') (xs_ifI (t := decide (way = 6) && !(openM rows rows.length 0).isEmpty) ?_ ?_ ?_) ?_
  · refine xti_and (Xb.i (xb_eqi (xd_name 5) xd_int rfl)) fun _ => Xb.i (xb_ned hr.units (xd_name 4) (xl_lst (ds := []) xa_nil).data ?_ ?_ ?_)
    · exact shaped_ints _
    · exact shaped_ints []
    · rw [eqv_nil, List.isEmpty_map]
  · intro h
    rw [Bool.and_eq_true] at h
    have hp : 0 < (openM rows rows.length 0).length := List.length_pos_iff.mpr fun e => by
      have := h.2
      rw [e] at this
      cases this
    refine xss_one (xs_ret (xp_tup2 (x := .str "cancel") (Φb := fun y G2 => ∃ (kk : Nat) (Gr2 : Store), y = intV kk ∧ kk < 100 ∧ G2 = Gr2 ++ G' ∧ Rd (n + 2) r Gr2) xd_str ?_ fun y G2 q => ?_))
    · refine xp_oneof (xd_name 4) (xp_draw0 (m := (openM rows rows.length 0).length) (Φ := fun y G2 => ∃ (i : Int) (Gr2 : Store), y = intV i ∧ 0 ≤ i ∧ i < (openM rows rows.length 0).length ∧ G2 = Gr2 ++ G' ∧ Rd (n + 2) r Gr2) D hD hR1 (by omega) (by omega) (by omega) (Xad.i (xad_cons (xd_name 0) (xad_cons (Xd.cast (xd_lenL B (xd_name 4)) (by rw [List.length_map])) xa_nil))) fun i Gr2 h1 h2 h3 => ⟨i, Gr2, rfl, h1, h2, rfl, h3.mono (by omega)⟩) fun y G2 w => ?_
      obtain ⟨i, Gr2, e1, h1, h2, e2, h3⟩ := w
      refine ⟨i, e1, h1, by rw [List.length_map]; exact h2, fun d hd => ?_⟩
      obtain ⟨kk, hk, rfl⟩ := List.mem_map.mp hd
      obtain ⟨_, _, _, _, _, _, hlt, _⟩ := hkk kk hk
      exact ⟨kk, Gr2, rfl, by omega, e2, h3⟩
    · obtain ⟨kk, Gr2, rfl, h1, rfl, h3⟩ := q
      exact ⟨_, rfl, hq (.cancel kk) Gr2 (lil_of (by omega) (by omega)) True.intro (h3.mono (by omega))⟩
  · intro h
    exact xss_nil ⟨rfl, rfl⟩
  -- prints
  refine xss_at (ρ' := eR r rows (some (intV rows.length)) (some (.d (.bool sh))) (some (ksV (openM rows rows.length 0))) (some (intV way)) none none none none none none none none) (G' := Gr1 ++ G') (xs_ifD (t := decide (3 < way)) ?_ ?_ ?_) ?_
  · exact xb_gt (xd_name 5) xd_int rfl
  · intro h
    refine xss_one (xs_ret (xp_tup2 (x := .str "prints") (Φb := fun y G2 => ∃ fs Gr2, y = .d (.tuple (fs.map filD)) ∧ okFs fs ∧ (∀ f ∈ fs, 0 ≤ f.2.1) ∧ G2 = Gr2 ++ G' ∧ Rd (n + 101) r Gr2) xd_str (xp_ifD (t := sh) (xb_val (xd_name 3)) (fun _ => ?_) fun _ => ?_) fun y G2 q => ?_))
    · exact Xd.to (xd_tup (ds := []) xa_nil) ⟨[], Gr1, rfl, ⟨Nat.zero_le _, fun f h => by cases h⟩, (fun f h => by cases h), rfl, hR1.mono (by omega)⟩
    · refine xp_call W (hr.mono (by decide)) (Xad.i (xs := [.a r, rowsV rows, intV 2, intV 9, .d (sideD none), intV 0]) (xad_cons (xd_name 0) (xad_cons (xd_name 1) (xad_cons xd_int (xad_cons xd_int (xad_cons xd_none (xad_cons xd_int xa_nil))))))) fun xs G2 q => ?_
      exact ⟨[], G2, rfl, r, n + 1, rows, 2, 9, 0, none, Gr1, G', q.1, q.2, hR1, by omega, hok, by omega, by decide, by decide, by decide, by decide, fun fs Gr2 h1 h0 h2 => ⟨fs, Gr2, rfl, h1, h0, rfl, h2.mono (by omega)⟩⟩
    · obtain ⟨fs, Gr2, rfl, h1, h0, rfl, h3⟩ := q
      exact ⟨_, rfl, hq (.prints fs) Gr2 h1 h0 (h3.mono (by omega))⟩
  · intro h
    exact xss_nil ⟨rfl, rfl⟩
  -- side, price
  refine xss_cons (M := fun ρ' G2 => ∃ (sd : Str) (p : Int) (Gr2 : Store), ρ' = eR r rows (some (intV rows.length)) (some (.d (.bool sh))) (some (ksV (openM rows rows.length 0))) (some (intV way)) (some (intV p)) none none none (some (.d (.str sd))) none none none ∧ okS 8 sd ∧ 8 ≤ p ∧ p ≤ 12 ∧ G2 = Gr2 ++ G' ∧ Rd (n + 3) r Gr2) ?_ fun ρ' G2 q => ?_
  · refine xs_asg (js := [10] ++ ([6] ++ [])) (Φe := fun y G2 => ∃ (sd : Str) (p : Int) (Gr2 : Store), y = .d (.tuple [.str sd, .int p]) ∧ okS 8 sd ∧ 8 ≤ p ∧ p ≤ 12 ∧ G2 = Gr2 ++ G' ∧ Rd (n + 3) r Gr2) ?_ (pg_tup (n := 2) rfl (pgs_cons (pg_name (i := 10) scRow.nd rfl (Or.inl rfl)) (pgs_cons (pg_name (i := 6) scRow.nd rfl (Or.inr rfl)) pgs_nil))) fun x G2 q => ?_
    · refine xp_tup (Φl := fun xs G2 => ∃ (sd : Str) (p : Int) (Gr2 : Store), xs = [.d (.str sd), intV p] ∧ okS 8 sd ∧ 8 ≤ p ∧ p ≤ 12 ∧ G2 = Gr2 ++ G' ∧ Rd (n + 3) r Gr2) (xa_two (Φa := fun y G2 => ∃ (sd : Str) (Gr2 : Store), y = .d (.str sd) ∧ okS 8 sd ∧ G2 = Gr2 ++ G' ∧ Rd (n + 2) r Gr2) ?_ fun x G1 q => ?_) fun xs G2 q => ?_
      · refine xp_oneof (ds := [.str (u "buy"), .str (u "sell")]) (xl_lst (xad_cons xd_str (xad_cons xd_str xa_nil))).data (xp_draw0 (m := 2) (Φ := fun y G2 => ∃ (i : Int) (Gr2 : Store), y = intV i ∧ 0 ≤ i ∧ i < 2 ∧ G2 = Gr2 ++ G' ∧ Rd (n + 2) r Gr2) D hD hR1 (by omega) (by decide) (by decide) (Xad.i (xad_cons (xd_name 0) (xad_cons xd_int xa_nil))) fun i Gr2 h1 h2 h3 => ⟨i, Gr2, rfl, h1, h2, rfl, h3.mono (by omega)⟩) fun y G2 w => ?_
        obtain ⟨i, Gr2, e1, h1, h2, e2, h3⟩ := w
        refine ⟨i, e1, h1, h2, fun d hd => ?_⟩
        simp only [List.mem_cons, List.not_mem_nil, or_false] at hd
        rcases hd with e | e <;> subst e
        · exact ⟨_, Gr2, rfl, (okS_lit "buy").mono (by decide), e2, h3⟩
        · exact ⟨_, Gr2, rfl, (okS_lit "sell").mono (by decide), e2, h3⟩
      · obtain ⟨sd, Gr2, rfl, hsd, rfl, h3⟩ := q
        refine x_binR op_add xd_int (xp_draw0 (m := 5) (Φ := fun y G2 => ∃ (i : Int) (Gr2 : Store), y = intV i ∧ 0 ≤ i ∧ i < 5 ∧ G2 = Gr2 ++ G' ∧ Rd (n + 3) r Gr2) D hD h3 (by omega) (by decide) (by decide) (Xad.i (xad_cons (xd_name 0) (xad_cons xd_int xa_nil))) fun i Gr2 h1 h2 h3 => ⟨i, Gr2, rfl, h1, h2, rfl, h3.mono (by omega)⟩) fun y G2 w => ?_
        obtain ⟨i, Gr3, rfl, h1, h2, e2, h4⟩ := w
        exact op_ii0 (fun _ => .rint _) ⟨sd, 8 + i, Gr3, rfl, hsd, by omega, by omega, e2, h4⟩
      · obtain ⟨sd, p, Gr2, rfl, w⟩ := q
        exact ⟨[.str sd, .int p], rfl, by show 2 ≤ 100000; decide, sd, p, Gr2, rfl, w⟩
    · obtain ⟨sd, p, Gr2, rfl, w⟩ := q
      exact ⟨_, rg_tup rfl (rgs_cons rg_name (rgs_cons rg_name rgs_nil)), sd, p, Gr2, rfl, w⟩
  obtain ⟨sd, p, Gr2, rfl, hsd, hp1, hp2, rfl, hR2⟩ := q
  -- size, member
  refine xss_cons (M := fun ρ' G2 => ∃ (z : Int) (m : Str) (Gr3 : Store), ρ' = eR r rows (some (intV rows.length)) (some (.d (.bool sh))) (some (ksV (openM rows rows.length 0))) (some (intV way)) (some (intV p)) none none none (some (.d (.str sd))) (some (intV z)) (some (.d (.str m))) none ∧ okS 8 m ∧ 1 ≤ z ∧ z ≤ 6 ∧ G2 = Gr3 ++ G' ∧ Rd (n + 5) r Gr3) ?_ fun ρ' G2 q => ?_
  · refine xs_par 11 12 (Φl := fun xs G2 => ∃ (z : Int) (m : Str) (Gr3 : Store), xs = [intV z, .d (.str m)] ∧ okS 8 m ∧ 1 ≤ z ∧ z ≤ 6 ∧ G2 = Gr3 ++ G' ∧ Rd (n + 5) r Gr3) (xa_two (Φa := fun y G2 => ∃ (z : Int) (Gr3 : Store), y = intV z ∧ 1 ≤ z ∧ z ≤ 6 ∧ G2 = Gr3 ++ G' ∧ Rd (n + 4) r Gr3) ?_ (fun x G1 q => ?_)) (fun xs G2 q => ?_) scRow.nd
    · refine x_binR op_add xd_int (xp_draw0 (m := 6) (Φ := fun y G2 => ∃ (i : Int) (Gr2 : Store), y = intV i ∧ 0 ≤ i ∧ i < 6 ∧ G2 = Gr2 ++ G' ∧ Rd (n + 4) r Gr2) D hD hR2 (by omega) (by decide) (by decide) (Xad.i (xad_cons (xd_name 0) (xad_cons xd_int xa_nil))) fun i Gr2 h1 h2 h3 => ⟨i, Gr2, rfl, h1, h2, rfl, h3.mono (by omega)⟩) fun y G2 w => ?_
      obtain ⟨i, Gr3, rfl, h1, h2, e2, h4⟩ := w
      exact op_ii0 (fun _ => .rint _) ⟨1 + i, Gr3, rfl, by omega, by omega, e2, h4⟩
    · obtain ⟨z, Gr3, rfl, hz1, hz2, rfl, h3⟩ := q
      refine xp_oneof (ds := [.str (u "ann"), .str (u "bob"), .str (u "cy")]) (xl_lst (xad_cons xd_str (xad_cons xd_str (xad_cons xd_str xa_nil)))).data (xp_draw0 (m := 3) (Φ := fun y G2 => ∃ (i : Int) (Gr2 : Store), y = intV i ∧ 0 ≤ i ∧ i < 3 ∧ G2 = Gr2 ++ G' ∧ Rd (n + 5) r Gr2) D hD h3 (by omega) (by decide) (by decide) (Xad.i (xad_cons (xd_name 0) (xad_cons xd_int xa_nil))) fun i Gr2 h1 h2 h3 => ⟨i, Gr2, rfl, h1, h2, rfl, h3.mono (by omega)⟩) fun y G2 w => ?_
      obtain ⟨i, Gr4, e1, h1, h2, e2, h4⟩ := w
      refine ⟨i, e1, h1, h2, fun d hd => ?_⟩
      simp only [List.mem_cons, List.not_mem_nil, or_false] at hd
      rcases hd with e | e | e <;> subst e
      · exact ⟨z, _, Gr4, rfl, (okS_lit "ann").mono (by decide), hz1, hz2, e2, h4⟩
      · exact ⟨z, _, Gr4, rfl, (okS_lit "bob").mono (by decide), hz1, hz2, e2, h4⟩
      · exact ⟨z, _, Gr4, rfl, (okS_lit "cy").mono (by decide), hz1, hz2, e2, h4⟩
    · obtain ⟨z, m, Gr3, rfl, w⟩ := q
      exact ⟨_, _, rfl, z, m, Gr3, rfl, w⟩
  obtain ⟨z, m, Gr3, rfl, hmm, hz1, hz2, rfl, hR3⟩ := q
  -- taken
  refine xss_cons (M := fun ρ' G2 => ∃ fs Gr4, ρ' = eR r rows (some (intV rows.length)) (some (.d (.bool sh))) (some (ksV (openM rows rows.length 0))) (some (intV way)) (some (intV p)) none none none (some (.d (.str sd))) (some (intV z)) (some (.d (.str m))) (some (.d (.tuple (fs.map filD)))) ∧ okFs fs ∧ (∀ f ∈ fs, 0 ≤ f.2.1) ∧ G2 = Gr4 ++ G' ∧ Rd (n + 105) r Gr4) (xs_set 13 (Φe := fun y G2 => ∃ fs Gr4, y = .d (.tuple (fs.map filD)) ∧ okFs fs ∧ (∀ f ∈ fs, 0 ≤ f.2.1) ∧ G2 = Gr4 ++ G' ∧ Rd (n + 105) r Gr4) (xp_ifD (t := sh) (xb_val (xd_name 3)) (fun _ => ?_) fun _ => ?_) (fun y G2 q => ?_) scRow.nd) fun ρ' G2 q => ?_
  · exact Xd.to (xd_tup (ds := []) xa_nil) ⟨[], Gr3, rfl, ⟨Nat.zero_le _, fun f h => by cases h⟩, (fun f h => by cases h), rfl, hR3.mono (by omega)⟩
  · refine xp_call W (hr.mono (by decide)) (Xad.i (xs := [.a r, rowsV rows, intV 2, intV z, .d (sideD (some sd)), intV p]) (xad_cons (xd_name 0) (xad_cons (xd_name 1) (xad_cons xd_int (xad_cons (xd_name 11) (xad_cons (xd_name 10) (xad_cons (xd_name 6) xa_nil))))))) fun xs G2 q => ?_
    exact ⟨[], G2, rfl, r, n + 5, rows, 2, z, p, some sd, Gr3, G', q.1, q.2, hR3, by omega, hok, by omega, by decide, by decide, by omega, by omega, fun fs Gr2 h1 h0 h2 => ⟨fs, Gr2, rfl, h1, h0, rfl, h2.mono (by omega)⟩⟩
  · obtain ⟨fs, Gr4, rfl, w⟩ := q
    exact ⟨fs, Gr4, rfl, w⟩
  obtain ⟨fs, Gr4, rfl, hf, hfp, rfl, hR4⟩ := q
  refine xss_one (xs_ret (Xd.to (xd_tup (ds := [.str "order", .str m, .str sd, .int p, .int z, .tuple (fs.map filD)]) (xad_cons xd_str (xad_cons (xd_name 12) (xad_cons (xd_name 10) (xad_cons (xd_name 6) (xad_cons (xd_name 11) (xad_cons (xd_name 13) xa_nil)))))) (by show 6 ≤ 100000; decide)) (hq (.order m sd p z fs) Gr4 ⟨hmm, hsd, lil_of (by omega) (by omega), lil_of (by omega) (by omega), hf⟩ ⟨by omega, hfp⟩ (hR4.mono (by omega)))))
end
end K8

set_option Elab.async false
set_option linter.all false
set_option maxRecDepth 100000
set_option maxHeartbeats 2000000
namespace K8
open PySem PySem.Spec L2 Fsh Rec
abbrev sRrs : Stmt := topG 19
abbrev sRr : Stmt := topG 20
abbrev sFix : Stmt := topG 21
abbrev NRrs : List Str := ["_law_reader_here", "_law_most", "_law_rows", "_law_k"]
abbrev NRr : List Str := ["_law_reader_here", "_law_most"]
abbrev NFix : List Str := ["_law_first", "_law_shut", "_law_late"]
theorem scRrs : FnScope NRrs ["_law_reader_here", "_law_most"] (defScope sRrs) := ⟨rfl, rfl, rfl, by decide +kernel, rfl, by decide +kernel, by decide +kernel⟩
theorem scRr : FnScope NRr ["_law_reader_here", "_law_most"] (defScope sRr) := ⟨rfl, rfl, rfl, by decide +kernel, rfl, by decide +kernel, by decide +kernel⟩
theorem scFix : FnScope NFix [] (defScope sFix) := ⟨rfl, rfl, rfl, by decide +kernel, rfl, by decide +kernel, by decide +kernel⟩
def zRrs : Fsh.Spec := fun xs G Φ => ∃ (r : Addr) (n most : Int) (Gr G' : Store), xs = [.a r, intV most] ∧ G = Gr ++ G' ∧ Rd n r Gr ∧ n < 700000 ∧ 0 ≤ most ∧ most ≤ 8 ∧ (∀ p ∈ G', noLc p.2 = true) ∧
  ∀ rows Gr', okRs rows → rows.length ≤ 20 → Rd (n + 5000) r Gr' → Φ (.d (.list (rows.map rowD))) (Gr' ++ G')
def recP (c : Str × List RowM) : PyData := .tuple [.str c.1, .tuple (c.2.map rowD)]
def okP' (c : Str × List RowM) : Prop := okS 8 c.1 ∧ c.2.length ≤ 40 ∧ ∀ r ∈ c.2, okR r
def zRr : Fsh.Spec := fun xs G Φ => ∃ (r : Addr) (n most : Int) (Gr G' : Store), xs = [.a r, intV most] ∧ G = Gr ++ G' ∧ Rd n r Gr ∧ n < 600000 ∧ 0 ≤ most ∧ most ≤ 8 ∧ (∀ p ∈ G', noLc p.2 = true) ∧
  ∀ c Gr', okP' c → Rd (n + 6000) r Gr' → Φ (.d (recP c)) (Gr' ++ G')
theorem Rd.mem {n : Int} {r : Addr} {G : Store} (h : Rd n r G) : r ∈ G.map (·.1) := by
  obtain ⟨c, cs, sp, rs, cl, rfl, _⟩ := h
  exact List.mem_cons_of_mem _ List.mem_cons_self
theorem noLs_map {α : Type} (f : α → PyData) : ∀ xs : List α, (∀ x ∈ xs, noL (f x) = true) → noLs (xs.map f) = true
  | [], _ => rfl
  | x :: xs, h => by
    rw [List.map_cons]
    have h1 := noLs_map f xs fun y hy => h y (List.mem_cons_of_mem _ hy)
    have h2 := h x List.mem_cons_self
    unfold noLs
    rw [h1, h2]
    rfl
theorem noL_opt (o : Option Int) : noL (optD o) = true := by cases o <;> rfl
theorem noL_fil (f : Fil) : noL (filD f) = true := by
  unfold filD
  simp only [noL, noLs, noL_opt, Bool.and_true, Bool.true_and]
theorem noL_row (r : RowM) : noL (rowD r) = true := by
  cases r with
  | order m s p z fs => simp only [rowD, noL, noLs, noLs_map filD fs fun x _ => noL_fil x, Bool.and_true, Bool.true_and]
  | cancel n => rfl
  | prints fs => simp only [rowD, noL, noLs, noLs_map filD fs fun x _ => noL_fil x, Bool.and_true, Bool.true_and]
  | closed => rfl
  | call p ps => simp only [rowD, noL, noLs, noL_opt, noLs_map pairD ps fun x _ => rfl, Bool.and_true, Bool.true_and]
section
variable {P : Program} {w : World} {K : PySem.W.Frag} {mg : Str → Option Value} {base : Heap}
theorem f_rrs {f : Addr} {fd : FuncData} (F1 : Fun K "_law_random_rows" "_law_random_rows" sRrs f fd) (hm : mg "_law_random_rows" = some (.ref f)) (B : Bn mg) (D : Fn P w K mg base 1 "_law_draw" ["_law_reader_here", "_law_many"] zDraw) (W : Fn P w K mg base 5 "_law_new_row" ["_law_reader_here", "_law_rows"] zRow) : Fn P w K mg base 6 "_law_random_rows" ["_law_reader_here", "_law_most"] zRrs := by
  refine fn_rule F1 scRrs (F1.binds fun _ _ _ _ _ _ us hl => match us, hl with | [_, _], _ => rfl) hm (fun xs G Φ h => by obtain ⟨_, _, _, _, _, rfl, _⟩ := h; rfl) fun cdv A outer s H E hr xs G Φ hz => ?_
  obtain ⟨r, n, most, Gr, G', rfl, rfl, hR, hn, hm0, hm8, hG, hq⟩ := hz
  have hD : Room 1 (A.deeper (PyProof.Rows.envOfC (Str.ofString "_law_random_rows") (defScope sRrs) s.heap.objs.size f cdv)) := hr.mono (by decide)
  refine xss_cons (M := fun ρ' G2 => ∃ (l : Addr) (rows : List RowM) (Gr1 : Store), ρ' = [some (.a r), some (intV most), some (.a l), none] ∧ G2 = (l, .lst (rows.map rowD)) :: (Gr1 ++ G') ∧ okRs rows ∧ (∀ x ∈ rows, tameR x) ∧ rows.length ≤ 1 ∧ Rd (n + 1) r Gr1) (xs_set 2 (Φe := fun y G2 => ∃ (l : Addr) (rows : List RowM) (Gr1 : Store), y = .a l ∧ G2 = (l, .lst (rows.map rowD)) :: (Gr1 ++ G') ∧ okRs rows ∧ (∀ x ∈ rows, tameR x) ∧ rows.length ≤ 1 ∧ Rd (n + 1) r Gr1) ?_ (fun y G2 q => ?_) scRrs.nd) fun ρ' G2 q => ?_
  · refine xp_if (Φc := fun tt G2 => ∃ Gr1, G2 = Gr1 ++ G' ∧ Rd (n + 1) r Gr1) (xt_eqR (xp_draw0 (m := 3) (Φ := fun y G2 => ∃ (i : Int) (Gr1 : Store), y = intV i ∧ G2 = Gr1 ++ G' ∧ Rd (n + 1) r Gr1) D hD hR (by omega) (by decide) (by decide) (Xad.i (xad_cons (xd_name 0) (xad_cons xd_int xa_nil))) fun i Gr1 h1 h2 h3 => ⟨i, Gr1, rfl, rfl, h3⟩) fun y G2 w => ?_) (fun G1 q => ?_) fun G1 q => ?_
    · obtain ⟨i, Gr1, e1, e2, e3⟩ := w
      exact ⟨i, e1, Gr1, e2, e3⟩
    · obtain ⟨Gr1, rfl, h3⟩ := q
      refine (Xl.g (xl_lst (ds := [.tuple [.str "closed"]]) (xad_cons (xd_tup (ds := [.str "closed"]) (xad_cons xd_str xa_nil)) xa_nil))).imp fun y G2 w => ?_
      obtain ⟨l, e1, e2⟩ := w
      exact ⟨l, [.closed], Gr1, e1, e2, ⟨by decide, fun x hx => by rw [List.mem_singleton.mp hx]; exact True.intro⟩, (fun x hx => by rw [List.mem_singleton.mp hx]; exact True.intro), Nat.le_refl _, h3⟩
    · obtain ⟨Gr1, rfl, h3⟩ := q
      refine (Xl.g (xl_lst (ds := []) xa_nil)).imp fun y G2 w => ?_
      obtain ⟨l, e1, e2⟩ := w
      exact ⟨l, [], Gr1, e1, e2, ⟨by decide, fun x hx => by cases hx⟩, (fun x hx => by cases hx), by decide, h3⟩
  · obtain ⟨l, rows, Gr1, rfl, w⟩ := q
    exact ⟨l, rows, Gr1, rfl, w⟩
  obtain ⟨l, rows0, Gr1, rfl, rfl, hok0, htm0, hl0, hR1⟩ := q
  refine xss_cons (M := fun ρ' G2 => ∃ (rows : List RowM) (Gr1 : Store) (t3 : Option DV), ρ' = [some (.a r), some (intV most), some (.a l), t3] ∧ G2 = (l, .lst (rows.map rowD)) :: (Gr1 ++ G') ∧ okRs rows ∧ rows.length ≤ 20 ∧ Rd (n + 5000) r Gr1)
    (xs_forR (js := [3]) (Φl := fun xs G2 => ∃ c Gr1, xs = [intV c] ∧ 0 ≤ c ∧ c ≤ most ∧ Rd (n + 2) r Gr1 ∧ G2 = (l, .lst (rows0.map rowD)) :: (Gr1 ++ G'))
      (fun c k ρ1 G1 => c ≤ 8 ∧ ∃ (rows : List RowM) (Gr1 : Store) (t3 : Option DV), ρ1 = [some (.a r), some (intV most), some (.a l), t3] ∧ G1 = (l, .lst (rows.map rowD)) :: (Gr1 ++ G') ∧ okRs rows ∧ (∀ x ∈ rows, tameR x) ∧ rows.length ≤ 1 + k ∧ Rd (n + 2 + 300 * k) r Gr1) PassesOwn.never B.range ?_ (pg_name (i := 3) scRrs.nd rfl (Or.inl rfl)) ?_ ?_ ?_) fun ρ' G2 q => ?_
  · refine xa_step (xp_draw (G1 := [(l, .lst (rows0.map rowD))]) (m := most + 1) (Φ := fun y G2 => ∃ c Gr1, y = intV c ∧ 0 ≤ c ∧ c ≤ most ∧ Rd (n + 2) r Gr1 ∧ G2 = (l, .lst (rows0.map rowD)) :: (Gr1 ++ G')) D hD hR1 (by omega) (by omega) (by omega) (Xad.i (xad_cons (xd_name 0) (xad_cons (xd_add (xd_name 1) xd_int) xa_nil))) fun i Gr2 h1 h2 h3 => ⟨i, Gr2, rfl, h1, by omega, h3.mono (by omega), rfl⟩) fun x G1 q => xa_end ?_
    obtain ⟨c, Gr2, rfl, w⟩ := q
    exact ⟨c, Gr2, rfl, w⟩
  · rintro xs G1 ⟨c, Gr2, rfl, h1, h2, h3, rfl⟩
    exact ⟨c, rfl, by omega, by omega, by omega, rows0, Gr2, none, rfl, rfl, hok0, htm0, by omega, h3.mono (by omega)⟩
  · rintro c k ρ1 G1 hk ⟨hc8, rows, Gr2, t3, rfl, rfl, hok, htm, hl, hR2⟩
    refine ⟨_, rg_name, ?_⟩
    refine xss_one (xs_expr (Φe := fun y G2 => ∃ (row : RowM) (Gr3 : Store), okR row ∧ tameR row ∧ Rd (n + 2 + 300 * k + 300) r Gr3 ∧ G2 = (l, .lst ((rows ++ [row]).map rowD)) :: (Gr3 ++ G')) (xp_append (Φe := fun y G2 => ∃ (row : RowM) (Gr3 : Store), y = .d (rowD row) ∧ okR row ∧ tameR row ∧ Rd (n + 2 + 300 * k + 300) r Gr3 ∧ G2 = (l, .lst (rows.map rowD)) :: (Gr3 ++ G')) (xd_name 2) ⟨_, List.mem_cons_self⟩ (R.nd fun nd => xp_frozen ?_) fun y G2 w => ?_) fun y G2 w => ?_)
    · have hne : r ≠ l := fun e => by
        rw [List.map_cons, List.map_append] at nd
        exact (List.nodup_cons.mp nd).1 (e ▸ List.mem_append_left _ hR2.mem)
      refine xp_call W (hr.mono (by decide)) (Xad.i (xs := [.a r, rowsV rows]) (xad_cons (xd_name 0 (hr := thaw_ne rfl hne)) (xad_cons (xd_name 2 (hr := thaw_at rfl)) xa_nil))) fun xs G2 q => ?_
      refine ⟨[], G2, rfl, r, n + 2 + 300 * k, rows, Gr2, G', q.1, q.2, hR2, by omega, hok, htm, by omega, fun row Gr3 h1 h2 h3 => ⟨noL_row row, fun p hp => ?_, row, Gr3, rfl, h1, h2, h3, rfl⟩⟩
      have hp : p ∈ Gr3 ++ G' := hp
      rcases List.mem_append.mp hp with hp | hp
      · exact h3.noL p hp
      · exact hG p hp
    · obtain ⟨row, Gr3, rfl, h1, h2, h3, rfl⟩ := w
      refine ⟨_, [], rows.map rowD, Gr3 ++ G', rfl, rfl, by rw [List.length_map]; omega, row, Gr3, h1, h2, h3, ?_⟩
      rw [List.map_append]
      rfl
    · obtain ⟨row, Gr3, h1, h2, h3, rfl⟩ := w
      refine ⟨hc8, rows ++ [row], Gr3, _, rfl, rfl, ⟨?_, fun x hx => ?_⟩, fun x hx => ?_, ?_, h3.mono (by omega)⟩
      · rw [List.length_append]
        show rows.length + 1 ≤ 40
        omega
      · rcases List.mem_append.mp hx with h | h
        · exact hok.2 x h
        · rw [List.mem_singleton.mp h]
          exact h1
      · rcases List.mem_append.mp hx with h | h
        · exact htm x h
        · rw [List.mem_singleton.mp h]
          exact h2
      · rw [List.length_append]
        show rows.length + 1 ≤ 1 + (k + 1)
        omega
  · rintro c ρ1 G1 ⟨hc8, rows, Gr2, t3, rfl, rfl, hok, htm, hl, hR2⟩
    exact ⟨rows, Gr2, t3, rfl, rfl, hok, by omega, hR2.mono (by omega)⟩
  obtain ⟨rows, Gr2, t3, rfl, rfl, hok, hl, hR2⟩ := q
  exact xss_one (xs_ret (xp_give (Xd.to (xd_name 2) ⟨l, _, _, rfl, rfl, hq rows Gr2 hok hl hR2⟩)))
theorem f_rr {f : Addr} {fd : FuncData} (F1 : Fun K "_law_random_record" "_law_random_record" sRr f fd) (hm : mg "_law_random_record" = some (.ref f)) (B : Bn mg) (D : Fn P w K mg base 1 "_law_draw" ["_law_reader_here", "_law_many"] zDraw) (W : Fn P w K mg base 6 "_law_random_rows" ["_law_reader_here", "_law_most"] zRrs) : Fn P w K mg base 7 "_law_random_record" ["_law_reader_here", "_law_most"] zRr := by
  refine fn_rule F1 scRr (F1.binds fun _ _ _ _ _ _ us hl => match us, hl with | [_, _], _ => rfl) hm (fun xs G Φ h => by obtain ⟨_, _, _, _, _, rfl, _⟩ := h; rfl) fun cdv A outer s H E hr xs G Φ hz => ?_
  obtain ⟨r, n, most, Gr, G', rfl, rfl, hR, hn, hm0, hm8, hG, hq⟩ := hz
  have hD : Room 1 (A.deeper (PyProof.Rows.envOfC (Str.ofString "_law_random_record") (defScope sRr) s.heap.objs.size f cdv)) := hr.mono (by decide)
  refine xss_one (xs_ret (xp_tup (Φl := fun xs G2 => ∃ (c : Str × List RowM) (Gr1 : Store), xs = [.d (.str c.1), .d (.tuple (c.2.map rowD))] ∧ okP' c ∧ G2 = Gr1 ++ G' ∧ Rd (n + 6000) r Gr1) (xa_two (Φa := fun y G2 => ∃ (rule : Str) (Gr1 : Store), y = .d (.str rule) ∧ okS 8 rule ∧ G2 = Gr1 ++ G' ∧ Rd (n + 1) r Gr1) ?_ fun x G1 q => ?_) fun xs G2 q => ?_))
  · refine xp_oneof (ds := [.str (u "time"), .str (u "late"), .str (u "price")]) (xl_lst (xad_cons xd_str (xad_cons xd_str (xad_cons xd_str xa_nil)))).data (xp_draw0 (m := 3) (Φ := fun y G2 => ∃ (i : Int) (Gr2 : Store), y = intV i ∧ 0 ≤ i ∧ i < 3 ∧ G2 = Gr2 ++ G' ∧ Rd (n + 1) r Gr2) D hD hR (by omega) (by decide) (by decide) (Xad.i (xad_cons (xd_name 0) (xad_cons xd_int xa_nil))) fun i Gr2 h1 h2 h3 => ⟨i, Gr2, rfl, h1, h2, rfl, h3⟩) fun y G2 w => ?_
    obtain ⟨i, Gr4, e1, h1, h2, e2, h4⟩ := w
    refine ⟨i, e1, h1, h2, fun d hd => ?_⟩
    simp only [List.mem_cons, List.not_mem_nil, or_false] at hd
    rcases hd with e | e | e <;> subst e
    · exact ⟨_, Gr4, rfl, (okS_lit "time").mono (by decide), e2, h4⟩
    · exact ⟨_, Gr4, rfl, (okS_lit "late").mono (by decide), e2, h4⟩
    · exact ⟨_, Gr4, rfl, (okS_lit "price").mono (by decide), e2, h4⟩
  · obtain ⟨rule, Gr1, rfl, h0, rfl, h3⟩ := q
    refine xp_tupL (Φe := fun y G2 => ∃ (rows : List RowM) (Gr2 : Store), y = rowsV rows ∧ okRs rows ∧ G2 = Gr2 ++ G' ∧ Rd (n + 6000) r Gr2) B ?_ fun y G2 q => ?_
    · refine xp_call W (hr.mono (by decide)) (Xad.i (xs := [.a r, intV most]) (xad_cons (xd_name 0) (xad_cons (xd_name 1) xa_nil))) fun xs G2 q => ?_
      exact ⟨[], G2, rfl, r, n + 1, most, Gr1, G', q.1, q.2, h3, by omega, hm0, hm8, hG, fun rows Gr2 h1 h2 h4 => ⟨rows, Gr2, rfl, h1, rfl, h4.mono (by omega)⟩⟩
    · obtain ⟨rows, Gr2, rfl, h1, rfl, h4⟩ := q
      exact ⟨_, rfl, (rule, rows), Gr2, rfl, ⟨h0, h1.1, h1.2⟩, rfl, h4⟩
  · obtain ⟨c, Gr1, rfl, h1, rfl, h4⟩ := q
    exact ⟨[.str c.1, .tuple (c.2.map rowD)], rfl, by show 2 ≤ 100000; decide, hq c Gr1 h1 h4⟩
end
end K8

set_option Elab.async false
set_option linter.all false
set_option maxRecDepth 100000
set_option maxHeartbeats 2000000
namespace K8
open PySem PySem.Spec L2 Fsh Rec
def oR (m s : String) (p z : Int) (fs : List Fil) : RowM := .order (u m) (u s) p z fs
def first1 : List RowM := [oR "ann" "buy" 10 3 [], oR "bob" "buy" 10 2 []]
def first2 : List RowM := [.prints [(10, 1, none), (10, 1, some 0)], .prints [(10, 1, none)]]
def shut1 : List RowM := [.closed, oR "ann" "sell" 9 4 [], oR "cy" "buy" 11 2 [], .prints []]
def shut2 : List RowM := [oR "bob" "sell" 9 1 [], .call (some 10) [(1, 1), (2, 2)], .cancel 1]
def shut3 : List RowM := [.prints [(9, 1, some 4), (12, 3, none)]]
def late1 : List RowM := [oR "ann" "sell" 9 2 [], oR "bob" "buy" 9 5 [(8, 1, none), (9, 2, some 0)]]
def late2 : List RowM := [oR "ann" "sell" 9 1 [(9, 1, some 1)], .cancel 1, .prints [(7, 1000, none)]]
def fixR : List (Str × List RowM) := [(u "time", first1 ++ first2), (u "late", shut1 ++ shut2 ++ shut3), (u "price", late1 ++ late2), (u "time", []), (u "late", [.closed])]
def zFix : Fsh.Spec := fun xs G Φ => xs = [] ∧ ∀ l, Φ (.a l) ((l, .lst (fixR.map recP)) :: G)
def fx1 : List PyData := [.tuple [.str (u "order"), .str (u "ann"), .str (u "buy"), .int 10, .int 3, .tuple []], .tuple [.str (u "order"), .str (u "bob"), .str (u "buy"), .int 10, .int 2, .tuple []]]
def fx2 : List PyData := [.tuple [.str (u "prints"), .tuple [.tuple [.int 10, .int 1, .none], .tuple [.int 10, .int 1, .int 0]]], .tuple [.str (u "prints"), .tuple [.tuple [.int 10, .int 1, .none]]]]
def fx3 : List PyData := [.tuple [.str (u "closed")], .tuple [.str (u "order"), .str (u "ann"), .str (u "sell"), .int 9, .int 4, .tuple []], .tuple [.str (u "order"), .str (u "cy"), .str (u "buy"), .int 11, .int 2, .tuple []], .tuple [.str (u "prints"), .tuple []]]
def fx4 : List PyData := [.tuple [.str (u "order"), .str (u "bob"), .str (u "sell"), .int 9, .int 1, .tuple []], .tuple [.str (u "call"), .int 10, .tuple [.tuple [.int 1, .int 1], .tuple [.int 2, .int 2]]], .tuple [.str (u "cancel"), .int 1]]
def fx5 : List PyData := [.tuple [.str (u "prints"), .tuple [.tuple [.int 9, .int 1, .int 4], .tuple [.int 12, .int 3, .none]]]]
def fx6 : List PyData := [.tuple [.str (u "order"), .str (u "ann"), .str (u "sell"), .int 9, .int 2, .tuple []], .tuple [.str (u "order"), .str (u "bob"), .str (u "buy"), .int 9, .int 5, .tuple [.tuple [.int 8, .int 1, .none], .tuple [.int 9, .int 2, .int 0]]]]
def fx7 : List PyData := [.tuple [.str (u "order"), .str (u "ann"), .str (u "sell"), .int 9, .int 1, .tuple [.tuple [.int 9, .int 1, .int 1]]], .tuple [.str (u "cancel"), .int 1], .tuple [.str (u "prints"), .tuple [.tuple [.int 7, .int 1000, .none]]]]
def fxL : List PyData := [.tuple [.str (u "time"), .tuple (fx1 ++ fx2)], .tuple [.str (u "late"), .tuple (fx3 ++ fx4 ++ fx5)], .tuple [.str (u "price"), .tuple (fx6 ++ fx7)], .tuple [.str (u "time"), .tuple []], .tuple [.str (u "late"), .tuple [.tuple [.str (u "closed")]]]]
theorem fxL_is : fxL = fixR.map recP := rfl
section
variable {P : Program} {w : World} {K : PySem.W.Frag} {mg : Str → Option Value} {base : Heap}
theorem f_fix {f : Addr} {fd : FuncData} (F1 : Fun K "_law_fixed_records" "_law_fixed_records" sFix f fd) (hm : mg "_law_fixed_records" = some (.ref f)) : Fn P w K mg base 1 "_law_fixed_records" [] zFix := by
  refine fn_rule F1 scFix (F1.binds fun _ _ _ _ _ _ us hl => match us, hl with | [], _ => rfl) hm (fun xs G Φ h => by rw [h.1]; rfl) fun cdv A outer s H E hr xs G Φ hz => ?_
  obtain ⟨rfl, hq⟩ := hz
  show Xss _ (List.cons _ _) _ _ _ _
  refine xss_at (xs_setD 0 (y := .d (.tuple fx1)) ?_ scFix.nd) ?_
  · exact xd_tup (ds := fx1) (xad_cons (xd_tup (ds := [.str (u "order"), .str (u "ann"), .str (u "buy"), .int 10, .int 3, .tuple []]) (xad_cons xd_str (xad_cons xd_str (xad_cons xd_str (xad_cons xd_int (xad_cons xd_int (xad_cons (xd_tup (ds := []) xa_nil (by show 0 ≤ 100000; decide)) xa_nil)))))) (by show 6 ≤ 100000; decide)) (xad_cons (xd_tup (ds := [.str (u "order"), .str (u "bob"), .str (u "buy"), .int 10, .int 2, .tuple []]) (xad_cons xd_str (xad_cons xd_str (xad_cons xd_str (xad_cons xd_int (xad_cons xd_int (xad_cons (xd_tup (ds := []) xa_nil (by show 0 ≤ 100000; decide)) xa_nil)))))) (by show 6 ≤ 100000; decide)) xa_nil)) (by show 2 ≤ 100000; decide)
  refine xss_at (xs_setD 0 (y := .d (.tuple (fx1 ++ fx2))) (xd_catt (xd_name 0) ?_ (by decide)) scFix.nd) ?_
  · exact xd_tup (ds := fx2) (xad_cons (xd_tup (ds := [.str (u "prints"), .tuple [.tuple [.int 10, .int 1, .none], .tuple [.int 10, .int 1, .int 0]]]) (xad_cons xd_str (xad_cons (xd_tup (ds := [.tuple [.int 10, .int 1, .none], .tuple [.int 10, .int 1, .int 0]]) (xad_cons (xd_tup (ds := [.int 10, .int 1, .none]) (xad_cons xd_int (xad_cons xd_int (xad_cons xd_none xa_nil))) (by show 3 ≤ 100000; decide)) (xad_cons (xd_tup (ds := [.int 10, .int 1, .int 0]) (xad_cons xd_int (xad_cons xd_int (xad_cons xd_int xa_nil))) (by show 3 ≤ 100000; decide)) xa_nil)) (by show 2 ≤ 100000; decide)) xa_nil)) (by show 2 ≤ 100000; decide)) (xad_cons (xd_tup (ds := [.str (u "prints"), .tuple [.tuple [.int 10, .int 1, .none]]]) (xad_cons xd_str (xad_cons (xd_tup (ds := [.tuple [.int 10, .int 1, .none]]) (xad_cons (xd_tup (ds := [.int 10, .int 1, .none]) (xad_cons xd_int (xad_cons xd_int (xad_cons xd_none xa_nil))) (by show 3 ≤ 100000; decide)) xa_nil) (by show 1 ≤ 100000; decide)) xa_nil)) (by show 2 ≤ 100000; decide)) xa_nil)) (by show 2 ≤ 100000; decide)
  refine xss_at (xs_setD 1 (y := .d (.tuple fx3)) ?_ scFix.nd) ?_
  · exact xd_tup (ds := fx3) (xad_cons (xd_tup (ds := [.str (u "closed")]) (xad_cons xd_str xa_nil) (by show 1 ≤ 100000; decide)) (xad_cons (xd_tup (ds := [.str (u "order"), .str (u "ann"), .str (u "sell"), .int 9, .int 4, .tuple []]) (xad_cons xd_str (xad_cons xd_str (xad_cons xd_str (xad_cons xd_int (xad_cons xd_int (xad_cons (xd_tup (ds := []) xa_nil (by show 0 ≤ 100000; decide)) xa_nil)))))) (by show 6 ≤ 100000; decide)) (xad_cons (xd_tup (ds := [.str (u "order"), .str (u "cy"), .str (u "buy"), .int 11, .int 2, .tuple []]) (xad_cons xd_str (xad_cons xd_str (xad_cons xd_str (xad_cons xd_int (xad_cons xd_int (xad_cons (xd_tup (ds := []) xa_nil (by show 0 ≤ 100000; decide)) xa_nil)))))) (by show 6 ≤ 100000; decide)) (xad_cons (xd_tup (ds := [.str (u "prints"), .tuple []]) (xad_cons xd_str (xad_cons (xd_tup (ds := []) xa_nil (by show 0 ≤ 100000; decide)) xa_nil)) (by show 2 ≤ 100000; decide)) xa_nil)))) (by show 4 ≤ 100000; decide)
  refine xss_at (xs_setD 1 (y := .d (.tuple (fx3 ++ fx4))) (xd_catt (xd_name 1) ?_ (by decide)) scFix.nd) ?_
  · exact xd_tup (ds := fx4) (xad_cons (xd_tup (ds := [.str (u "order"), .str (u "bob"), .str (u "sell"), .int 9, .int 1, .tuple []]) (xad_cons xd_str (xad_cons xd_str (xad_cons xd_str (xad_cons xd_int (xad_cons xd_int (xad_cons (xd_tup (ds := []) xa_nil (by show 0 ≤ 100000; decide)) xa_nil)))))) (by show 6 ≤ 100000; decide)) (xad_cons (xd_tup (ds := [.str (u "call"), .int 10, .tuple [.tuple [.int 1, .int 1], .tuple [.int 2, .int 2]]]) (xad_cons xd_str (xad_cons xd_int (xad_cons (xd_tup (ds := [.tuple [.int 1, .int 1], .tuple [.int 2, .int 2]]) (xad_cons (xd_tup (ds := [.int 1, .int 1]) (xad_cons xd_int (xad_cons xd_int xa_nil)) (by show 2 ≤ 100000; decide)) (xad_cons (xd_tup (ds := [.int 2, .int 2]) (xad_cons xd_int (xad_cons xd_int xa_nil)) (by show 2 ≤ 100000; decide)) xa_nil)) (by show 2 ≤ 100000; decide)) xa_nil))) (by show 3 ≤ 100000; decide)) (xad_cons (xd_tup (ds := [.str (u "cancel"), .int 1]) (xad_cons xd_str (xad_cons xd_int xa_nil)) (by show 2 ≤ 100000; decide)) xa_nil))) (by show 3 ≤ 100000; decide)
  refine xss_at (xs_setD 1 (y := .d (.tuple (fx3 ++ fx4 ++ fx5))) (xd_catt (xd_name 1) ?_ (by decide)) scFix.nd) ?_
  · exact xd_tup (ds := fx5) (xad_cons (xd_tup (ds := [.str (u "prints"), .tuple [.tuple [.int 9, .int 1, .int 4], .tuple [.int 12, .int 3, .none]]]) (xad_cons xd_str (xad_cons (xd_tup (ds := [.tuple [.int 9, .int 1, .int 4], .tuple [.int 12, .int 3, .none]]) (xad_cons (xd_tup (ds := [.int 9, .int 1, .int 4]) (xad_cons xd_int (xad_cons xd_int (xad_cons xd_int xa_nil))) (by show 3 ≤ 100000; decide)) (xad_cons (xd_tup (ds := [.int 12, .int 3, .none]) (xad_cons xd_int (xad_cons xd_int (xad_cons xd_none xa_nil))) (by show 3 ≤ 100000; decide)) xa_nil)) (by show 2 ≤ 100000; decide)) xa_nil)) (by show 2 ≤ 100000; decide)) xa_nil) (by show 1 ≤ 100000; decide)
  refine xss_at (xs_setD 2 (y := .d (.tuple fx6)) ?_ scFix.nd) ?_
  · exact xd_tup (ds := fx6) (xad_cons (xd_tup (ds := [.str (u "order"), .str (u "ann"), .str (u "sell"), .int 9, .int 2, .tuple []]) (xad_cons xd_str (xad_cons xd_str (xad_cons xd_str (xad_cons xd_int (xad_cons xd_int (xad_cons (xd_tup (ds := []) xa_nil (by show 0 ≤ 100000; decide)) xa_nil)))))) (by show 6 ≤ 100000; decide)) (xad_cons (xd_tup (ds := [.str (u "order"), .str (u "bob"), .str (u "buy"), .int 9, .int 5, .tuple [.tuple [.int 8, .int 1, .none], .tuple [.int 9, .int 2, .int 0]]]) (xad_cons xd_str (xad_cons xd_str (xad_cons xd_str (xad_cons xd_int (xad_cons xd_int (xad_cons (xd_tup (ds := [.tuple [.int 8, .int 1, .none], .tuple [.int 9, .int 2, .int 0]]) (xad_cons (xd_tup (ds := [.int 8, .int 1, .none]) (xad_cons xd_int (xad_cons xd_int (xad_cons xd_none xa_nil))) (by show 3 ≤ 100000; decide)) (xad_cons (xd_tup (ds := [.int 9, .int 2, .int 0]) (xad_cons xd_int (xad_cons xd_int (xad_cons xd_int xa_nil))) (by show 3 ≤ 100000; decide)) xa_nil)) (by show 2 ≤ 100000; decide)) xa_nil)))))) (by show 6 ≤ 100000; decide)) xa_nil)) (by show 2 ≤ 100000; decide)
  refine xss_at (xs_setD 2 (y := .d (.tuple (fx6 ++ fx7))) (xd_catt (xd_name 2) ?_ (by decide)) scFix.nd) ?_
  · exact xd_tup (ds := fx7) (xad_cons (xd_tup (ds := [.str (u "order"), .str (u "ann"), .str (u "sell"), .int 9, .int 1, .tuple [.tuple [.int 9, .int 1, .int 1]]]) (xad_cons xd_str (xad_cons xd_str (xad_cons xd_str (xad_cons xd_int (xad_cons xd_int (xad_cons (xd_tup (ds := [.tuple [.int 9, .int 1, .int 1]]) (xad_cons (xd_tup (ds := [.int 9, .int 1, .int 1]) (xad_cons xd_int (xad_cons xd_int (xad_cons xd_int xa_nil))) (by show 3 ≤ 100000; decide)) xa_nil) (by show 1 ≤ 100000; decide)) xa_nil)))))) (by show 6 ≤ 100000; decide)) (xad_cons (xd_tup (ds := [.str (u "cancel"), .int 1]) (xad_cons xd_str (xad_cons xd_int xa_nil)) (by show 2 ≤ 100000; decide)) (xad_cons (xd_tup (ds := [.str (u "prints"), .tuple [.tuple [.int 7, .int 1000, .none]]]) (xad_cons xd_str (xad_cons (xd_tup (ds := [.tuple [.int 7, .int 1000, .none]]) (xad_cons (xd_tup (ds := [.int 7, .int 1000, .none]) (xad_cons xd_int (xad_cons xd_int (xad_cons xd_none xa_nil))) (by show 3 ≤ 100000; decide)) xa_nil) (by show 1 ≤ 100000; decide)) xa_nil)) (by show 2 ≤ 100000; decide)) xa_nil))) (by show 3 ≤ 100000; decide)
  refine xss_one (xs_ret ((Xl.g (xl_lst (ds := fxL) ?_ (by show 5 ≤ 100000; decide))).imp fun y G2 w => ?_))
  · exact xad_cons (xd_tup (ds := [.str (u "time"), .tuple (fx1 ++ fx2)]) (xad_cons xd_str (xad_cons (xd_name 0) xa_nil)) (by show 2 ≤ 100000; decide)) (xad_cons (xd_tup (ds := [.str (u "late"), .tuple (fx3 ++ fx4 ++ fx5)]) (xad_cons xd_str (xad_cons (xd_name 1) xa_nil)) (by show 2 ≤ 100000; decide)) (xad_cons (xd_tup (ds := [.str (u "price"), .tuple (fx6 ++ fx7)]) (xad_cons xd_str (xad_cons (xd_name 2) xa_nil)) (by show 2 ≤ 100000; decide)) (xad_cons (xd_tup (ds := [.str (u "time"), .tuple []]) (xad_cons xd_str (xad_cons (xd_tup (ds := []) xa_nil (by show 0 ≤ 100000; decide)) xa_nil)) (by show 2 ≤ 100000; decide)) (xad_cons (xd_tup (ds := [.str (u "late"), .tuple [.tuple [.str (u "closed")]]]) (xad_cons xd_str (xad_cons (xd_tup (ds := [.tuple [.str (u "closed")]]) (xad_cons (xd_tup (ds := [.str (u "closed")]) (xad_cons xd_str xa_nil) (by show 1 ≤ 100000; decide)) xa_nil) (by show 1 ≤ 100000; decide)) xa_nil)) (by show 2 ≤ 100000; decide)) xa_nil))))
  · obtain ⟨l, rfl, rfl⟩ := w
    rw [fxL_is]
    exact hq l
end
end K8

set_option Elab.async false
set_option linter.all false
set_option maxRecDepth 100000
set_option maxHeartbeats 2000000
namespace K8
open PySem PySem.Spec L2 Fsh Rec
abbrev sLo : Stmt := topG 25
abbrev NLo : List Str := ["_law_reader_here", "_law_pool", "_law_fills_here", "_law_k", "_law_n", "_law_pairs", "_law_name", "_law_side", "_law_found"]
theorem scLo : FnScope NLo ["_law_reader_here"] (defScope sLo) := ⟨rfl, rfl, rfl, by decide +kernel, rfl, by decide +kernel, by decide +kernel⟩
def zLo : Fsh.Spec := fun xs G Φ => ∃ (r : Addr) (n : Int) (Gr G' : Store), xs = [.a r] ∧ G = Gr ++ G' ∧ Rd n r Gr ∧ n < 900000 ∧
  ∀ row Gr', okR row → Rd (n + 100) r Gr' → Φ (.d (rowD row)) (Gr' ++ G')
def e59 : Int := 10 ^ (59 : Int).toNat
theorem lil59 : lil e59 := by unfold lil e59; decide +kernel
def poolM : List Int := [1, 2, 10, 999, e59, 77]
theorem pool_ok : ∀ v ∈ poolM, lil v := fun v hv => by
  simp only [poolM, List.mem_cons, List.not_mem_nil, or_false] at hv
  rcases hv with e | e | e | e | e | e <;> subst e
  · exact lil_of (by decide) (by decide)
  · exact lil_of (by decide) (by decide)
  · exact lil_of (by decide) (by decide)
  · exact lil_of (by decide) (by decide)
  · exact lil59
  · exact lil_of (by decide) (by decide)
abbrev poolV : DV := .d (.list (poolM.map PyData.int))
section
variable {X : Cx} {e a b : Expr} {ρ : Fsh.Env} {Φ : Pst} {pos p p2 p3 : Pos} {k j : Nat}
/-- pool[draw(reader, 6)] -/
theorem xp_pool {G1 Gr G2 : Store} {r : Addr} {n : Int} (D : Fn X.prog X.w X.K X.mg X.base k "_law_draw" ["_law_reader_here", "_law_many"] zDraw) (hr : Room k X.A) (hc : Rd n r Gr) (hn : n < 1000000) (ho : Xd X a ρ poolV) (hb : Xd X b ρ (.a r)) (h : ∀ v Gr', lil v → Rd (n + 1) r Gr' → Φ (intV v) (G1 ++ (Gr' ++ G2))) (hg : Gl X "_law_draw" := by rfl)
    (hst : starEach [b, .Constant (.int 6) j p3] X.env = (false, eval b X.env) :: starEach [.Constant (.int 6) j p3] X.env := by rfl) (hst2 : starEach [.Constant (.int 6) j p3] X.env = (false, eval (.Constant (.int 6) j p3) X.env) :: starEach [] X.env := by rfl) (hpl : (backTo p2 (starEach [.Constant (.int 6) j p3] X.env)).any (·.1) = false := by rfl) (hs : PlainIx (.Call (.Name "_law_draw" p) [b, .Constant (.int 6) j p3] [] p2) := by exact fun _ _ => rfl) :
    Xp X (.Subscript a (.Call (.Name "_law_draw" p) [b, .Constant (.int 6) j p3] [] p2) pos) ρ (G1 ++ (Gr ++ G2)) Φ := by
  refine xp_oneof ho (xp_draw (m := 6) (Φ := fun y G3 => ∃ (i : Int) (Gr' : Store), y = intV i ∧ 0 ≤ i ∧ i < 6 ∧ G3 = G1 ++ (Gr' ++ G2) ∧ Rd (n + 1) r Gr') D hr hc hn (by decide) (by decide) (Xad.i (xad_cons hb (xad_cons xd_int xa_nil hst2) hst)) (fun i Gr' h1 h2 h3 => ⟨i, Gr', rfl, h1, h2, rfl, h3⟩) hg hst hpl) (fun y G3 q => ?_) hs
  obtain ⟨i, Gr', e1, h1, h2, rfl, h3⟩ := q
  refine ⟨i, e1, h1, h2, fun d hd => ?_⟩
  obtain ⟨v, hv, rfl⟩ := List.mem_map.mp hd
  exact h v Gr' (pool_ok v hv) h3
end
section
variable {P : Program} {w : World} {K : PySem.W.Frag} {mg : Str → Option Value} {base : Heap}
abbrev eL (r : Addr) (l : Addr) (t3 t4 t5 t6 t7 t8 : Option DV) : Fsh.Env := [some (.a r), some poolV, some (.a l), t3, t4, t5, t6, t7, t8]
theorem f_lo2 {f : Addr} {fd : FuncData} (F1 : Fun K "_law_loose_row" "_law_loose_row" sLo f fd) (B : Bn mg) (D : Fn P w K mg base 1 "_law_draw" ["_law_reader_here", "_law_many"] zDraw) {cdv : Value} {A : Around} {outer : List PySem.Env} {s : Shared} {H : Hp} {E : XK} (hr : Room 1 (A.deeper (PyProof.Rows.envOfC "_law_loose_row" (defScope sLo) s.heap.objs.size f cdv))) {r l : Addr} {n : Int} {fs : List Fil} {Gr1 G' : Store} {t3 t4 : Option DV} {Φ : Pst} (hR1 : Rd (n + 31) r Gr1) (hn : n < 900000) (hf : okFs fs) (hq : ∀ row Gr', okR row → Rd (n + 100) r Gr' → Φ (.d (rowD row)) (Gr' ++ G')) :
    Xss (cxOf CX0 P w K mg base NLo "_law_loose_row" (defScope sLo) f cdv A outer s H E).nox ((defBody sLo).drop 3) (eL r l t3 t4 none none none none) ((l, .lst (fs.map filD)) :: (Gr1 ++ G')) (fun _ G => Φ (.d .none) G) Φ := by
  have hD : Room 1 (A.deeper (PyProof.Rows.envOfC (Str.ofString "_law_loose_row") (defScope sLo) s.heap.objs.size f cdv)) := hr.mono (by decide)
  show Xss _ (List.cons _ _) _ _ _ _
  -- pairs
  refine xss_cons (M := fun ρ' G2 => ∃ (ps : List (Int × Int)) (Gr3 : Store), ρ' = eL r l t3 t4 (some (.d (.list (ps.map pairD)))) none none none ∧ ps.length ≤ 30 ∧ (∀ q ∈ ps, okP q) ∧ G2 = (l, .lst (fs.map filD)) :: (Gr3 ++ G') ∧ Rd (n + 40) r Gr3) (xs_setLc 5 (Φe := fun y G2 => ∃ (ps : List (Int × Int)) (Gr3 : Store), y = .d (.list (ps.map pairD)) ∧ ps.length ≤ 30 ∧ (∀ q ∈ ps, okP q) ∧ G2 = (l, .lst (fs.map filD)) :: (Gr3 ++ G') ∧ Rd (n + 40) r Gr3) (LcP.give ?_) (fun y G2 q => ?_)) fun ρ' G2 q => ?_
  · refine lcx_L (js := [4]) (Φs := fun y G2 => ∃ (ns : List Int) (Gr3 : Store), y = .d (.list (ns.map PyData.int)) ∧ (∀ v ∈ ns, lil v) ∧ ns.length ≤ 5 ∧ G2 = (l, .lst (fs.map filD)) :: (Gr3 ++ G') ∧ Rd (n + 32) r Gr3) (fun ds => ∃ ns : List Int, ds = ns.map PyData.int ∧ (∀ v ∈ ns, lil v) ∧ ns.length ≤ 5) (fun ds i acc G1 => ∃ (ps : List (Int × Int)) (Gr3 : Store), acc = ps.map pairD ∧ ps.length = i ∧ (∀ q ∈ ps, okP q) ∧ G1 = (l, .lst (fs.map filD)) :: (Gr3 ++ G') ∧ Rd (n + 32 + i) r Gr3) scLo.nd ?_
      (blkOk_by (own := [("_law_n", 4)]) (N := NLo) (sc := defScope sLo) (by decide +kernel)) (fun _ _ _ _ _ => pg_name (i := 4) scLo.nd rfl (Or.inl rfl)) (by decide) (fun y G1 q => ?_) (fun ds hP i d hd => ?_) (fun lx acc G3 ds hP q => ?_)
    · refine xp_slX (ds := [0, 1, 5, 8, e59].map PyData.int) (xl_lst (xad_cons xd_int (xad_cons xd_int (xad_cons xd_int (xad_cons xd_int (xad_cons (xd_pow xd_int xd_int ⟨by decide, by decide, by decide⟩) xa_nil))))) (by show 5 ≤ 100000; decide)).data (xp_draw (G1 := [(l, .lst (fs.map filD))]) (m := 6) (Φ := fun y G2 => ∃ (i : Int) (Gr3 : Store), y = intV i ∧ G2 = (l, .lst (fs.map filD)) :: (Gr3 ++ G') ∧ Rd (n + 32) r Gr3) D hD hR1 (by omega) (by decide) (by decide) (Xad.i (xad_cons (xd_name 0) (xad_cons xd_int xa_nil))) fun i Gr2 h1 h2 h3 => ⟨i, Gr2, rfl, rfl, h3.mono (by omega)⟩) fun y G2 q => ?_
      obtain ⟨i, Gr3, rfl, rfl, h3⟩ := q
      obtain ⟨ns, e1, h1, h2⟩ := cut_sub PyData.int [0, 1, 5, 8, e59] (some i) none
      refine ⟨i, rfl, ns, Gr3, by rw [e1], fun v hv => ?_, h2, rfl, h3⟩
      have hv := h1 v hv
      simp only [List.mem_cons, List.not_mem_nil, or_false] at hv
      rcases hv with e | e | e | e | e <;> subst e
      · exact lil_of (by decide) (by decide)
      · exact lil_of (by decide) (by decide)
      · exact lil_of (by decide) (by decide)
      · exact lil_of (by decide) (by decide)
      · exact lil59
    · obtain ⟨ns, Gr3, rfl, h1, h2, rfl, h3⟩ := q
      exact ⟨_, rfl, by rw [List.length_map]; omega, ⟨ns, rfl, h1, h2⟩, [], Gr3, rfl, rfl, (fun q hq => by cases hq), rfl, h3.mono (by omega)⟩
    · obtain ⟨ns, rfl, h1, h2⟩ := hP
      obtain ⟨v, hv, rfl⟩ := of_map_at hd
      have hil := (List.getElem?_eq_some_iff.mp hv).1
      have hvl := h1 v (List.mem_of_getElem? hv)
      refine ⟨_, rg_name, fun acc G1 q => turn_each fun z => ?_⟩
      obtain ⟨ps, Gr3, rfl, hpl, hps, rfl, hR3⟩ := q
      refine xp_tup2 (x := .int v) (Φb := fun y G2 => ∃ (j : Int) (Gr4 : Store), y = intV j ∧ lil j ∧ G2 = (l, .lst (fs.map filD)) :: (Gr4 ++ G') ∧ Rd (n + 32 + i + 1) r Gr4) (xd_name 4) (xp_pool (G1 := [(l, .lst (fs.map filD))]) D hD hR3 (by omega) (xd_name 1) (xd_name 0) fun v Gr4 h1 h2 => ⟨v, Gr4, rfl, h1, rfl, h2⟩) fun y G2 w => ?_
      obtain ⟨j, Gr4, rfl, h5, rfl, h7⟩ := w
      refine ⟨_, rfl, _, rfl, ps ++ [(v, j)], Gr4, ?_, ?_, fun q hq2 => ?_, rfl, h7.mono (by omega)⟩
      · rw [List.map_append]
        rfl
      · rw [List.length_append, hpl]
        rfl
      · rcases List.mem_append.mp hq2 with hq2 | hq2
        · exact hps q hq2
        · rw [List.mem_singleton.mp hq2]
          exact ⟨hvl, h5⟩
    · obtain ⟨ns, rfl, h1, h2⟩ := hP
      obtain ⟨ps, Gr3, rfl, hpl, hps, rfl, hR3⟩ := q
      rw [List.length_map] at hpl hR3
      exact ⟨lx, _, _, rfl, rfl, ps, Gr3, rfl, by omega, hps, rfl, hR3.mono (by omega)⟩
  · obtain ⟨ps, Gr3, rfl, w⟩ := q
    exact ⟨ps, Gr3, rfl, w⟩
  obtain ⟨ps, Gr3, rfl, hpl, hps, rfl, hR3⟩ := q
  -- name, side
  refine xss_cons (M := fun ρ' G2 => ∃ (m sd : Str) (Gr4 : Store), ρ' = eL r l t3 t4 (some (.d (.list (ps.map pairD)))) (some (.d (.str m))) (some (.d (.str sd))) none ∧ okS 8 m ∧ okS 8 sd ∧ G2 = (l, .lst (fs.map filD)) :: (Gr4 ++ G') ∧ Rd (n + 42) r Gr4) ?_ fun ρ' G2 q => ?_
  · refine xs_par 6 7 (Φl := fun xs G2 => ∃ (m sd : Str) (Gr4 : Store), xs = [.d (.str m), .d (.str sd)] ∧ okS 8 m ∧ okS 8 sd ∧ G2 = (l, .lst (fs.map filD)) :: (Gr4 ++ G') ∧ Rd (n + 42) r Gr4) (xa_two (Φa := fun y G2 => ∃ (m : Str) (Gr4 : Store), y = .d (.str m) ∧ okS 8 m ∧ G2 = (l, .lst (fs.map filD)) :: (Gr4 ++ G') ∧ Rd (n + 41) r Gr4) ?_ (fun x G1 q => ?_)) (fun xs G2 q => ?_) scLo.nd
    · refine xp_oneof (ds := [.str (u "ann"), .str (u "order"), .str (u "zzzzzzzz")]) (xl_lst (xad_cons xd_str (xad_cons xd_str (xad_cons xd_str xa_nil)))).data (xp_draw (G1 := [(l, .lst (fs.map filD))]) (m := 3) (Φ := fun y G2 => ∃ (i : Int) (Gr2 : Store), y = intV i ∧ 0 ≤ i ∧ i < 3 ∧ G2 = (l, .lst (fs.map filD)) :: (Gr2 ++ G') ∧ Rd (n + 41) r Gr2) D hD hR3 (by omega) (by decide) (by decide) (Xad.i (xad_cons (xd_name 0) (xad_cons xd_int xa_nil))) fun i Gr2 h1 h2 h3 => ⟨i, Gr2, rfl, h1, h2, rfl, h3.mono (by omega)⟩) fun y G2 w => ?_
      obtain ⟨i, Gr4, e1, h1, h2, e2, h4⟩ := w
      refine ⟨i, e1, h1, h2, fun d hd => ?_⟩
      simp only [List.mem_cons, List.not_mem_nil, or_false] at hd
      rcases hd with e | e | e <;> subst e
      · exact ⟨_, Gr4, rfl, (okS_lit "ann").mono (by decide), e2, h4⟩
      · exact ⟨_, Gr4, rfl, (okS_lit "order").mono (by decide), e2, h4⟩
      · exact ⟨_, Gr4, rfl, (okS_lit "zzzzzzzz").mono (by decide), e2, h4⟩
    · obtain ⟨m, Gr4, rfl, hmm, rfl, h3⟩ := q
      refine xp_oneof (ds := [.str (u "buy"), .str (u "sell")]) (xl_lst (xad_cons xd_str (xad_cons xd_str xa_nil))).data (xp_draw (G1 := [(l, .lst (fs.map filD))]) (m := 2) (Φ := fun y G2 => ∃ (i : Int) (Gr2 : Store), y = intV i ∧ 0 ≤ i ∧ i < 2 ∧ G2 = (l, .lst (fs.map filD)) :: (Gr2 ++ G') ∧ Rd (n + 42) r Gr2) D hD h3 (by omega) (by decide) (by decide) (Xad.i (xad_cons (xd_name 0) (xad_cons xd_int xa_nil))) fun i Gr2 h1 h2 h3 => ⟨i, Gr2, rfl, h1, h2, rfl, h3.mono (by omega)⟩) fun y G2 w => ?_
      obtain ⟨i, Gr5, e1, h1, h2, e2, h4⟩ := w
      refine ⟨i, e1, h1, h2, fun d hd => ?_⟩
      simp only [List.mem_cons, List.not_mem_nil, or_false] at hd
      rcases hd with e | e <;> subst e
      · exact ⟨m, _, Gr5, rfl, hmm, (okS_lit "buy").mono (by decide), e2, h4⟩
      · exact ⟨m, _, Gr5, rfl, hmm, (okS_lit "sell").mono (by decide), e2, h4⟩
    · obtain ⟨m, sd, Gr4, rfl, w⟩ := q
      exact ⟨_, _, rfl, m, sd, Gr4, rfl, w⟩
  obtain ⟨m, sd, Gr4, rfl, hmm, hsd, rfl, hR4⟩ := q
  -- found
  refine xss_cons (M := fun ρ' G2 => ∃ (p z : Int) (Gr5 : Store), ρ' = eL r l t3 t4 (some (.d (.list (ps.map pairD)))) (some (.d (.str m))) (some (.d (.str sd))) (some (.d (.list [rowD (.order m sd p z fs)]))) ∧ lil p ∧ lil z ∧ G2 = (l, .lst (fs.map filD)) :: (Gr5 ++ G') ∧ Rd (n + 44) r Gr5) (xs_set 8 (Φe := fun y G2 => ∃ (p z : Int) (Gr5 : Store), y = .d (.list [rowD (.order m sd p z fs)]) ∧ lil p ∧ lil z ∧ G2 = (l, .lst (fs.map filD)) :: (Gr5 ++ G') ∧ Rd (n + 44) r Gr5) ?_ (fun y G2 q => ?_) scLo.nd) fun ρ' G2 q => ?_
  · refine xp_lstG (Φl := fun xs G2 => ∃ (p z : Int) (Gr5 : Store), xs = [.d (rowD (.order m sd p z fs))] ∧ lil p ∧ lil z ∧ G2 = (l, .lst (fs.map filD)) :: (Gr5 ++ G') ∧ Rd (n + 44) r Gr5) (xa_step (xp_tup (Φ := fun y G2 => ∃ (p z : Int) (Gr5 : Store), y = .d (rowD (.order m sd p z fs)) ∧ lil p ∧ lil z ∧ G2 = (l, .lst (fs.map filD)) :: (Gr5 ++ G') ∧ Rd (n + 44) r Gr5) (Φl := fun xs G2 => ∃ (p z : Int) (Gr5 : Store), xs = [.d (.str (u "order")), .d (.str m), .d (.str sd), intV p, intV z, .d (.tuple (fs.map filD))] ∧ lil p ∧ lil z ∧ G2 = (l, .lst (fs.map filD)) :: (Gr5 ++ G') ∧ Rd (n + 44) r Gr5) ?_ fun xs G2 q => ?_) fun x G1 q => xa_end ?_) fun xs G2 q => ?_
    · refine xa_step xd_str.g fun x G1 q => ?_
      obtain ⟨rfl, rfl⟩ := q
      refine xa_step (xd_name 6).g fun x G1 q => ?_
      obtain ⟨rfl, rfl⟩ := q
      refine xa_step (xd_name 7).g fun x G1 q => ?_
      obtain ⟨rfl, rfl⟩ := q
      refine xa_step (xp_pool (G1 := [(l, .lst (fs.map filD))]) (Φ := fun y G2 => ∃ v Gr5, y = intV v ∧ lil v ∧ Rd (n + 43) r Gr5 ∧ G2 = (l, .lst (fs.map filD)) :: (Gr5 ++ G')) D hD hR4 (by omega) (xd_name 1) (xd_name 0) fun v Gr4 h1 h2 => ⟨v, Gr4, rfl, h1, h2.mono (by omega), rfl⟩) fun x G1 q => ?_
      obtain ⟨v, Gr5, rfl, hv, hR5, rfl⟩ := q
      refine xa_step (xp_pool (G1 := [(l, .lst (fs.map filD))]) (Φ := fun y G2 => ∃ v Gr5, y = intV v ∧ lil v ∧ Rd (n + 44) r Gr5 ∧ G2 = (l, .lst (fs.map filD)) :: (Gr5 ++ G')) D hD hR5 (by omega) (xd_name 1) (xd_name 0) fun v Gr4 h1 h2 => ⟨v, Gr4, rfl, h1, h2.mono (by omega), rfl⟩) fun x G1 q => ?_
      obtain ⟨v2, Gr6, rfl, hv2, hR6, rfl⟩ := q
      refine xa_step (xi_tupC B (xd_name 2) List.mem_cons_self) fun x G1 q => xa_end ?_
      obtain ⟨rfl, rfl⟩ := q
      exact ⟨v, v2, Gr6, rfl, hv, hv2, rfl, hR6⟩
    · obtain ⟨p, z, Gr5, rfl, w⟩ := q
      exact ⟨[.str (u "order"), .str m, .str sd, .int p, .int z, .tuple (fs.map filD)], rfl, by show 6 ≤ 100000; decide, p, z, Gr5, rfl, w⟩
    · obtain ⟨p, z, Gr5, rfl, w⟩ := q
      exact ⟨p, z, Gr5, rfl, w⟩
    · obtain ⟨p, z, Gr5, rfl, w⟩ := q
      exact ⟨[rowD (.order m sd p z fs)], rfl, by show 1 ≤ 100000; decide, p, z, Gr5, rfl, w⟩
  · obtain ⟨p, z, Gr5, rfl, w⟩ := q
    exact ⟨p, z, Gr5, rfl, w⟩
  obtain ⟨p, z, Gr5, rfl, hp, hzz, rfl, hR5⟩ := q
  refine xss_cons (M := fun ρ' G2 => ∃ (c : Int) (Gr6 : Store), ρ' = eL r l t3 t4 (some (.d (.list (ps.map pairD)))) (some (.d (.str m))) (some (.d (.str sd))) (some (.d (.list ([rowD (.order m sd p z fs)] ++ [rowD (.prints fs), rowD (.cancel c), rowD .closed])))) ∧ lil c ∧ G2 = (l, .lst (fs.map filD)) :: (Gr6 ++ G') ∧ Rd (n + 45) r Gr6) (xs_set 8 (Φe := fun y G2 => ∃ (c : Int) (Gr6 : Store), y = .d (.list ([rowD (.order m sd p z fs)] ++ [rowD (.prints fs), rowD (.cancel c), rowD .closed])) ∧ lil c ∧ G2 = (l, .lst (fs.map filD)) :: (Gr6 ++ G') ∧ Rd (n + 45) r Gr6) ?_ (fun y G2 q => ?_) scLo.nd) fun ρ' G2 q => ?_
  · refine xp_catG (Φb := fun y G2 => ∃ (c : Int) (Gr6 : Store), y = .d (.list [rowD (.prints fs), rowD (.cancel c), rowD .closed]) ∧ lil c ∧ G2 = (l, .lst (fs.map filD)) :: (Gr6 ++ G') ∧ Rd (n + 45) r Gr6) (xd_name 8) (xp_lstG (Φl := fun xs G2 => ∃ (c : Int) (Gr6 : Store), xs = [.d (rowD (.prints fs)), .d (rowD (.cancel c)), .d (rowD .closed)] ∧ lil c ∧ G2 = (l, .lst (fs.map filD)) :: (Gr6 ++ G') ∧ Rd (n + 45) r Gr6) ?_ fun xs G2 q => ?_) fun y G2 q => ?_
    · refine xa_step (xi_tup (ds := [.str (u "prints"), .tuple (fs.map filD)]) (xi_cons xd_str.g (xi_cons (xi_tupC B (xd_name 2) List.mem_cons_self) (xa_nil _))) (by show 2 ≤ 100000; decide)) fun x G1 q => ?_
      obtain ⟨rfl, rfl⟩ := q
      refine xa_step (xp_tup2 (x := .str (u "cancel")) (Φ := fun y G2 => ∃ (c : Int) (Gr6 : Store), y = .d (rowD (.cancel c)) ∧ lil c ∧ G2 = (l, .lst (fs.map filD)) :: (Gr6 ++ G') ∧ Rd (n + 45) r Gr6) (Φb := fun y G2 => ∃ (c : Int) (Gr6 : Store), y = intV c ∧ lil c ∧ G2 = (l, .lst (fs.map filD)) :: (Gr6 ++ G') ∧ Rd (n + 45) r Gr6) xd_str (xp_oneof (ds := [.int 0, .int 7, .int e59]) (xl_lst (xad_cons xd_int (xad_cons xd_int (xad_cons (xd_pow xd_int xd_int ⟨by decide, by decide, by decide⟩) xa_nil))) (by show 3 ≤ 100000; decide)).data (xp_draw (G1 := [(l, .lst (fs.map filD))]) (m := 3) (Φ := fun y G2 => ∃ (i : Int) (Gr2 : Store), y = intV i ∧ 0 ≤ i ∧ i < 3 ∧ G2 = (l, .lst (fs.map filD)) :: (Gr2 ++ G') ∧ Rd (n + 45) r Gr2) D hD hR5 (by omega) (by decide) (by decide) (Xad.i (xad_cons (xd_name 0) (xad_cons xd_int xa_nil))) fun i Gr2 h1 h2 h3 => ⟨i, Gr2, rfl, h1, h2, rfl, h3.mono (by omega)⟩) fun y G2 w => ?_) fun y G2 w => ?_) fun x G1 q => ?_
      · obtain ⟨i, Gr6, e1, h1, h2, e2, h4⟩ := w
        refine ⟨i, e1, h1, h2, fun d hd => ?_⟩
        simp only [List.mem_cons, List.not_mem_nil, or_false] at hd
        rcases hd with e | e | e <;> subst e
        · exact ⟨_, Gr6, rfl, lil_of (by decide) (by decide), e2, h4⟩
        · exact ⟨_, Gr6, rfl, lil_of (by decide) (by decide), e2, h4⟩
        · exact ⟨_, Gr6, rfl, lil59, e2, h4⟩
      · obtain ⟨c, Gr6, rfl, w⟩ := w
        exact ⟨_, rfl, c, Gr6, rfl, w⟩
      · obtain ⟨c, Gr6, rfl, hc, rfl, h6⟩ := q
        refine xa_step (xd_tup (ds := [.str (u "closed")]) (xad_cons xd_str xa_nil)).g fun x G1 q => xa_end ?_
        obtain ⟨rfl, rfl⟩ := q
        exact ⟨c, Gr6, rfl, hc, rfl, h6⟩
    · obtain ⟨c, Gr6, rfl, w⟩ := q
      exact ⟨[rowD (.prints fs), rowD (.cancel c), rowD .closed], rfl, by show 3 ≤ 100000; decide, c, Gr6, rfl, w⟩
    · obtain ⟨c, Gr6, rfl, w⟩ := q
      exact ⟨_, rfl, by show 4 ≤ 100000; decide, c, Gr6, rfl, w⟩
  · obtain ⟨c, Gr6, rfl, w⟩ := q
    exact ⟨c, Gr6, rfl, w⟩
  obtain ⟨c, Gr6, rfl, hc, rfl, hR6⟩ := q
  refine xss_one (xs_ret (R.lose ?_))
  refine xp_ixX (Φa := fun y G2 => ∃ (v : Int) (Gr7 : Store), y = .d (.list (([rowD (.order m sd p z fs)] ++ [rowD (.prints fs), rowD (.cancel c), rowD .closed]) ++ [rowD (.call (some v) ps), rowD (.call none [])])) ∧ lil v ∧ G2 = (l, .lst (fs.map filD)) :: (Gr7 ++ G') ∧ Rd (n + 46) r Gr7)
    (Φb := fun x y G2 => ∃ (v : Int) (i : Int) (Gr7 : Store), x = .d (.list (([rowD (.order m sd p z fs)] ++ [rowD (.prints fs), rowD (.cancel c), rowD .closed]) ++ [rowD (.call (some v) ps), rowD (.call none [])])) ∧ lil v ∧ y = intV i ∧ 0 ≤ i ∧ i < 6 ∧ G2 = (l, .lst (fs.map filD)) :: (Gr7 ++ G') ∧ Rd (n + 47) r Gr7) ?_ (fun x G1 q => ?_) fun x G1 y G2 q1 q2 => ?_
  · refine xp_catG (Φb := fun y G2 => ∃ (v : Int) (Gr7 : Store), y = .d (.list [rowD (.call (some v) ps), rowD (.call none [])]) ∧ lil v ∧ G2 = (l, .lst (fs.map filD)) :: (Gr7 ++ G') ∧ Rd (n + 46) r Gr7) (xd_name 8) (xp_lstG (Φl := fun xs G2 => ∃ (v : Int) (Gr7 : Store), xs = [.d (rowD (.call (some v) ps)), .d (rowD (.call none []))] ∧ lil v ∧ G2 = (l, .lst (fs.map filD)) :: (Gr7 ++ G') ∧ Rd (n + 46) r Gr7) ?_ fun xs G2 q => ?_) fun y G2 q => ?_
    · refine xa_step (xp_tup (Φ := fun y G2 => ∃ (v : Int) (Gr7 : Store), y = .d (rowD (.call (some v) ps)) ∧ lil v ∧ G2 = (l, .lst (fs.map filD)) :: (Gr7 ++ G') ∧ Rd (n + 46) r Gr7) (Φl := fun xs G2 => ∃ (v : Int) (Gr7 : Store), xs = [.d (.str (u "call")), intV v, .d (.tuple (ps.map pairD))] ∧ lil v ∧ G2 = (l, .lst (fs.map filD)) :: (Gr7 ++ G') ∧ Rd (n + 46) r Gr7) ?_ fun xs G2 q => ?_) fun x G1 q => ?_
      · refine xa_step xd_str.g fun x G1 q => ?_
        obtain ⟨rfl, rfl⟩ := q
        refine xa_step (xp_pool (G1 := [(l, .lst (fs.map filD))]) (Φ := fun y G2 => ∃ v Gr5, y = intV v ∧ lil v ∧ Rd (n + 46) r Gr5 ∧ G2 = (l, .lst (fs.map filD)) :: (Gr5 ++ G')) D hD hR6 (by omega) (xd_name 1) (xd_name 0) fun v Gr4 h1 h2 => ⟨v, Gr4, rfl, h1, h2.mono (by omega), rfl⟩) fun x G1 q => ?_
        obtain ⟨v, Gr7, rfl, hv, hR7, rfl⟩ := q
        refine xa_step (xd_tupL B (xd_name 5)).g fun x G1 q => xa_end ?_
        obtain ⟨rfl, rfl⟩ := q
        exact ⟨v, Gr7, rfl, hv, rfl, hR7⟩
      · obtain ⟨v, Gr7, rfl, w⟩ := q
        exact ⟨[.str (u "call"), .int v, .tuple (ps.map pairD)], rfl, by show 3 ≤ 100000; decide, v, Gr7, rfl, w⟩
      · obtain ⟨v, Gr7, rfl, hv, rfl, h7⟩ := q
        refine xa_step (xd_tup (ds := [.str (u "call"), .none, .tuple []]) (xad_cons xd_str (xad_cons xd_none (xad_cons (xd_tup (ds := []) xa_nil) xa_nil))) (by show 3 ≤ 100000; decide)).g fun x G1 q => xa_end ?_
        obtain ⟨rfl, rfl⟩ := q
        exact ⟨v, Gr7, rfl, hv, rfl, h7⟩
    · obtain ⟨v, Gr7, rfl, w⟩ := q
      exact ⟨[rowD (.call (some v) ps), rowD (.call none [])], rfl, by show 2 ≤ 100000; decide, v, Gr7, rfl, w⟩
    · obtain ⟨v, Gr7, rfl, w⟩ := q
      exact ⟨_, rfl, by show 6 ≤ 100000; decide, v, Gr7, rfl, w⟩
  · obtain ⟨v, Gr7, rfl, hv, rfl, h7⟩ := q
    exact xp_draw (G1 := [(l, .lst (fs.map filD))]) (m := 6) D hD h7 (by omega) (by decide) (by decide) (Xad.i (xad_cons (xd_name 0) (xad_cons xd_int xa_nil))) fun i Gr8 h1 h2 h3 => ⟨v, i, Gr8, rfl, hv, rfl, h1, h2, rfl, h3.mono (by omega)⟩
  · obtain ⟨v, i, Gr8, rfl, hv, rfl, h1, h2, rfl, h8⟩ := q2
    have hall : ∀ row ∈ ([.order m sd p z fs, .prints fs, .cancel c, .closed, .call (some v) ps, .call none []] : List RowM), okR row := fun row hr => by
      simp only [List.mem_cons, List.not_mem_nil, or_false] at hr
      rcases hr with e | e | e | e | e | e <;> subst e
      · exact ⟨hmm, hsd, hp, hzz, hf⟩
      · exact hf
      · exact hc
      · exact True.intro
      · exact ⟨fun k2 e => by rw [← Option.some.inj e]; exact hv, hpl, hps⟩
      · exact ⟨(fun k2 e => by cases e), Nat.zero_le _, fun q hq => by cases hq⟩
    obtain ⟨row, hrow⟩ : ∃ row, ([.order m sd p z fs, .prints fs, .cancel c, .closed, .call (some v) ps, .call none []] : List RowM)[i.toNat]? = some row := ⟨_, List.getElem?_eq_getElem (by show i.toNat < 6; omega)⟩
    have h9 := at_map rowD hrow
    rw [Int.toNat_of_nonneg h1] at h9
    exact ⟨_, i, rowD row, rfl, rfl, h9, _, Gr8 ++ G', rfl, hq row Gr8 (hall row (List.mem_of_getElem? hrow)) (h8.mono (by omega))⟩
theorem f_lo {f : Addr} {fd : FuncData} (F1 : Fun K "_law_loose_row" "_law_loose_row" sLo f fd) (hm : mg "_law_loose_row" = some (.ref f)) (B : Bn mg) (D : Fn P w K mg base 1 "_law_draw" ["_law_reader_here", "_law_many"] zDraw) : Fn P w K mg base 2 "_law_loose_row" ["_law_reader_here"] zLo := by
  refine fn_rule F1 scLo (F1.binds fun _ _ _ _ _ _ us hl => match us, hl with | [_], _ => rfl) hm (fun xs G Φ h => by obtain ⟨_, _, _, _, rfl, _⟩ := h; rfl) fun cdv A outer s H E hr xs G Φ hz => ?_
  obtain ⟨r, n, Gr, G', rfl, rfl, hR, hn, hq⟩ := hz
  have hD : Room 1 (A.deeper (PyProof.Rows.envOfC (Str.ofString "_law_loose_row") (defScope sLo) s.heap.objs.size f cdv)) := hr.mono (by decide)
  show Xss _ (List.cons _ _) _ _ _ _
  refine xss_at (xs_setD 1 (y := poolV) (Xl.data (xl_lst ?_ (by decide))) scLo.nd) ?_
  · exact xad_cons xd_int (xad_cons xd_int (xad_cons xd_int (xad_cons xd_int (xad_cons (xd_pow xd_int xd_int ⟨by decide, by decide, by decide⟩) (xad_cons xd_int xa_nil)))))
  refine xss_cons (M := fun ρ' G2 => ∃ l, ρ' = eL r l none none none none none none ∧ G2 = (l, .lst []) :: (Gr ++ G')) (xs_set 2 (Φe := fun y G2 => ∃ l, y = .a l ∧ G2 = (l, .lst []) :: (Gr ++ G')) (Xl.g (xl_lst (ds := []) xa_nil)) (fun y G2 q => ?_) scLo.nd) fun ρ' G2 q => ?_
  · obtain ⟨l, rfl, rfl⟩ := q
    exact ⟨l, rfl, rfl⟩
  obtain ⟨l, rfl, rfl⟩ := q
  -- fills
  refine xss_cons (M := fun ρ' G2 => ∃ (fs : List Fil) (Gr1 : Store) (t3 t4 : Option DV), ρ' = eL r l t3 t4 none none none none ∧ G2 = (l, .lst (fs.map filD)) :: (Gr1 ++ G') ∧ okFs fs ∧ Rd (n + 31) r Gr1)
    (xs_forR (js := [3]) (Φl := fun xs G2 => ∃ c Gr1, xs = [intV c] ∧ 0 ≤ c ∧ c < 5 ∧ Rd (n + 1) r Gr1 ∧ G2 = (l, .lst []) :: (Gr1 ++ G'))
      (fun c k ρ1 G1 => c ≤ 5 ∧ ∃ (fs : List Fil) (Gr1 : Store) (t3 t4 : Option DV), ρ1 = eL r l t3 t4 none none none none ∧ G1 = (l, .lst (fs.map filD)) :: (Gr1 ++ G') ∧ okFs fs ∧ fs.length ≤ k ∧ Rd (n + 1 + 3 * k) r Gr1) PassesOwn.never B.range ?_ (pg_name (i := 3) scLo.nd rfl (Or.inl rfl)) ?_ ?_ ?_) fun ρ' G2 q => ?_
  · refine xa_step (xp_draw (G1 := [(l, .lst [])]) (m := 5) (Φ := fun y G2 => ∃ c Gr1, y = intV c ∧ 0 ≤ c ∧ c < 5 ∧ Rd (n + 1) r Gr1 ∧ G2 = (l, .lst []) :: (Gr1 ++ G')) D hD hR (by omega) (by omega) (by omega) (Xad.i (xad_cons (xd_name 0) (xad_cons xd_int xa_nil))) fun i Gr2 h1 h2 h3 => ⟨i, Gr2, rfl, h1, h2, h3, rfl⟩) fun x G1 q => xa_end ?_
    obtain ⟨c, Gr2, rfl, w⟩ := q
    exact ⟨c, Gr2, rfl, w⟩
  · rintro xs G1 ⟨c, Gr2, rfl, h1, h2, h3, rfl⟩
    exact ⟨c, rfl, by omega, by omega, by omega, [], Gr2, none, none, rfl, rfl, ⟨Nat.zero_le _, fun f h => by cases h⟩, Nat.zero_le _, h3.mono (by omega)⟩
  · rintro c k ρ1 G1 hk ⟨hc5, fs, Gr2, t3, t4, rfl, rfl, hf, hfk, hR2⟩
    refine ⟨_, rg_name, ?_⟩
    refine xss_cons (M := fun ρ' G2 => ∃ (o : Option Int) (Gr3 : Store), ρ' = eL r l (some (intV k)) (some (.d (optD o))) none none none none ∧ lilO o ∧ G2 = (l, .lst (fs.map filD)) :: (Gr3 ++ G') ∧ Rd (n + 1 + 3 * k + 1) r Gr3) (xs_set 4 (Φe := fun y G2 => ∃ (o : Option Int) (Gr3 : Store), y = .d (optD o) ∧ lilO o ∧ G2 = (l, .lst (fs.map filD)) :: (Gr3 ++ G') ∧ Rd (n + 1 + 3 * k + 1) r Gr3) ?_ (fun y G2 q => ?_) scLo.nd) fun ρ' G2 q => ?_
    · refine xp_oneof (ds := [optD none, optD (some 0), optD (some 3), optD (some e59)]) (xl_lst (xad_cons xd_none (xad_cons xd_int (xad_cons xd_int (xad_cons (xd_pow xd_int xd_int ⟨by decide, by decide, by decide⟩) xa_nil))))).data (xp_draw (G1 := [(l, .lst (fs.map filD))]) (m := 4) (Φ := fun y G2 => ∃ (i : Int) (Gr3 : Store), y = intV i ∧ 0 ≤ i ∧ i < 4 ∧ G2 = (l, .lst (fs.map filD)) :: (Gr3 ++ G') ∧ Rd (n + 1 + 3 * k + 1) r Gr3) D hD hR2 (by omega) (by decide) (by decide) (Xad.i (xad_cons (xd_name 0) (xad_cons xd_int xa_nil))) fun i Gr3 h1 h2 h3 => ⟨i, Gr3, rfl, h1, h2, rfl, h3⟩) fun y G2 w => ?_
      obtain ⟨i, Gr4, e1, h1, h2, e2, h4⟩ := w
      refine ⟨i, e1, h1, h2, fun d hd => ?_⟩
      simp only [List.mem_cons, List.not_mem_nil, or_false] at hd
      rcases hd with e | e | e | e <;> subst e
      · exact ⟨none, Gr4, rfl, (fun v e => by cases e), e2, h4⟩
      · exact ⟨some 0, Gr4, rfl, (fun v e => by rw [← Option.some.inj e]; exact lil_of (by decide) (by decide)), e2, h4⟩
      · exact ⟨some 3, Gr4, rfl, (fun v e => by rw [← Option.some.inj e]; exact lil_of (by decide) (by decide)), e2, h4⟩
      · exact ⟨some e59, Gr4, rfl, (fun v e => by rw [← Option.some.inj e]; exact lil59), e2, h4⟩
    · obtain ⟨o, Gr3, rfl, w⟩ := q
      exact ⟨o, Gr3, rfl, w⟩
    obtain ⟨o, Gr3, rfl, ho, rfl, hR3⟩ := q
    refine xss_one (xs_expr (Φe := fun y G2 => ∃ (fl : Fil) (Gr5 : Store), okF fl ∧ Rd (n + 1 + 3 * k + 3) r Gr5 ∧ G2 = (l, .lst ((fs ++ [fl]).map filD)) :: (Gr5 ++ G')) (xp_append (Φe := fun y G2 => ∃ (fl : Fil) (Gr5 : Store), y = .d (filD fl) ∧ okF fl ∧ Rd (n + 1 + 3 * k + 3) r Gr5 ∧ G2 = (l, .lst (fs.map filD)) :: (Gr5 ++ G')) (xd_name 2) ⟨_, List.mem_cons_self⟩ ?_ fun y G2 w => ?_) fun y G2 w => ?_)
    · refine xp_tup (Φl := fun xs G2 => ∃ (fl : Fil) (Gr5 : Store), xs = [intV fl.1, intV fl.2.1, .d (optD fl.2.2)] ∧ okF fl ∧ Rd (n + 1 + 3 * k + 3) r Gr5 ∧ G2 = (l, .lst (fs.map filD)) :: (Gr5 ++ G')) (xa_step (xp_pool (G1 := [(l, .lst (fs.map filD))]) (Φ := fun y G2 => ∃ v Gr4, y = intV v ∧ lil v ∧ Rd (n + 1 + 3 * k + 2) r Gr4 ∧ G2 = (l, .lst (fs.map filD)) :: (Gr4 ++ G')) D hD hR3 (by omega) (xd_name 1) (xd_name 0) fun v Gr4 h1 h2 => ⟨v, Gr4, rfl, h1, h2.mono (by omega), rfl⟩) fun x G1 q => ?_) fun xs G2 q => ?_
      · obtain ⟨v, Gr4, rfl, hv, hR4, rfl⟩ := q
        refine xa_step (xp_pool (G1 := [(l, .lst (fs.map filD))]) (Φ := fun y G2 => ∃ v Gr4, y = intV v ∧ lil v ∧ Rd (n + 1 + 3 * k + 3) r Gr4 ∧ G2 = (l, .lst (fs.map filD)) :: (Gr4 ++ G')) D hD hR4 (by omega) (xd_name 1) (xd_name 0) fun v Gr4 h1 h2 => ⟨v, Gr4, rfl, h1, h2.mono (by omega), rfl⟩) fun x G1 q => ?_
        obtain ⟨v2, Gr5, rfl, hv2, hR5, rfl⟩ := q
        refine xa_step (xd_name 4).g fun x G1 q => xa_end ?_
        obtain ⟨rfl, rfl⟩ := q
        exact ⟨(v, v2, o), Gr5, rfl, ⟨hv, hv2, ho⟩, hR5, rfl⟩
      · obtain ⟨fl, Gr5, rfl, w⟩ := q
        exact ⟨[.int fl.1, .int fl.2.1, optD fl.2.2], rfl, by show 3 ≤ 100000; decide, fl, Gr5, rfl, w⟩
    · obtain ⟨fl, Gr5, rfl, h1, h2, rfl⟩ := w
      refine ⟨_, [], fs.map filD, Gr5 ++ G', rfl, rfl, by rw [List.length_map]; omega, fl, Gr5, h1, h2, ?_⟩
      rw [List.map_append]
      rfl
    · obtain ⟨fl, Gr5, h1, h2, rfl⟩ := w
      refine ⟨hc5, fs ++ [fl], Gr5, _, _, rfl, rfl, ⟨?_, fun f hf2 => ?_⟩, ?_, h2.mono (by omega)⟩
      · rw [List.length_append]
        show fs.length + 1 ≤ 30
        omega
      · rcases List.mem_append.mp hf2 with h | h
        · exact hf.2 f h
        · rw [List.mem_singleton.mp h]
          exact h1
      · rw [List.length_append]
        show fs.length + 1 ≤ k + 1
        omega
  · rintro c ρ1 G1 ⟨hc5, fs, Gr2, t3, t4, rfl, rfl, hf, hfk, hR2⟩
    exact ⟨fs, Gr2, t3, t4, rfl, rfl, hf, hR2.mono (by omega)⟩
  obtain ⟨fs, Gr1, t3, t4, rfl, rfl, hf, hR1⟩ := q
  exact f_lo2 F1 B D hr hR1 hn hf hq
end
end K8

set_option Elab.async false
set_option linter.all false
set_option maxRecDepth 100000
set_option maxHeartbeats 8000000
namespace K8
open PySem PySem.Spec PyProof.Rows L2 Fsh Rec
def topS (i : Nat) : Stmt := PySem.Challenge.pw_fairshown_k08_texts_written.main.body.getD i (.Pass ⟨0, 0, 0, 0⟩)
abbrev sRf : Stmt := topS 1
abbrev sRt : Stmt := topS 3
abbrev sRec : Stmt := topS 4
abbrev sRw : Stmt := topS 5
abbrev sFt : Stmt := topS 6
abbrev sTon : Stmt := topS 7
abbrev NRt : List Str := ["row", "word"]
abbrev NRec : List Str := ["record", "rule", "rows", "row", "lines"]
abbrev NRw : List Str := ["row", "fill", "fills", "n", "size", "pairs"]
abbrev NFt : List Str := ["fill", "price", "size", "n"]
theorem scRf : FnScope ["row"] ["row"] (defScope sRf) := ⟨rfl, rfl, rfl, by decide +kernel, rfl, by decide +kernel, by decide +kernel⟩
theorem scRt : FnScope NRt ["row"] (defScope sRt) := ⟨rfl, rfl, rfl, by decide +kernel, rfl, by decide +kernel, by decide +kernel⟩
theorem scRec : FnScope NRec ["record"] (defScope sRec) := ⟨rfl, rfl, rfl, by decide +kernel, rfl, by decide +kernel, by decide +kernel⟩
theorem scRw : FnScope NRw ["row"] (defScope sRw) := ⟨rfl, rfl, rfl, by decide +kernel, rfl, by decide +kernel, by decide +kernel⟩
theorem scFt : FnScope NFt ["fill"] (defScope sFt) := ⟨rfl, rfl, rfl, by decide +kernel, rfl, by decide +kernel, by decide +kernel⟩
theorem scTon : FnScope ["number"] ["number"] (defScope sTon) := ⟨rfl, rfl, rfl, by decide +kernel, rfl, by decide +kernel, by decide +kernel⟩
def zTon : Fsh.Spec := fun xs G Φ => ∃ o, xs = [.d (optD o)] ∧ lilO o ∧ Φ (.d (.str (optT o))) G
def zFt : Fsh.Spec := fun xs G Φ => ∃ f, xs = [.d (filD f)] ∧ okF f ∧ Φ (.d (.str (filT f))) G
def zRf : Fsh.Spec := fun xs G Φ => ∃ r, xs = [.d (rowD r)] ∧ Φ (.d (.tuple ((filsOf r).map filD))) G
/-- the words of a row as the package has them: numbers as they are -/
def rowP : RowM → List PyData
  | .order m s p z fs => [.str "order", .str m, .str s, .int p, .int z] ++ (fs.map filT).map PyData.str
  | .cancel n => [.str "cancel", .int n]
  | .prints fs => [.str "prints"] ++ (fs.map filT).map PyData.str
  | .closed => [.str "closed"]
  | .call p ps => [.str "call", .str (optT p)] ++ (ps.map pairT).map PyData.str
def zRw : Fsh.Spec := fun xs G Φ => ∃ r, xs = [.d (rowD r)] ∧ okR r ∧ Φ (.d (.list (rowP r))) G
def zRt : Fsh.Spec := fun xs G Φ => ∃ r, xs = [.d (rowD r)] ∧ okR r ∧ Φ (.d (.str (rowT r))) G
def recD (rule : Str) (rows : List RowM) : PyData := .tuple [.str rule, .tuple (rows.map rowD)]
def okC (rule : Str) (rows : List RowM) : Prop := okS 8 rule ∧ rows.length ≤ 40 ∧ ∀ r ∈ rows, okR r
def zRec : Fsh.Spec := fun xs G Φ => ∃ rule rows, xs = [.d (recD rule rows)] ∧ okC rule rows ∧ Φ (.d (.str (recT rule rows))) G
section
variable {P : Program} {w : World} {K : PySem.W.Frag} {mg : Str → Option Value} {base : Heap}
theorem f_ton {f : Addr} {fd : FuncData} (F1 : Fun K "text_or_none" "text_or_none" sTon f fd) (hm : mg "text_or_none" = some (.ref f)) (B : Bn mg) : Fn P w K mg base 1 "text_or_none" ["number"] zTon := by
  refine fn_rule F1 scTon (F1.binds fun _ _ _ _ _ _ us hl => match us, hl with | [_], _ => rfl) hm (fun xs G Φ h => by obtain ⟨o, rfl, _⟩ := h; rfl) fun cdv A outer s H E hr xs G Φ hz => ?_
  obtain ⟨o, rfl, ho, hq⟩ := hz
  refine xss_one (xs_ret ?_)
  cases o with
  | none => exact xp_ifD (t := true) (xb_isn (xd_name 0) rfl) (fun _ => xd_str.to hq) (fun h => nomatch h)
  | some n => exact xp_ifD (t := false) (xb_isn (xd_name 0) rfl) (fun h => nomatch h) (fun _ => (xd_strI B (xd_name 0) (ho n rfl).small).to hq)
theorem app_e (s : Str) : Str.empty ++ s = s := by
  show (⟨#[] ++ s.cps⟩ : Str) = s
  rw [Array.empty_append]
theorem f_ft {f : Addr} {fd : FuncData} (F1 : Fun K "fill_text" "fill_text" sFt f fd) (hm : mg "fill_text" = some (.ref f)) (T : Fn P w K mg base 1 "text_or_none" ["number"] zTon) : Fn P w K mg base 2 "fill_text" ["fill"] zFt := by
  refine fn_rule F1 scFt (F1.binds fun _ _ _ _ _ _ us hl => match us, hl with | [_], _ => rfl) hm (fun xs G Φ h => by obtain ⟨o, rfl, _⟩ := h; rfl) fun cdv A outer s H E hr xs G Φ hz => ?_
  obtain ⟨⟨p, z, n⟩, rfl, ⟨h1, h2, h3⟩, hq⟩ := hz
  have h1 : lil p := h1
  have h2 : lil z := h2
  have h3 : lilO n := h3
  refine xss_cons (M := At [some (.d (filD (p, z, n))), some (.d (.int p)), some (.d (.int z)), some (.d (optD n))] G) (xs_asg (Xd.g (xd_name 0)) (pg_tup rfl (pgs_cons (pg_name (i := 1) scFt.nd rfl (.inl rfl)) (pgs_cons (pg_name (i := 2) scFt.nd rfl (.inl rfl)) (pgs_cons (pg_name (i := 3) scFt.nd rfl (.inl rfl)) pgs_nil)))) fun x G2 q => ⟨_, by rw [q.1]; exact rg_tup rfl (rgs_cons rg_name (rgs_cons rg_name (rgs_cons rg_name rgs_nil))), rfl, q.2⟩) fun ρ' G' q => ?_
  rw [q.1, q.2]
  refine xss_one (xs_ret (Xd.to (x := .d (.str (filT (p, z, n)))) ?_ hq))
  refine Xd.cast (xd_joined (ss := [intT p, u "*", intT z, u "@", optT n]) (.cons (pe_fmt pe_tw) (r_fmtI (xd_name 1) h1.small) (.cons pe_str xd_strR (.cons (pe_fmt pe_tw) (r_fmtI (xd_name 2) h2.small) (.cons pe_str xd_strR (.cons (pe_fmt pe_tw) (r_fmtS (xd_call T (hr.mono (by decide)) (xad_cons (xd_name 3) xa_nil) fun G Φ q => ⟨n, rfl, h3, q⟩) (Nat.le_trans (okS_opt h3).1 (by decide))) .nil))))) ?_) ?_
  · have a1 := (okS_int h1).1
    have a2 := (okS_int h2).1
    have a3 := (okS_opt h3).1
    have a4 : (u "*").length = 1 := by decide +kernel
    have a5 : (u "@").length = 1 := by decide +kernel
    simp only [List.map_cons, List.map_nil, List.sum_cons, List.sum_nil, a4, a5]
    omega
  · show DV.d (.str ((((Str.empty ++ intT p) ++ u "*") ++ intT z) ++ u "@" ++ optT n)) = _
    rw [app_e]
    rfl
/-- a test that is False, and the rest -/
theorem skip {X : Cx} {c : Expr} {sa rest : List Stmt} {ρ : Fsh.Env} {G : Store} {N : Fsh.Env → Store → Prop} {Φ : Pst} {pos : Pos} (hc : Xb X c ρ false) (h : Xss X rest ρ G N Φ) : Xss X (.If c sa [] pos :: rest) ρ G N Φ :=
  xss_at (xs_ifD hc (fun z => nomatch z) fun _ => xss_nil ⟨rfl, rfl⟩) h
/-- a test that is True, and its suite returns -/
theorem takeR {X : Cx} {c e : Expr} {rest : List Stmt} {ρ : Fsh.Env} {G : Store} {N : Fsh.Env → Store → Prop} {Φ : Pst} {pos p2 : Pos} {sb : List Stmt} (hc : Xb X c ρ true) (h : Xp X e ρ G Φ) : Xss X (.If c [.Return (some e) p2] sb pos :: rest) ρ G N Φ :=
  xss_cons (M := fun _ _ => False) (xs_ifD hc (fun _ => xss_one (xs_ret h)) fun z => nomatch z) fun _ _ z => z.elim
theorem f_rf {f : Addr} {fd : FuncData} (F1 : Fun K "row_fills" "row_fills" sRf f fd) (hm : mg "row_fills" = some (.ref f)) : Fn P w K mg base 1 "row_fills" ["row"] zRf := by
  refine fn_rule F1 scRf (F1.binds fun _ _ _ _ _ _ us hl => match us, hl with | [_], _ => rfl) hm (fun xs G Φ h => by obtain ⟨o, rfl, _⟩ := h; rfl) fun cdv A outer s H E hr xs G Φ hz => ?_
  obtain ⟨r, rfl, hq⟩ := hz
  cases r with
  | order m sd p z fs => exact takeR (xb_eqs (xd_ixT (xd_name 0) xd_int rfl) xd_str (decide_eq_true rfl)) (Xd.to (xd_ixT (xd_name 0) xd_int rfl) hq)
  | prints fs => exact skip (xb_eqs (xd_ixT (xd_name 0) xd_int rfl) xd_str (by decide +kernel)) (takeR (xb_eqs (xd_ixT (xd_name 0) xd_int rfl) xd_str (decide_eq_true rfl)) (Xd.to (xd_ixT (xd_name 0) xd_int rfl) hq))
  | cancel n => exact skip (xb_eqs (xd_ixT (xd_name 0) xd_int rfl) xd_str (by decide +kernel)) (skip (xb_eqs (xd_ixT (xd_name 0) xd_int rfl) xd_str (by decide +kernel)) (xss_one (xs_ret (Xd.to (xd_tup (ds := []) xa_nil) hq))))
  | closed => exact skip (xb_eqs (xd_ixT (xd_name 0) xd_int rfl) xd_str (by decide +kernel)) (skip (xb_eqs (xd_ixT (xd_name 0) xd_int rfl) xd_str (by decide +kernel)) (xss_one (xs_ret (Xd.to (xd_tup (ds := []) xa_nil) hq))))
  | call p ps => exact skip (xb_eqs (xd_ixT (xd_name 0) xd_int rfl) xd_str (by decide +kernel)) (skip (xb_eqs (xd_ixT (xd_name 0) xd_int rfl) xd_str (by decide +kernel)) (xss_one (xs_ret (Xd.to (xd_tup (ds := []) xa_nil) hq))))
theorem f_rw {f : Addr} {fd : FuncData} (F1 : Fun K "row_words" "row_words" sRw f fd) (hm : mg "row_words" = some (.ref f)) (B : Bn mg) (T0 : Fn P w K mg base 1 "row_fills" ["row"] zRf) (T : Fn P w K mg base 1 "text_or_none" ["number"] zTon) (T2 : Fn P w K mg base 2 "fill_text" ["fill"] zFt) : Fn P w K mg base 3 "row_words" ["row"] zRw := by
  refine fn_rule F1 scRw (F1.binds fun _ _ _ _ _ _ us hl => match us, hl with | [_], _ => rfl) hm (fun xs G Φ h => by obtain ⟨o, rfl, _⟩ := h; rfl) fun cdv A outer s H E hr xs G Φ hz => ?_
  obtain ⟨r, rfl, hok, hq⟩ := hz
  have hc := okW hok
  have hf := filsOf_ok hok
  refine xss_at (xs_setLcD 2 (ds := (filsOf r).map fun f => .str (filT f)) ?_) ?_
  · refine lm_mapT (filsOf r) _ _ (fun f => [some (.d (rowD r)), some (.d (filD f)), none, none, none, none]) scRw.nd (xd_call T0 (hr.mono (by decide)) (xad_cons (xd_name 0) xa_nil) fun G Φ q => ⟨r, rfl, q⟩)
      (blkOk_by (own := [("fill", 1)]) (N := NRw) (sc := defScope sRw) (by decide +kernel)) (fun _ _ _ _ _ => pg_name (i := 1) scRw.nd rfl (Or.inl rfl)) (by decide) (Nat.le_trans hf.1 (by decide)) (fun x _ => rg_name) (fun x hx z => xd_call T2 hr (xad_cons (xd_name 1) xa_nil) fun G Φ q => ⟨x, rfl, hf.2 x hx, q⟩)
  have fl := hf.1
  cases r with
  | order m sd p z fs =>
    obtain ⟨h1, h2, h3, h4, h5, h6⟩ := hok
    refine takeR (xb_eqs (xd_ixT (xd_name 0) xd_int rfl) xd_str (decide_eq_true rfl)) ?_
    refine Xd.to (Xl.data (xl_lstS (ds := rowP (.order m sd p z fs)) (xad_starT (ds := [.str "order", .str m, .str sd, .int p, .int z]) (Xd.cast (xd_slT (l := none) (h := some 5) (xd_name 0) po_none ro_none po_x (ro_x xd_int)) rfl) (xad_starL (xd_name 2) xa_nil)) ?_ ?_)) hq
    · rw [List.append_nil, ← List.map_append]
      show _ = List.map DV.d ([_, _, _, _, _] ++ (fs.map filT).map PyData.str)
      rw [List.map_map]
      rfl
    · show ([_, _, _, _, _] ++ (fs.map filT).map PyData.str).length ≤ 100000
      rw [List.length_append, List.length_map, List.length_map]
      show 5 + fs.length ≤ 100000
      have : fs.length ≤ 30 := fl
      omega
  | cancel n =>
    refine skip (xb_eqs (xd_ixT (xd_name 0) xd_int rfl) xd_str (by decide +kernel)) ?_
    refine skip (xb_eqs (xd_ixT (xd_name 0) xd_int rfl) xd_str (by decide +kernel)) ?_
    refine skip (xb_eqs (xd_ixT (xd_name 0) xd_int rfl) xd_str (by decide +kernel)) ?_
    exact xss_one (xs_ret (Xd.to (Xl.data (xl_listT B (xd_name 0))) hq))
  | prints fs =>
    refine skip (xb_eqs (xd_ixT (xd_name 0) xd_int rfl) xd_str (by decide +kernel)) ?_
    refine takeR (xb_eqs (xd_ixT (xd_name 0) xd_int rfl) xd_str (decide_eq_true rfl)) ?_
    refine Xd.to (Xl.data (xl_lstS (ds := rowP (.prints fs)) (xad_cons (x := .d (.str "prints")) xd_str (xad_starL (xd_name 2) xa_nil)) ?_ ?_)) hq
    · rw [List.append_nil]
      show _ :: List.map DV.d (fs.map fun f => PyData.str (filT f)) = _ :: List.map DV.d ((fs.map filT).map PyData.str)
      simp only [List.map_map]
      rfl
    · show ([_] ++ (fs.map filT).map PyData.str).length ≤ 100000
      rw [List.length_append, List.length_map, List.length_map]
      show 1 + fs.length ≤ 100000
      have : fs.length ≤ 30 := fl
      omega
  | closed =>
    refine skip (xb_eqs (xd_ixT (xd_name 0) xd_int rfl) xd_str (by decide +kernel)) ?_
    refine skip (xb_eqs (xd_ixT (xd_name 0) xd_int rfl) xd_str (by decide +kernel)) ?_
    refine skip (xb_eqs (xd_ixT (xd_name 0) xd_int rfl) xd_str (by decide +kernel)) ?_
    exact xss_one (xs_ret (Xd.to (Xl.data (xl_listT B (xd_name 0))) hq))
  | call p ps =>
    obtain ⟨h1, h5, h6⟩ := hok
    refine skip (xb_eqs (xd_ixT (xd_name 0) xd_int rfl) xd_str (by decide +kernel)) ?_
    refine skip (xb_eqs (xd_ixT (xd_name 0) xd_int rfl) xd_str (by decide +kernel)) ?_
    refine xss_cons (M := fun _ _ => False) (xs_ifD (xb_eqs (xd_ixT (xd_name 0) xd_int rfl) xd_str (decide_eq_true rfl)) (fun _ => ?_) fun z => nomatch z) fun _ _ z => z.elim
    show Xss _ (List.cons _ _) _ _ _ _
    refine xss_at (xs_setLcD 5 (ds := ps.map fun f => .str (pairT f)) ?_) ?_
    · refine lm_mapT ps pairD _ (fun f => [some (.d (rowD (.call p ps))), none, some (.d (.list [])), some (.d (.int f.1)), some (.d (.int f.2)), none]) scRw.nd (xd_ixT (xd_name 0) xd_int rfl)
        (blkOk_by (own := [("n", 3), ("size", 4)]) (N := NRw) (sc := defScope sRw) (by decide +kernel)) (fun _ _ _ _ _ => pg_tup (n := 2) rfl (pgs_cons (pg_name (i := 3) scRw.nd rfl (Or.inl rfl)) (pgs_cons (pg_name (i := 4) scRw.nd rfl (Or.inl rfl)) pgs_nil))) (by decide) (Nat.le_trans h5 (by decide)) (fun x _ => rg_tup rfl (rgs_cons rg_name (rgs_cons rg_name rgs_nil)))
        (fun x hx z => Xd.cast (xd_joined (ss := [intT x.2, u "@", intT x.1]) (.cons (pe_fmt pe_tw) (r_fmtI (xd_name 4) (h6 x hx).2.small) (.cons pe_str xd_strR (.cons (pe_fmt pe_tw) (r_fmtI (xd_name 3) (h6 x hx).1.small) .nil))) ?_) ?_)
      · have a1 := (okS_int (h6 x hx).1).1
        have a2 := (okS_int (h6 x hx).2).1
        have a4 : (u "@").length = 1 := by decide +kernel
        simp only [List.map_cons, List.map_nil, List.sum_cons, List.sum_nil, a4]
        omega
      · show DV.d (.str (((Str.empty ++ intT x.2) ++ u "@") ++ intT x.1)) = _
        rw [app_e]
        rfl
    refine xss_one (xs_ret (Xd.to (Xl.data (xl_lstS (ds := rowP (.call p ps)) (xad_cons (x := .d (.str "call")) xd_str (xad_cons (xd_call T (hr.mono (by decide)) (xad_cons (xd_ixT (xd_name 0) xd_int rfl) xa_nil) fun G Φ q => ⟨p, rfl, h1, q⟩) (xad_starL (xd_name 5) xa_nil))) ?_ ?_)) hq))
    · rw [List.append_nil]
      show _ :: _ :: List.map DV.d (ps.map fun f => PyData.str (pairT f)) = _ :: _ :: List.map DV.d ((ps.map pairT).map PyData.str)
      simp only [List.map_map]
      rfl
    · show ([_, _] ++ (ps.map pairT).map PyData.str).length ≤ 100000
      rw [List.length_append, List.length_map, List.length_map]
      show 2 + ps.length ≤ 100000
      have : ps.length ≤ 30 := h5
      omega
theorem words_p {r : RowM} : ∃ ws : List PyData, rowP r = ws ∧ ws.length = (rowW r).length ∧ ∀ (i : Nat) (d : PyData), ws[i]? = some d → ∃ y, (rowW r)[i]? = some y ∧ ((d = .str y) ∨ ∃ n, d = .int n ∧ y = intT n) := by
  refine ⟨_, rfl, ?_, ?_⟩
  · cases r <;> simp [rowP, rowW]
  · have sts : ∀ (l : List Str) (i : Nat) (d : PyData), (l.map PyData.str)[i]? = some d → ∃ y, l[i]? = some y ∧ ((d = .str y) ∨ ∃ n, d = .int n ∧ y = intT n) := fun l i d h => by
      rw [List.getElem?_map] at h
      cases z : l[i]? with
      | none =>
        rw [z] at h
        cases h
      | some y =>
        rw [z] at h
        exact ⟨y, rfl, .inl (Option.some.inj h).symm⟩
    intro i d h
    cases r with
    | order m s p z fs =>
      match i, h with
      | 0, h => exact ⟨_, rfl, .inl (Option.some.inj h).symm⟩
      | 1, h => exact ⟨_, rfl, .inl (Option.some.inj h).symm⟩
      | 2, h => exact ⟨_, rfl, .inl (Option.some.inj h).symm⟩
      | 3, h => exact ⟨_, rfl, .inr ⟨p, (Option.some.inj h).symm, rfl⟩⟩
      | 4, h => exact ⟨_, rfl, .inr ⟨z, (Option.some.inj h).symm, rfl⟩⟩
      | i + 5, h => exact sts _ i d h
    | cancel n =>
      match i, h with
      | 0, h => exact ⟨_, rfl, .inl (Option.some.inj h).symm⟩
      | 1, h => exact ⟨_, rfl, .inr ⟨n, (Option.some.inj h).symm, rfl⟩⟩
    | prints fs =>
      match i, h with
      | 0, h => exact ⟨_, rfl, .inl (Option.some.inj h).symm⟩
      | i + 1, h => exact sts _ i d h
    | closed =>
      match i, h with
      | 0, h => exact ⟨_, rfl, .inl (Option.some.inj h).symm⟩
    | call p ps =>
      match i, h with
      | 0, h => exact ⟨_, rfl, .inl (Option.some.inj h).symm⟩
      | 1, h => exact ⟨_, rfl, .inl (Option.some.inj h).symm⟩
      | i + 2, h => exact sts _ i d h
/-- the ints among a row's words are small -/
theorem ints_p {r : RowM} (h : okR r) {n : Int} (hm : PyData.int n ∈ rowP r) : lil n := by
  have ns : ∀ l : List Str, PyData.int n ∉ l.map PyData.str := fun l hl => by
    obtain ⟨y, _, e⟩ := List.mem_map.mp hl
    cases e
  cases r with
  | order m s p z fs =>
    rcases List.mem_append.mp (show _ ∈ _ ++ _ from hm) with q | q
    · simp only [List.mem_cons, List.not_mem_nil, or_false, PyData.int.injEq, reduceCtorEq, false_or] at q
      rcases q with e | e <;> subst e
      · exact h.2.2.1
      · exact h.2.2.2.1
    · exact absurd q (ns _)
  | cancel m =>
    simp only [rowP, List.mem_cons, List.not_mem_nil, or_false, PyData.int.injEq, reduceCtorEq, false_or] at hm
    subst hm
    exact h
  | prints fs =>
    rcases List.mem_append.mp (show _ ∈ _ ++ _ from hm) with q | q
    · simp at q
    · exact absurd q (ns _)
  | closed => simp [rowP] at hm
  | call p ps =>
    rcases List.mem_append.mp (show _ ∈ _ ++ _ from hm) with q | q
    · simp at q
    · exact absurd q (ns _)
def strd : PyData → PyData
  | .int n => .str (intT n)
  | d => d
theorem rowP_strd (r : RowM) : (rowP r).map strd = (rowW r).map PyData.str := by
  have e : ∀ l : List Str, (l.map PyData.str).map strd = l.map PyData.str := fun l => by
    rw [List.map_map]
    rfl
  cases r with
  | order m s p z fs =>
    show List.map strd ([_, _, _, _, _] ++ (fs.map filT).map PyData.str) = _
    rw [List.map_append, e]
    show _ = ([_, _, _, _, _] ++ fs.map filT).map PyData.str
    rw [List.map_append]
    rfl
  | cancel n => rfl
  | prints fs =>
    show List.map strd ([_] ++ (fs.map filT).map PyData.str) = _
    rw [List.map_append, e]
    show _ = ([_] ++ fs.map filT).map PyData.str
    rw [List.map_append]
    rfl
  | closed => rfl
  | call p ps =>
    show List.map strd ([_, _] ++ (ps.map pairT).map PyData.str) = _
    rw [List.map_append, e]
    show _ = ([_, _] ++ ps.map pairT).map PyData.str
    rw [List.map_append]
    rfl
theorem f_rt {f : Addr} {fd : FuncData} (F1 : Fun K "row_text" "row_text" sRt f fd) (hm : mg "row_text" = some (.ref f)) (B : Bn mg) (T : Fn P w K mg base 3 "row_words" ["row"] zRw) : Fn P w K mg base 4 "row_text" ["row"] zRt := by
  refine fn_rule F1 scRt (F1.binds fun _ _ _ _ _ _ us hl => match us, hl with | [_], _ => rfl) hm (fun xs G Φ h => by obtain ⟨o, rfl, _⟩ := h; rfl) fun cdv A outer s H E hr xs G Φ hz => ?_
  obtain ⟨r, rfl, hok, hq⟩ := hz
  have hc := okW hok
  have hw : ∀ d ∈ rowP r, (∃ y, d = .str y) ∨ ∃ n, d = .int n ∧ lil n := fun d hd => by
    obtain ⟨ws, e, _, h2⟩ := words_p (r := r)
    obtain ⟨i, hi⟩ := List.getElem?_of_mem hd
    rw [e] at hi
    obtain ⟨y, _, h3 | ⟨n, h3, _⟩⟩ := h2 i d hi
    · exact .inl ⟨y, h3⟩
    · subst h3
      exact .inr ⟨n, rfl, ints_p hok hd⟩
  have hl : (rowP r).length = (rowW r).length := by
    obtain ⟨ws, e, h1, _⟩ := words_p (r := r)
    rw [e, h1]
  refine xss_one (xs_ret (Xd.to (xd_join (ys := rowW r) xd_str (Xd.cast (Xl.data (xl_mapL (rowP r) id strd (fun d => [some (.d (rowD r)), some (.d d)]) scRt.nd (Xd.cast (xd_call T hr (xad_cons (xd_name 0) xa_nil) fun G Φ q => ⟨r, rfl, hok, q⟩) (by rw [List.map_id]))
    (blkOk_by (own := [("word", 1)]) (N := NRt) (sc := defScope sRt) (by decide +kernel)) (fun _ _ _ _ _ => pg_name (i := 1) scRt.nd rfl (Or.inl rfl)) (by decide) (by omega) (fun x _ => rg_name) (fun x hx z => ?_))) (by rw [rowP_strd])) ?_) hq))
  · rcases hw x hx with ⟨y, e⟩ | ⟨n, e, hn⟩
    · subst e
      exact xd_strS B (xd_name 1)
    · subst e
      exact xd_strI B (xd_name 1) hn.small
  · have a1 := sum_len hc.2
    have a4 : (u " ").length = 1 := by decide +kernel
    show _ + (rowW r).length * (u " ").length ≤ _
    rw [a4]
    omega
theorem f_rec {f : Addr} {fd : FuncData} (F1 : Fun K "record_text" "record_text" sRec f fd) (hm : mg "record_text" = some (.ref f)) (B : Bn mg) (T : Fn P w K mg base 4 "row_text" ["row"] zRt) : Fn P w K mg base 5 "record_text" ["record"] zRec := by
  refine fn_rule F1 scRec (F1.binds fun _ _ _ _ _ _ us hl => match us, hl with | [_], _ => rfl) hm (fun xs G Φ h => by obtain ⟨o, o2, rfl, _⟩ := h; rfl) fun cdv A outer s H E hr xs G Φ hz => ?_
  obtain ⟨rule, rows, rfl, ⟨h0, h1, h2⟩, hq⟩ := hz
  refine xss_cons (M := At [some (.d (recD rule rows)), some (.d (.str rule)), some (.d (.tuple (rows.map rowD))), none, none] G) (xs_asg (Xd.g (xd_name 0)) (pg_tup (n := 2) rfl (pgs_cons (pg_name (i := 1) scRec.nd rfl (.inl rfl)) (pgs_cons (pg_name (i := 2) scRec.nd rfl (.inl rfl)) pgs_nil))) fun x G2 q => ⟨_, by rw [q.1]; exact rg_tup rfl (rgs_cons rg_name (rgs_cons rg_name rgs_nil)), rfl, q.2⟩) fun ρ' G' q => ?_
  rw [q.1, q.2]
  have hjn : joinAll Str.empty [u "record ", rule] = u "record " ++ rule := by
    show (Str.empty ++ u "record ") ++ rule = _
    rw [app_e]
  refine xss_at (xs_setLcD 4 (ds := rows.map fun r => .str (rowT r)) ?_) ?_
  · exact lm_mapT rows rowD _ (fun r => [some (.d (recD rule rows)), some (.d (.str rule)), some (.d (.tuple (rows.map rowD))), some (.d (rowD r)), none]) scRec.nd (xd_name 2) (blkOk_by (own := [("row", 3)]) (N := NRec) (sc := defScope sRec) (by decide +kernel)) (fun _ _ _ _ _ => pg_name (i := 3) scRec.nd rfl (Or.inl rfl)) (by decide) (by omega) (fun x _ => rg_name)
      (fun x hx z => xd_call T hr (xad_cons (xd_name 3) xa_nil) fun G Φ q => ⟨x, rfl, h2 x hx, q⟩)
  refine xss_one (xs_ret (Xd.to (xd_join (ys := (u "record " ++ rule) :: rows.map rowT) xd_str ?_ ?_) hq))
  · refine Xl.data (xl_lstS (xad_cons (x := .d (.str (u "record " ++ rule))) ?_ (xad_starL (xd_name 4) xa_nil)) ?_ ?_)
    · refine Xd.cast (xd_joined (ss := [u "record ", rule]) (.cons pe_str xd_strR (.cons (pe_fmt pe_tw) (r_fmtS (xd_name 1) (Nat.le_trans h0.1 (by decide))) .nil)) ?_) (by rw [hjn])
      have a4 : (u "record ").length = 7 := by decide +kernel
      have := h0.1
      simp only [List.map_cons, List.map_nil, List.sum_cons, List.sum_nil, a4]
      omega
    · rw [List.append_nil]
      show _ :: List.map DV.d (rows.map fun r => PyData.str (rowT r)) = _ :: List.map DV.d ((rows.map rowT).map PyData.str)
      simp only [List.map_map]
      rfl
    · rw [List.length_map, List.length_cons, List.length_map]
      omega
  · have a1 := sum_len (k := 22000) (ys := (u "record " ++ rule) :: rows.map rowT) fun y hy => by
      rcases List.mem_cons.mp hy with e | hy
      · subst e
        exact (okS_app (okS_lit "record ") h0).mono (by decide)
      · obtain ⟨r, hr, e⟩ := List.mem_map.mp hy
        subst e
        exact okT (h2 r hr)
    have a4 : (u "\n").length = 1 := by decide +kernel
    rw [List.length_cons, List.length_map] at a1
    show _ + ((u "record " ++ rule) :: rows.map rowT).length * (u "\n").length ≤ _
    rw [a4, List.length_cons, List.length_map]
    omega
end
end K8

set_option Elab.async false
set_option linter.all false
set_option maxRecDepth 100000
set_option maxHeartbeats 2000000
namespace K8
open PySem PySem.Spec L2 Fsh Rec
abbrev sFw : Stmt := topG 22
abbrev sRoww : Stmt := topG 23
abbrev sPage : Stmt := topG 24
abbrev NFw : List Str := ["_law_fill"]
abbrev NRoww : List Str := ["_law_row", "_law_fill", "_law_fills_here", "_law_price", "_law_n", "_law_size"]
abbrev NPage : List Str := ["_law_good", "_law_row"]
theorem scFw : FnScope NFw ["_law_fill"] (defScope sFw) := ⟨rfl, rfl, rfl, by decide +kernel, rfl, by decide +kernel, by decide +kernel⟩
theorem scRoww : FnScope NRoww ["_law_row"] (defScope sRoww) := ⟨rfl, rfl, rfl, by decide +kernel, rfl, by decide +kernel, by decide +kernel⟩
theorem scPage : FnScope NPage ["_law_good"] (defScope sPage) := ⟨rfl, rfl, rfl, by decide +kernel, rfl, by decide +kernel, by decide +kernel⟩
def zRoww : Fsh.Spec := fun xs G Φ => ∃ r, xs = [.d (rowD r)] ∧ okR r ∧ Φ (.d (.list ((rowW r).map PyData.str))) G
section
variable {P : Program} {w : World} {K : PySem.W.Frag} {mg : Str → Option Value} {base : Heap}
theorem f_fw {f : Addr} {fd : FuncData} (F1 : Fun K "_law_fill_word" "_law_fill_word" sFw f fd) (hm : mg "_law_fill_word" = some (.ref f)) (B : Bn mg) : Fn P w K mg base 1 "_law_fill_word" ["_law_fill"] zFt := by
  refine fn_rule F1 scFw (F1.binds fun _ _ _ _ _ _ us hl => match us, hl with | [_], _ => rfl) hm (fun xs G Φ h => by obtain ⟨o, rfl, _⟩ := h; rfl) fun cdv A outer s H E hr xs G Φ hz => ?_
  obtain ⟨⟨p, z, n⟩, rfl, ⟨h1, h2, h3⟩, hq⟩ := hz
  have h1 : lil p := h1
  have h2 : lil z := h2
  have h3 : lilO n := h3
  have a1 := (okS_int h1).1
  have a2 := (okS_int h2).1
  have a3 := (okS_opt h3).1
  have b1 : okS 202 (intT p ++ u "*") := okS_app (okS_int h1) (okS_lit "*")
  have b2 : okS 403 (intT p ++ u "*" ++ intT z) := okS_app b1 (okS_int h2)
  have b3 : okS 404 (intT p ++ u "*" ++ intT z ++ u "@") := okS_app b2 (okS_lit "@")
  have a4 : (u "*").length = 1 := by decide +kernel
  have a5 : (u "@").length = 1 := by decide +kernel
  have c1 := b1.1
  have c2 := b2.1
  have c3 := b3.1
  have zz : sizeLine = 536870912 ∨ 16777216 ≤ sizeLine := .inr (by rw [sizeLine_eq]; decide)
  have zl : 16777216 ≤ sizeLine := by rw [sizeLine_eq]; decide
  refine xss_one (xs_ret (Xd.to (x := .d (.str (filT (p, z, n)))) ?_ hq))
  refine xd_adds (s := intT p ++ u "*" ++ intT z ++ u "@") (t := optT n) (xd_adds (s := intT p ++ u "*" ++ intT z) (xd_adds (s := intT p ++ u "*") (xd_adds (s := intT p) (xd_strI B (xd_ixT (ds := [.int p, .int z, optD n]) (xd_name 0) xd_int rfl) h1.small) xd_str ?_) (xd_strI B (xd_ixT (ds := [.int p, .int z, optD n]) (xd_name 0) xd_int rfl) h2.small) ?_) xd_str ?_) ?_ ?_
  · rw [a4]
    omega
  · show (intT p ++ u "*").length + (intT z).length ≤ _
    omega
  · rw [a5]
    omega
  · cases n with
    | none => exact xd_if (t := true) (xb_isn (xd_ixT (ds := [.int p, .int z, optD none]) (xd_name 0) xd_int rfl) rfl) (fun _ => xd_str) fun h => nomatch h
    | some k => exact xd_if (t := false) (xb_isn (xd_ixT (ds := [.int p, .int z, optD (some k)]) (xd_name 0) xd_int rfl) rfl) (fun h => nomatch h) fun _ => xd_strI B (xd_ixT (ds := [.int p, .int z, optD (some k)]) (xd_name 0) xd_int rfl) (h3 k rfl).small
  · omega
theorem fils_word {X : Cx} {r : RowM} : True := trivial
theorem f_roww {f : Addr} {fd : FuncData} (F1 : Fun K "_law_row_words" "_law_row_words" sRoww f fd) (hm : mg "_law_row_words" = some (.ref f)) (B : Bn mg) (T : Fn P w K mg base 1 "_law_fill_word" ["_law_fill"] zFt) (T2 : Fn P w K mg base 1 "_law_fills" ["_law_row"] zFils) : Fn P w K mg base 2 "_law_row_words" ["_law_row"] zRoww := by
  refine fn_rule F1 scRoww (F1.binds fun _ _ _ _ _ _ us hl => match us, hl with | [_], _ => rfl) hm (fun xs G Φ h => by obtain ⟨o, rfl, _⟩ := h; rfl) fun cdv A outer s H E hr xs G Φ hz => ?_
  obtain ⟨r, rfl, hok, hq⟩ := hz
  have hf := filsOf_ok hok
  refine xss_at (xs_setLcD 2 (ds := (filsOf r).map fun f => .str (filT f)) ?_) ?_
  · refine lm_mapT (filsOf r) _ _ (fun f => [some (.d (rowD r)), some (.d (filD f)), none, none, none, none]) scRoww.nd (xd_call T2 (hr.mono (by decide)) (xad_cons (xd_name 0) xa_nil) fun G Φ q => ⟨r, rfl, q⟩)
      (blkOk_by (own := [("_law_fill", 1)]) (N := NRoww) (sc := defScope sRoww) (by decide +kernel)) (fun _ _ _ _ _ => pg_name (i := 1) scRoww.nd rfl (Or.inl rfl)) (by decide) (Nat.le_trans hf.1 (by decide)) (fun x _ => rg_name) (fun x hx z => xd_call T (hr.mono (by decide)) (xad_cons (xd_name 1) xa_nil) fun G Φ q => ⟨x, rfl, hf.2 x hx, q⟩)
  have fl := hf.1
  cases r with
  | order m sd p z fs =>
    obtain ⟨h1, h2, h3, h4, h5, h6⟩ := hok
    refine takeR (xb_eqs (xd_ixT (xd_name 0) xd_int rfl) xd_str (decide_eq_true rfl)) ?_
    refine Xd.to (Xl.data (Xl.cast (xl_cat (xs := [.str (u "order"), .str m, .str sd, .str (intT p), .str (intT z)]) (ys := fs.map fun f => .str (filT f)) (Xl.data (xl_lst (ds := [.str (u "order"), .str m, .str sd, .str (intT p), .str (intT z)]) ?_ (by show 5 ≤ 100000; decide))) (xd_name 2) ?_) ?_)) hq
    · exact xad_cons xd_str (xad_cons (xd_ixT (xd_name 0) xd_int rfl) (xad_cons (xd_ixT (xd_name 0) xd_int rfl) (xad_cons (xd_strI B (xd_ixT (xd_name 0) xd_int rfl) h3.small) (xad_cons (xd_strI B (xd_ixT (xd_name 0) xd_int rfl) h4.small) xa_nil))))
    · rw [List.length_map]
      show 5 + fs.length ≤ 100000
      have : fs.length ≤ 30 := h5
      omega
    · unfold rowW
      rw [List.map_append, List.map_map]
      rfl
  | cancel n =>
    refine skip (xb_eqs (xd_ixT (xd_name 0) xd_int rfl) xd_str (by decide +kernel)) ?_
    refine skip (xb_eqs (xd_ixT (xd_name 0) xd_int rfl) xd_str (by decide +kernel)) ?_
    refine xss_one (xs_ret (Xd.to (Xl.data (xl_cat (xs := [.str (u "cancel")]) (ys := [.str (intT n)]) (Xl.data (xl_lst (ds := [.str (u "cancel")]) (xad_cons (xd_ixT (xd_name 0) xd_int rfl) xa_nil) (by show 1 ≤ 100000; decide))) (xd_if (t := true) (xb_eqs (xd_ixT (xd_name 0) xd_int rfl) xd_str (decide_eq_true rfl)) (fun _ => ?_) fun h => nomatch h) (by show 2 ≤ 100000; decide))) hq))
    exact Xl.data (xl_lst (ds := [.str (intT n)]) (xad_cons (xd_strI B (xd_ixT (xd_name 0) xd_int rfl) (show lil n from hok).small) xa_nil) (by show 1 ≤ 100000; decide))
  | prints fs =>
    refine skip (xb_eqs (xd_ixT (xd_name 0) xd_int rfl) xd_str (by decide +kernel)) ?_
    refine skip (xb_eqs (xd_ixT (xd_name 0) xd_int rfl) xd_str (by decide +kernel)) ?_
    refine xss_one (xs_ret (Xd.to (Xl.data (Xl.cast (xl_cat (xs := [.str (u "prints")]) (ys := fs.map fun f => .str (filT f)) (Xl.data (xl_lst (ds := [.str (u "prints")]) (xad_cons (xd_ixT (xd_name 0) xd_int rfl) xa_nil) (by show 1 ≤ 100000; decide))) (xd_if (t := false) (xb_eqs (xd_ixT (xd_name 0) xd_int rfl) xd_str (by decide +kernel)) (fun h => nomatch h) fun _ => xd_name 2) ?_) ?_)) hq))
    · rw [List.length_map]
      show 1 + fs.length ≤ 100000
      have : fs.length ≤ 30 := fl
      omega
    · unfold rowW
      rw [List.map_append, List.map_map]
      rfl
  | closed =>
    refine skip (xb_eqs (xd_ixT (xd_name 0) xd_int rfl) xd_str (by decide +kernel)) ?_
    refine skip (xb_eqs (xd_ixT (xd_name 0) xd_int rfl) xd_str (by decide +kernel)) ?_
    exact xss_one (xs_ret (Xd.to (Xl.data (xl_cat (xs := [.str (u "closed")]) (ys := []) (Xl.data (xl_lst (ds := [.str (u "closed")]) (xad_cons (xd_ixT (xd_name 0) xd_int rfl) xa_nil) (by show 1 ≤ 100000; decide))) (xd_if (t := false) (xb_eqs (xd_ixT (xd_name 0) xd_int rfl) xd_str (by decide +kernel)) (fun h => nomatch h) fun _ => xd_name 2) (by show 1 ≤ 100000; decide))) hq))
  | call p ps =>
    obtain ⟨h1, h5, h6⟩ := hok
    refine skip (xb_eqs (xd_ixT (xd_name 0) xd_int rfl) xd_str (by decide +kernel)) ?_
    refine xss_cons (M := fun _ _ => False) (xs_ifD (t := true) (xb_eqs (xd_ixT (xd_name 0) xd_int rfl) xd_str (decide_eq_true rfl)) (fun _ => ?_) fun z => nomatch z) fun _ _ z => z.elim
    refine xss_at (xs_setD 3 (y := .d (.str (optT p))) ?_ scRoww.nd) ?_
    · cases p with
      | none => exact xd_if (t := true) (xb_isn (xd_ixT (xd_name 0) xd_int rfl) rfl) (fun _ => xd_str) fun h => nomatch h
      | some k => exact xd_if (t := false) (xb_isn (xd_ixT (xd_name 0) xd_int rfl) rfl) (fun h => nomatch h) fun _ => xd_strI B (xd_ixT (xd_name 0) xd_int rfl) (h1 k rfl).small
    · refine xss_one (xs_ret (Xd.to (Xl.data (Xl.cast (xl_cat (xs := [.str (u "call"), .str (optT p)]) (ys := ps.map fun f => .str (pairT f)) (Xl.data (xl_lst (ds := [.str (u "call"), .str (optT p)]) (xad_cons xd_str (xad_cons (xd_name 3) xa_nil)) (by show 2 ≤ 100000; decide))) (Xl.data ?_) ?_) ?_)) hq))
      · refine xl_mapT ps pairD _ (fun f => [some (.d (rowD (.call p ps))), none, some (.d (.list ((filsOf (.call p ps)).map fun f => .str (filT f)))), some (.d (.str (optT p))), some (.d (.int f.1)), some (.d (.int f.2))]) scRoww.nd (xd_ixT (xd_name 0) xd_int rfl)
          (blkOk_by (own := [("_law_n", 4), ("_law_size", 5)]) (N := NRoww) (sc := defScope sRoww) (by decide +kernel)) (fun _ _ _ _ _ => pg_tup (n := 2) rfl (pgs_cons (pg_name (i := 4) scRoww.nd rfl (Or.inl rfl)) (pgs_cons (pg_name (i := 5) scRoww.nd rfl (Or.inl rfl)) pgs_nil))) (by decide) (Nat.le_trans h5 (by decide)) (fun x _ => rg_tup rfl (rgs_cons rg_name (rgs_cons rg_name rgs_nil))) (fun x hx z => ?_)
        have a1 := (okS_int (h6 x hx).1).1
        have a2 := (okS_int (h6 x hx).2).1
        have a3 : (intT x.2 ++ u "@").length ≤ 202 := (okS_app (okS_int (h6 x hx).2) (okS_lit "@")).1
        have a5 : (u "@").length = 1 := by decide +kernel
        have zl : 16777216 ≤ sizeLine := by rw [sizeLine_eq]; decide
        have e1 : ("@" : String).length = 1 := by decide
        refine xd_adds (s := intT x.2 ++ u "@") (t := intT x.1) (xd_adds (s := intT x.2) (xd_strI B (xd_name 5) (h6 x hx).2.small) xd_str ?_) (xd_strI B (xd_name 4) (h6 x hx).1.small) ?_
        · rw [a5]
          omega
        · show (intT x.2 ++ u "@").length + (intT x.1).length ≤ _
          omega
      · rw [List.length_map]
        show 2 + ps.length ≤ 100000
        omega
      · unfold rowW
        rw [List.map_append, List.map_map]
        rfl
theorem f_page {f : Addr} {fd : FuncData} (F1 : Fun K "_law_page" "_law_page" sPage f fd) (hm : mg "_law_page" = some (.ref f)) (B : Bn mg) (T : Fn P w K mg base 2 "_law_row_words" ["_law_row"] zRoww) : Fn P w K mg base 3 "_law_page" ["_law_good"] zRec := by
  refine fn_rule F1 scPage (F1.binds fun _ _ _ _ _ _ us hl => match us, hl with | [_], _ => rfl) hm (fun xs G Φ h => by obtain ⟨o, o2, rfl, _⟩ := h; rfl) fun cdv A outer s H E hr xs G Φ hz => ?_
  obtain ⟨rule, rows, rfl, ⟨h0, h1, h2⟩, hq⟩ := hz
  have zl : 16777216 ≤ sizeLine := by rw [sizeLine_eq]; decide
  refine xss_one (xs_ret (Xd.to (xd_join (ys := (u "record " ++ rule) :: rows.map rowT) xd_str ?_ ?_) hq))
  · refine Xl.data (Xl.cast (xl_cat (xs := [.str (u "record " ++ rule)]) (ys := rows.map fun r => .str (rowT r)) (Xl.data ?_) (Xl.data ?_) ?_) ?_)
    · refine xl_lst (ds := [.str (u "record " ++ rule)]) (xad_cons ?_ xa_nil) (by show 1 ≤ 100000; decide)
      refine xd_adds xd_str (xd_ixT (ds := [.str rule, .tuple (rows.map rowD)]) (xd_name 0) xd_int rfl) ?_
      have a4 : (u "record ").length = 7 := by decide +kernel
      have := h0.1
      rw [a4]
      omega
    · refine xl_mapT rows rowD _ (fun r => [some (.d (recD rule rows)), some (.d (rowD r))]) scPage.nd (xd_ixT (ds := [.str rule, .tuple (rows.map rowD)]) (xd_name 0) xd_int rfl) (blkOk_by (own := [("_law_row", 1)]) (N := NPage) (sc := defScope sPage) (by decide +kernel)) (fun _ _ _ _ _ => pg_name (i := 1) scPage.nd rfl (Or.inl rfl)) (by decide) (by omega) (fun x _ => rg_name) (fun x hx z => ?_)
      refine xd_join (ys := rowW x) xd_str (xd_call T hr (xad_cons (xd_name 1) xa_nil) fun G Φ q => ⟨x, rfl, h2 x hx, q⟩) ?_
      have hc := okW (h2 x hx)
      have a1 := sum_len hc.2
      have a4 : (u " ").length = 1 := by decide +kernel
      show _ + (rowW x).length * (u " ").length ≤ _
      rw [a4]
      omega
    · rw [List.length_map]
      show 1 + rows.length ≤ 100000
      omega
    · rw [List.map_cons, List.map_map]
      rfl
  · have a1 := sum_len (k := 22000) (ys := (u "record " ++ rule) :: rows.map rowT) fun y hy => by
      rcases List.mem_cons.mp hy with e | hy
      · subst e
        exact (okS_app (okS_lit "record ") h0).mono (by decide)
      · obtain ⟨r, hr, e⟩ := List.mem_map.mp hy
        subst e
        exact okT (h2 r hr)
    have a4 : (u "\n").length = 1 := by decide +kernel
    rw [List.length_cons, List.length_map] at a1
    show _ + ((u "record " ++ rule) :: rows.map rowT).length * (u "\n").length ≤ _
    rw [a4, List.length_cons, List.length_map]
    omega
end
end K8

set_option Elab.async false
set_option linter.all false
set_option maxRecDepth 100000
set_option maxHeartbeats 2000000
namespace K8
open PySem PySem.Spec L2 Fsh Rec
abbrev sLaw : Stmt := topG 26
abbrev NLaw : List Str := ["_law_script", "_law_reader_here", "_law_lots", "_law_turn", "_law_k", "_law_good", "_law_saved", "_law_row"]
theorem scLaw : FnScope NLaw ["_law_script"] (defScope sLaw) := ⟨rfl, rfl, rfl, by decide +kernel, rfl, by decide +kernel, by decide +kernel⟩
abbrev eW (cs : List Int) (r l : Addr) (t3 t4 t5 t6 t7 : Option DV) : Fsh.Env := [some (.d (.list (cs.map PyData.int))), some (.a r), some (.a l), t3, t4, t5, t6, t7]
abbrev eV (cs : List Int) (r : Addr) (L : List (Str × List RowM)) (t3 t4 t5 t6 t7 : Option DV) : Fsh.Env := [some (.d (.list (cs.map PyData.int))), some (.a r), some (.d (.list (L.map recP))), t3, t4, t5, t6, t7]
theorem fix_ok : ∀ c ∈ fixR, okP' c := by
  have L : ∀ n : Int, -100000 ≤ n ∧ n ≤ 100000 → lil n := fun n h => lil_of h.1 h.2
  have S : ∀ (s : String), s.length ≤ 8 → okS 8 (u s) := fun s h => okS_of s h
  have F0 : okFs [] := ⟨by decide, fun f h => by cases h⟩
  have N : lilO none := fun v e => by cases e
  have I : ∀ n : Int, -100000 ≤ n ∧ n ≤ 100000 → lilO (some n) := fun n h v e => by rw [← Option.some.inj e]; exact L n h
  have O : ∀ (m s : String) (p z : Int) (fs : List Fil), m.length ≤ 8 → s.length ≤ 8 → (-100000 ≤ p ∧ p ≤ 100000) → (-100000 ≤ z ∧ z ≤ 100000) → okFs fs → okR (oR m s p z fs) := fun m s p z fs h1 h2 h3 h4 h5 => ⟨S m h1, S s h2, L p h3, L z h4, h5⟩
  have F1 : ∀ f : Fil, okF f → okFs [f] := fun f h => ⟨by show 1 ≤ 30; decide, fun g hg => by rw [List.mem_singleton.mp hg]; exact h⟩
  have F2 : ∀ f g : Fil, okF f → okF g → okFs [f, g] := fun f g h h2 => ⟨by show 2 ≤ 30; decide, fun x hx => by
    simp only [List.mem_cons, List.not_mem_nil, or_false] at hx
    rcases hx with e | e <;> subst e
    · exact h
    · exact h2⟩
  intro c hc
  simp only [fixR, List.mem_cons, List.not_mem_nil, or_false] at hc
  rcases hc with e | e | e | e | e <;> subst e
  · refine ⟨S "time" (by decide), by decide, fun r hr => ?_⟩
    simp only [first1, first2, List.cons_append, List.nil_append, List.mem_cons, List.not_mem_nil, or_false] at hr
    rcases hr with e | e | e | e <;> subst e
    · exact O _ _ _ _ _ (by decide) (by decide) (by decide) (by decide) F0
    · exact O _ _ _ _ _ (by decide) (by decide) (by decide) (by decide) F0
    · exact F2 _ _ ⟨L _ (by decide), L _ (by decide), N⟩ ⟨L _ (by decide), L _ (by decide), I _ (by decide)⟩
    · exact F1 _ ⟨L _ (by decide), L _ (by decide), N⟩
  · refine ⟨S "late" (by decide), by decide, fun r hr => ?_⟩
    simp only [shut1, shut2, shut3, List.cons_append, List.nil_append, List.mem_cons, List.not_mem_nil, or_false] at hr
    rcases hr with e | e | e | e | e | e | e | e <;> subst e
    · exact True.intro
    · exact O _ _ _ _ _ (by decide) (by decide) (by decide) (by decide) F0
    · exact O _ _ _ _ _ (by decide) (by decide) (by decide) (by decide) F0
    · exact F0
    · exact O _ _ _ _ _ (by decide) (by decide) (by decide) (by decide) F0
    · refine ⟨I _ (by decide), by decide, fun q hq => ?_⟩
      simp only [List.mem_cons, List.not_mem_nil, or_false] at hq
      rcases hq with e | e <;> subst e
      · exact ⟨L _ (by decide), L _ (by decide)⟩
      · exact ⟨L _ (by decide), L _ (by decide)⟩
    · exact L _ (by decide)
    · exact F2 _ _ ⟨L _ (by decide), L _ (by decide), I _ (by decide)⟩ ⟨L _ (by decide), L _ (by decide), N⟩
  · refine ⟨S "price" (by decide), by decide, fun r hr => ?_⟩
    simp only [late1, late2, List.cons_append, List.nil_append, List.mem_cons, List.not_mem_nil, or_false] at hr
    rcases hr with e | e | e | e | e <;> subst e
    · exact O _ _ _ _ _ (by decide) (by decide) (by decide) (by decide) F0
    · exact O _ _ _ _ _ (by decide) (by decide) (by decide) (by decide) (F2 _ _ ⟨L _ (by decide), L _ (by decide), N⟩ ⟨L _ (by decide), L _ (by decide), I _ (by decide)⟩)
    · exact O _ _ _ _ _ (by decide) (by decide) (by decide) (by decide) (F1 _ ⟨L _ (by decide), L _ (by decide), I _ (by decide)⟩)
    · exact L _ (by decide)
    · exact F1 _ ⟨L _ (by decide), L _ (by decide), N⟩
  · exact ⟨S "time" (by decide), by decide, fun r hr => by cases hr⟩
  · exact ⟨S "late" (by decide), by decide, fun r hr => by rw [List.mem_singleton.mp hr]; exact True.intro⟩
def r30 : RowM := .prints [(10, 1, none), (9, 2, some 3)]
theorem ok30 : okP' (u "price", List.replicate 30 r30) := ⟨(okS_lit "price").mono (by decide), by rw [List.length_replicate]; decide, fun r hr => by
  rw [(List.mem_replicate.mp hr).2]
  refine ⟨by decide, fun f hf => ?_⟩
  simp only [List.mem_cons, List.not_mem_nil, or_false] at hf
  rcases hf with e | e <;> subst e
  · exact ⟨lil_of (by decide) (by decide), lil_of (by decide) (by decide), fun v e => by cases e⟩
  · exact ⟨lil_of (by decide) (by decide), lil_of (by decide) (by decide), fun v e => by rw [← Option.some.inj e]; exact lil_of (by decide) (by decide)⟩⟩
section
variable {P : Program} {w : World} {K : PySem.W.Frag} {mg : Str → Option Value} {base : Heap}
theorem law_body {f : Addr} (B : Bn mg) {cdv : Value} {A : Around} {outer : List PySem.Env} {s : Shared} {H : Hp} {E : XK} (hr : Room 8 (A.deeper (PyProof.Rows.envOfC "law" (defScope sLaw) s.heap.objs.size f cdv))) (hgd : (A.deeper (PyProof.Rows.envOfC "law" (defScope sLaw) s.heap.objs.size f cdv)).guards = some []) (hu : (A.deeper (PyProof.Rows.envOfC "law" (defScope sLaw) s.heap.objs.size f cdv)).units + 200 < cLine)
    (RD : Fn P w K mg base 1 "_law_reader" ["_law_script"] zRdr) (D : Fn P w K mg base 1 "_law_draw" ["_law_reader_here", "_law_many"] zDraw) (FX : Fn P w K mg base 1 "_law_fixed_records" [] zFix) (RR : Fn P w K mg base 7 "_law_random_record" ["_law_reader_here", "_law_most"] zRr) (LO : Fn P w K mg base 2 "_law_loose_row" ["_law_reader_here"] zLo)
    (PG : Fn P w K mg base 3 "_law_page" ["_law_good"] zRec) (RW : Fn P w K mg base 2 "_law_row_words" ["_law_row"] zRoww) (REC : Fn P w K mg base 5 "record_text" ["record"] zRec) (RT : Fn P w K mg base 4 "row_text" ["row"] zRt)
    {cs : List Int} (hcs : cs.length ≤ 63) {Φ : Pst} (hq : ∀ G, Φ (.d (.bool true)) G) :
    Xss (cxOf CX0 P w K mg base NLaw "law" (defScope sLaw) f cdv A outer s H E).nox (defBody sLaw) (start0 NLaw [.d (.list (cs.map PyData.int))]) [] (fun _ G => Φ (.d .none) G) Φ := by
  show Xss _ (List.cons _ _) _ _ _ _
  refine xss_cons (M := fun ρ' G2 => ∃ r, ρ' = [some (.d (.list (cs.map PyData.int))), some (.a r), none, none, none, none, none, none] ∧ Rd 0 r G2) (xs_set 1 (Φe := fun y G2 => ∃ r, y = .a r ∧ Rd 0 r G2) (xp_call RD (hr.mono (by decide)) (Xad.i (xad_cons (xd_name 0) xa_nil)) fun xs G2 q => ?_) (fun y G2 q => ?_) scLaw.nd) fun ρ' G2 q => ?_
  · exact ⟨[], G2, rfl, cs, q.1, hcs, fun r Gr h => ⟨r, rfl, by rw [q.2, List.append_nil]; exact h⟩⟩
  · obtain ⟨r, rfl, h⟩ := q
    exact ⟨r, rfl, h⟩
  obtain ⟨r, rfl, hR0⟩ := q
  refine xss_cons (M := fun ρ' G3 => ∃ l, ρ' = eW cs r l none none none none none ∧ G3 = (l, .lst (fixR.map recP)) :: G2) (xs_set 2 (Φe := fun y G3 => ∃ l, y = .a l ∧ G3 = (l, .lst (fixR.map recP)) :: G2) (xp_call0 FX (hr.mono (by decide)) ⟨rfl, fun l => ⟨l, rfl, rfl⟩⟩) (fun y G2 q => ?_) scLaw.nd) fun ρ' G3 q => ?_
  · obtain ⟨l, rfl, h⟩ := q
    exact ⟨l, rfl, h⟩
  obtain ⟨l, rfl, rfl⟩ := q
  -- the records
  refine xss_cons (M := fun ρ' G3 => ∃ (L : List (Str × List RowM)) (Gr : Store) (t3 : Option DV), ρ' = eW cs r l t3 none none none none ∧ G3 = (l, .lst (L.map recP)) :: (Gr ++ []) ∧ (∀ c ∈ L, okP' c) ∧ L.length ≤ 15)
    (xs_forR (js := [3]) (Φl := IsA [intV 5] ((l, .lst (fixR.map recP)) :: G2)) (fun c k ρ1 G1 => c = 5 ∧ ∃ (L : List (Str × List RowM)) (Gr : Store) (t3 : Option DV), ρ1 = eW cs r l t3 none none none none ∧ G1 = (l, .lst (L.map recP)) :: (Gr ++ []) ∧ (∀ c ∈ L, okP' c) ∧ L.length ≤ 5 + 2 * k ∧ Rd (7000 * k) r Gr) PassesOwn.never B.range (Xad.i (xad_cons xd_int xa_nil)) (pg_name (i := 3) scLaw.nd rfl (Or.inl rfl)) ?_ ?_ ?_) fun ρ' G3 q => ?_
  · intro xs G1 q
    exact ⟨5, q.1, by decide, by decide, rfl, fixR, G2, none, rfl, by rw [q.2, List.append_nil], fix_ok, by decide, hR0.mono (by omega)⟩
  · rintro c k ρ1 G1 hk ⟨rfl, L, Gr, t3, rfl, rfl, hL, hl, hR⟩
    refine ⟨_, rg_name, ?_⟩
    refine xss_cons (M := fun ρ' G2 => ∃ (c : Str × List RowM) (Gr2 : Store), ρ' = eW cs r l (some (intV k)) none none none none ∧ G2 = (l, .lst ((L ++ [c]).map recP)) :: (Gr2 ++ []) ∧ okP' c ∧ Rd (7000 * k + 6000) r Gr2) (xs_expr (Φe := fun y G2 => ∃ (c : Str × List RowM) (Gr2 : Store), G2 = (l, .lst ((L ++ [c]).map recP)) :: (Gr2 ++ []) ∧ okP' c ∧ Rd (7000 * k + 6000) r Gr2) (xp_append (Φe := fun y G2 => ∃ (c : Str × List RowM) (Gr2 : Store), y = .d (recP c) ∧ G2 = (l, .lst (L.map recP)) :: (Gr2 ++ []) ∧ okP' c ∧ Rd (7000 * k + 6000) r Gr2) (xd_name 2) ⟨_, List.mem_cons_self⟩ ?_ fun y G2 w => ?_) fun y G2 w => ?_) fun ρ' G2 q => ?_
    · refine xp_call RR (hr.mono (by decide)) (Xad.i (xs := [.a r, intV 8]) (xad_cons (xd_name 1) (xad_cons xd_int xa_nil))) fun xs G2 q => ?_
      exact ⟨[(l, .lst (L.map recP))], Gr ++ [], q.2, r, 7000 * k, 8, Gr, [], q.1, rfl, hR, by omega, by decide, by decide, (fun p hp => by cases hp), fun c Gr2 h1 h2 => ⟨c, Gr2, rfl, rfl, h1, h2⟩⟩
    · obtain ⟨c, Gr2, rfl, rfl, h1, h2⟩ := w
      refine ⟨_, [], L.map recP, Gr2 ++ [], rfl, rfl, by rw [List.length_map]; omega, c, Gr2, ?_, h1, h2⟩
      rw [List.map_append]
      rfl
    · obtain ⟨c, Gr2, rfl, h1, h2⟩ := w
      exact ⟨c, Gr2, rfl, rfl, h1, h2⟩
    obtain ⟨c, Gr2, rfl, rfl, hc, hR2⟩ := q
    refine xss_one (xs_expr (Φe := fun y G2 => ∃ (c2 : Str × List RowM) (Gr3 : Store), G2 = (l, .lst ((L ++ [c] ++ [c2]).map recP)) :: (Gr3 ++ []) ∧ okP' c2 ∧ Rd (7000 * k + 7000) r Gr3) (xp_append (Φe := fun y G2 => ∃ (c2 : Str × List RowM) (Gr3 : Store), y = .d (recP c2) ∧ G2 = (l, .lst ((L ++ [c]).map recP)) :: (Gr3 ++ []) ∧ okP' c2 ∧ Rd (7000 * k + 7000) r Gr3) (xd_name 2) ⟨_, List.mem_cons_self⟩ (xp_tup2 (x := .str (u "late")) (Φb := fun y G2 => ∃ (rows : List RowM) (Gr3 : Store), y = .d (.tuple (rows.map rowD)) ∧ G2 = (l, .lst ((L ++ [c]).map recP)) :: (Gr3 ++ []) ∧ rows.length ≤ 40 ∧ (∀ x ∈ rows, okR x) ∧ Rd (7000 * k + 7000) r Gr3) xd_str (xp_tupL (Φe := fun y G2 => ∃ (rows : List RowM) (Gr3 : Store), y = rowsV rows ∧ G2 = (l, .lst ((L ++ [c]).map recP)) :: (Gr3 ++ []) ∧ rows.length ≤ 40 ∧ (∀ x ∈ rows, okR x) ∧ Rd (7000 * k + 7000) r Gr3) B (LcP.xp (LcP.give ?_)) fun y G2 w => ?_) fun y G2 w => ?_) fun y G2 w => ?_) fun y G2 w => ?_)
    · refine lc_R (js := [4]) (Φl := fun xs G2 => ∃ (m : Int) (Gr3 : Store), xs = [intV m] ∧ 0 ≤ m ∧ m < 5 ∧ G2 = (l, .lst ((L ++ [c]).map recP)) :: (Gr3 ++ []) ∧ Rd (7000 * k + 6001) r Gr3) (fun m i acc G1 => m < 5 ∧ ∃ (rows : List RowM) (Gr3 : Store), acc = rows.map rowD ∧ rows.length = i ∧ (∀ x ∈ rows, okR x) ∧ G1 = (l, .lst ((L ++ [c]).map recP)) :: (Gr3 ++ []) ∧ Rd (7000 * k + 6001 + 100 * i) r Gr3) scLaw.nd B.range ?_
        (blkOk_by (own := [("_law_k", 4)]) (N := NLaw) (sc := defScope sLaw) (by decide +kernel)) (fun _ _ _ _ _ => pg_name (i := 4) scLaw.nd rfl (Or.inl rfl)) (by decide) (fun xs G1 q => ?_) (fun m i hi => ?_) (fun lx m acc G3 q => ?_)
      · refine xa_step (xp_draw (G1 := [(l, .lst ((L ++ [c]).map recP))]) (m := 5) (Φ := fun y G2 => ∃ (i : Int) (Gr3 : Store), y = intV i ∧ 0 ≤ i ∧ i < 5 ∧ G2 = (l, .lst ((L ++ [c]).map recP)) :: (Gr3 ++ []) ∧ Rd (7000 * k + 6001) r Gr3) D (hr.mono (by decide)) hR2 (by omega) (by decide) (by decide) (Xad.i (xad_cons (xd_name 1) (xad_cons xd_int xa_nil))) fun i Gr3 h1 h2 h3 => ⟨i, Gr3, rfl, h1, h2, rfl, h3⟩) fun x G1 q => xa_end ?_
        obtain ⟨i, Gr3, rfl, w⟩ := q
        exact ⟨i, Gr3, rfl, w⟩
      · obtain ⟨m, Gr3, rfl, h1, h2, rfl, h3⟩ := q
        exact ⟨m, rfl, by omega, by omega, h2, [], Gr3, rfl, rfl, (fun x hx => by cases hx), rfl, h3.mono (by omega)⟩
      · refine ⟨_, rg_name, fun acc G1 q => turn_each fun z => ?_⟩
        obtain ⟨hm5, rows, Gr3, rfl, hrl, hro, rfl, hR3⟩ := q
        refine xp_call LO (hr.mono (by decide)) (Xad.i (xs := [.a r]) (xad_cons (xd_name 1) xa_nil)) fun xs G2 q => ?_
        refine ⟨[(l, .lst ((L ++ [c]).map recP))], Gr3 ++ [], q.2, r, 7000 * k + 6001 + 100 * i, Gr3, [], q.1, rfl, hR3, by omega, fun row Gr4 h1 h2 => ⟨rowD row, rfl, hm5, rows ++ [row], Gr4, ?_, ?_, fun x hx => ?_, rfl, h2.mono (by omega)⟩⟩
        · rw [List.map_append]
          rfl
        · rw [List.length_append, hrl]
          rfl
        · rcases List.mem_append.mp hx with h | h
          · exact hro x h
          · rw [List.mem_singleton.mp h]
            exact h1
      · obtain ⟨hm5, rows, Gr3, rfl, hrl, hro, rfl, hR3⟩ := q
        exact ⟨lx, _, _, rfl, rfl, rows, Gr3, rfl, rfl, by omega, hro, hR3.mono (by omega)⟩
    · obtain ⟨rows, Gr3, rfl, rfl, h1, h2, h3⟩ := w
      exact ⟨_, rfl, rows, Gr3, rfl, rfl, h1, h2, h3⟩
    · obtain ⟨rows, Gr3, rfl, rfl, h1, h2, h3⟩ := w
      exact ⟨_, rfl, (u "late", rows), Gr3, rfl, rfl, ⟨(okS_lit "late").mono (by decide), h1, h2⟩, h3⟩
    · obtain ⟨c2, Gr3, rfl, rfl, h1, h2⟩ := w
      refine ⟨_, [], (L ++ [c]).map recP, Gr3 ++ [], rfl, rfl, by rw [List.length_map, List.length_append]; show L.length + 1 < 100000; omega, c2, Gr3, ?_, h1, h2⟩
      rw [List.map_append (l₂ := [c2])]
      rfl
    · obtain ⟨c2, Gr3, rfl, h1, h2⟩ := w
      refine ⟨rfl, L ++ [c] ++ [c2], Gr3, _, rfl, rfl, fun x hx => ?_, ?_, h2.mono (by omega)⟩
      · rcases List.mem_append.mp hx with h | h
        · rcases List.mem_append.mp h with h | h
          · exact hL x h
          · rw [List.mem_singleton.mp h]
            exact hc
        · rw [List.mem_singleton.mp h]
          exact h1
      · rw [List.length_append, List.length_append]
        show L.length + 1 + 1 ≤ 5 + 2 * (k + 1)
        omega
  · rintro c ρ1 G1 ⟨rfl, L, Gr, t3, rfl, rfl, hL, hl, hR⟩
    exact ⟨L, Gr, t3, rfl, rfl, hL, by have : (5 : Int).toNat = 5 := rfl; omega⟩
  obtain ⟨L, Gr, t3, rfl, rfl, hL, hl⟩ := q
  refine xss_at (xs_app1 (d := recP (u "price", List.replicate 30 r30)) (xd_name 2) ?_ (by rw [List.length_map]; omega)) ?_
  · refine Xd.cast (xd_tup (ds := [.str (u "price"), .tuple (List.replicate (30 : Int).toNat [rowD r30]).flatten]) (xad_cons xd_str (xad_cons (xd_mult (xs := [rowD r30]) (n := 30) (xd_tup (ds := [rowD r30]) (xad_cons (xd_tup (ds := [.str (u "prints"), .tuple [.tuple [.int 10, .int 1, .none], .tuple [.int 9, .int 2, .int 3]]]) (xad_cons xd_str (xad_cons (xd_tup (ds := [.tuple [.int 10, .int 1, .none], .tuple [.int 9, .int 2, .int 3]]) (xad_cons (xd_tup (ds := [.int 10, .int 1, .none]) (xad_cons xd_int (xad_cons xd_int (xad_cons xd_none xa_nil)))) (xad_cons (xd_tup (ds := [.int 9, .int 2, .int 3]) (xad_cons xd_int (xad_cons xd_int (xad_cons xd_int xa_nil)))) xa_nil))) xa_nil))) xa_nil) (by show 1 ≤ 100000; decide)) xd_int (by simp) (by decide) (by decide) (by show 1 ≤ 1000; decide)) xa_nil)) (by show 2 ≤ 100000; decide)) rfl
  -- the records are looked at
  have hL2 : ∀ c ∈ L ++ [(u "price", List.replicate 30 r30)], okP' c := fun c hc => by
    rcases List.mem_append.mp hc with h | h
    · exact hL c h
    · rw [List.mem_singleton.mp h]
      exact ok30
  rw [show L.map recP ++ [recP (u "price", List.replicate 30 r30)] = (L ++ [(u "price", List.replicate 30 r30)]).map recP by rw [List.map_append]; rfl]
  have hl2 : (L ++ [(u "price", List.replicate 30 r30)]).length ≤ 16 := by
    rw [List.length_append]
    show L.length + 1 ≤ 16
    omega
  generalize L ++ [(u "price", List.replicate 30 r30)] = L2 at hL2 hl2
  refine rs_give ?_
  refine xss_cons (M := fun ρ' G3 => ∃ a5 a6 a7 t1 t9, ρ' = [some (.d (.list (cs.map PyData.int))), t1, some (.d (.list (L2.map recP))), t9, none, a5, a6, a7])
    (xs_forL (js := [5]) (ds := L2.map recP) (fun k ρ1 G1 => ∃ a5 a6 a7 t1 t9, ρ1 = [some (.d (.list (cs.map PyData.int))), t1, some (.d (.list (L2.map recP))), t9, none, a5, a6, a7]) PassesOwn.never (xd_name 2 (hr := thaw_at rfl)) (pg_name (i := 5) scLaw.nd rfl (Or.inl rfl)) ?_ ?_ ?_) fun ρ' G3 q => ?_
  · refine ⟨none, none, none, ((thawE l (L2.map recP) [some (.a r)])[0]?).getD none, ((thawE l (L2.map recP) [t3])[0]?).getD none, ?_⟩
    show [_, _, (if l = l then some (DV.d (.list (L2.map recP))) else some (DV.a l)), _, _, _, _, _] = _
    rw [if_pos (rfl : l = l)]
    rfl
  · rintro k d ρ1 G1 hd ⟨a5, a6, a7, t1, t9, rfl⟩
    obtain ⟨c, hc, rfl⟩ := of_map_at hd
    have hok := hL2 c (List.mem_of_getElem? hc)
    have hn : Nice 5 16000200 (recP c) := nice_rec hok.1 hok.2.1 hok.2.2
    have zl : 16777216 ≤ sizeLine := by rw [sizeLine_eq]; decide
    have hrz := okS_repr (okRec hok.1 hok.2.1 hok.2.2)
    refine ⟨[some (.d (.list (cs.map PyData.int))), t1, some (.d (.list (L2.map recP))), t9, none, some (.d (recP c)), a6, a7], rg_name, ?_⟩
    refine xss_at (xs_setD 6 (y := .d (.str (recP c).shown)) (xd_reprD B hgd hu (xd_name 5) ⟨_, .inl rfl⟩ hn.show_ hn.nod (Nat.le_trans hn.dep (by decide)) (Nat.le_trans hn.len (by omega))) scLaw.nd) ?_
    refine xss_at (ρ' := [some (.d (.list (cs.map PyData.int))), t1, some (.d (.list (L2.map recP))), t9, none, some (.d (recP c)), some (.d (.str (recP c).shown)), a7]) (G' := G1) (xs_ifD (t := false) ?_ (fun h => nomatch h) fun h => xss_nil ⟨rfl, rfl⟩) ?_
    · refine xb_nes (s := reprText (recT c.1 c.2)) (t := reprText (recT c.1 c.2)) (xd_reprS B (xd_call REC (hr.mono (by decide)) (xad_cons (xd_name 5) xa_nil) fun G Φ q => ⟨c.1, c.2, rfl, hok, q⟩) (by omega)) (xd_reprS B (xd_call PG (hr.mono (by decide)) (xad_cons (xd_name 5) xa_nil) fun G Φ q => ⟨c.1, c.2, rfl, hok, q⟩) (by omega)) ?_
      rw [decide_eq_true rfl]
      rfl
    refine xss_cons (M := fun ρ' G3 => ∃ a7, ρ' = [some (.d (.list (cs.map PyData.int))), t1, some (.d (.list (L2.map recP))), t9, none, some (.d (recP c)), some (.d (.str (recP c).shown)), a7]) (xs_forT (js := [7]) (ds := c.2.map rowD) (fun k ρ1 G1 => ∃ a7, ρ1 = [some (.d (.list (cs.map PyData.int))), t1, some (.d (.list (L2.map recP))), t9, none, some (.d (recP c)), some (.d (.str (recP c).shown)), a7]) PassesOwn.never (xd_ixT (ds := [.str c.1, .tuple (c.2.map rowD)]) (xd_name 5) xd_int rfl) (pg_name (i := 7) scLaw.nd rfl (Or.inl rfl)) ⟨a7, rfl⟩ ?_ ?_) fun ρ' G3 q => ?_
    · rintro k2 d2 ρ2 G2 hd2 ⟨b7, rfl⟩
      obtain ⟨row, hrow, rfl⟩ := of_map_at hd2
      have hrk := hok.2.2 row (List.mem_of_getElem? hrow)
      have hrz2 := okS_repr (okT hrk)
      have hw := okW hrk
      refine ⟨[some (.d (.list (cs.map PyData.int))), t1, some (.d (.list (L2.map recP))), t9, none, some (.d (recP c)), some (.d (.str (recP c).shown)), some (.d (rowD row))], rg_name, ?_⟩
      refine xss_one (xs_ifD (t := false) ?_ (fun h => nomatch h) fun h => xss_nil ⟨_, rfl⟩)
      refine xb_nes (s := reprText (rowT row)) (t := reprText (rowT row)) (xd_reprS B (xd_call RT (hr.mono (by decide)) (xad_cons (xd_name 7) xa_nil) fun G Φ q => ⟨row, rfl, hrk, q⟩) (by omega)) (xd_reprS B (xd_join (ys := rowW row) xd_str (xd_call RW (hr.mono (by decide)) (xad_cons (xd_name 7) xa_nil) fun G Φ q => ⟨row, rfl, hrk, q⟩) ?_) (by show (reprText (rowT row)).length ≤ _; omega)) ?_
      · have a1 := sum_len hw.2
        have a2 := hw.1
        have a4 : (u " ").length = 1 := by decide +kernel
        show _ + (rowW row).length * (u " ").length ≤ _
        rw [a4]
        omega
      · rw [decide_eq_true rfl]
        rfl
    · rintro ρ2 G2 ⟨b7, rfl⟩
      exact ⟨b7, rfl⟩
    obtain ⟨b7, rfl⟩ := q
    refine xss_one (xs_ifD (t := false) ?_ (fun h => nomatch h) fun h => xss_nil ⟨_, _, _, _, _, rfl⟩)
    refine xb_nes (s := (recP c).shown) (t := (recP c).shown) (xd_reprD B hgd hu (xd_name 5) ⟨_, .inl rfl⟩ hn.show_ hn.nod (Nat.le_trans hn.dep (by decide)) (Nat.le_trans hn.len (by omega))) (xd_name 6) ?_
    rw [decide_eq_true rfl]
    rfl
  · rintro ρ1 G1 ⟨a5, a6, a7, t1, t9, rfl⟩
    exact ⟨a5, a6, a7, t1, t9, rfl⟩
  obtain ⟨a5, a6, a7, t1, t9, rfl⟩ := q
  exact xss_one (xs_ret (Xd.to xd_bool (hq G3)))
end
end K8

set_option Elab.async false
set_option linter.all false
set_option maxRecDepth 100000
namespace Fsh
open PySem PySem.Spec PyProof.Rows L2
/-! the law's own call, at the caller's place alone -/
theorem run_at {P : Program} {w : World} {K : PySem.W.Frag} {mg : Str → Option Value} {base : Heap} {k : Nat} {x : Str} {st : Stmt} {f : Addr} {fd : FuncData} {N ps : List Str} {A : Around} {outer : List PySem.Env} {s : Shared} {H : Hp} {args : Args} {us : List Value} {vs : List V} {Q : VK}
    (F1 : Fun K x x st f fd) (S : FnScope N ps (defScope st)) (hlen : vs.length = ps.length) (room : Room (k + 1) A) (en : Env0 P w K mg base A outer s H) (bd : BindsTo s fd args (ps.zip us)) (rel : Vals vs us)
    (body : ∀ cdv : Value, ∃ t, PSs (cxOf CX0 P w K mg base N x (defScope st) f cdv A outer s H E0).nox (defBody st) t ∧ t { nx := fun _ H' => Q .non H', rt := Q } (L2.start N vs) H) :
    codeAny (model P w) A (.call (.ref f) args) (CR CX0 outer P w H s Q E0) s := by
  obtain ⟨oc, od, kV, doc, pm, an, cdv, ct, osl, rfl, look, code⟩ := F1.ex
  have inS := en.mod.kin.keeps fun b o e => (en.bs b o e).1
  have noLim := en.mod.nolimit.keeps fun b o e => (en.bs b o e).1
  have kinds : ∀ y ∈ ps.zip us, (defScope st).names.lookup y.1 = some .local ∨ ((defScope st).names.lookup y.1 = some .cell ∧ ((cellsFrom (s.heap.objs.size + 1) (defScope st).names []).lookup y.1).isSome = true) := fun y hy => by
    obtain ⟨n, v⟩ := y
    rcases S.par n (List.of_mem_zip hy).1 with loc | cel
    · exact Or.inl loc
    · exact Or.inr ⟨cel, PySem.W.cellsFrom_some _ _ _ (Or.inl cel)⟩
  refine codeAny_call_function room.depth (inS _ _ look) rfl S.co S.gen rfl (PySem.W.codeRec_of inS code) (bd _ _ _ _ ?_)
  refine wpAny_newFunctionEnv_cells S.kind kinds fun env0 isE sA inC => ?_
  subst isE
  refine ⟨noLim.keeps inC.toInCall.keep, codeAny_func ?_⟩
  obtain ⟨t, ht0, hq⟩ := body cdv
  have ht := ht0.nox
  have inv0 : Inv (cxOf CX0 P w K mg base N x (defScope st) f cdv A outer s H E0) [] (L2.start N vs) H sA := inv_start S room.hd en hlen rel inC
  refine wpAny_mono (ht.run [] sA (L2.start N vs) H _ inv0 hq) (fun fl sB hs => ?_) fun _ _ hs => hs
  match fl, hs with
  | .ret u, hs =>
    obtain ⟨v, σ', H', J, rv, q⟩ := hs
    exact ⟨v, H', J.os, J.bare, J.base, J.hok, rv, q⟩
  | .next, hs =>
    obtain ⟨σ', H', J, q⟩ := hs
    exact ⟨V.non, H', J.os, J.bare, J.base, J.hok, rfl, q⟩
  | .brk, hs =>
    obtain ⟨_, _, _, q⟩ := hs
    exact q.elim
  | .cont, hs =>
    obtain ⟨_, _, _, q⟩ := hs
    exact q.elim
/-- a def of the module, wherever it stands -/
def DefIn (K : PySem.W.Frag) (mg : Str → Option Value) (x : Str) (st : Stmt) : Prop := ∃ f fd, Fun K x x st f fd ∧ mg x = some (.ref f)
theorem def_mk {x : Str} {st : Stmt} {K : PySem.W.Frag} {h : Heap} {mg : Str → Option Value} {f : Addr} {od an : Option Addr} {sl : Array (Option Value)} {oc kV dc pm cd ct : Value} (X : K.In h) (G : h.Ns mainGlobals mg)
    (a : PySem.W.nsIn K mainGlobals x = some (some (.ref f))) (l : K.lookup f = some ⟨oc, od, .func (PySem.W.fnOf x x (defArgs st) (defBody st) (defScope st) .none kV dc pm an cd ct), sl⟩) (c : PySem.W.codeIn K cd x = true) (k : PySem.W.keepIn K (.ref f) = true) : DefIn K mg x st :=
  ⟨f, _, fun_mk l c k, PySem.W.mg_of X G a⟩
theorem law_end {l : PySem.W.OpenLaw} {n k : Nat} {q : Program} {loose : List Str} {XP : (Str → Option Value) → Heap → Prop} {YP : World → Heap → Prop} {d : DefRec} {Kf : Params → PySem.W.Frag} {st : Stmt} {N : List Str} {x : Str}
    (most : l.most = some n) (most2 : n ≤ 1000) (nodef : d.params.defaults = []) (S : FnScope N [x] (defScope st)) (room : Room (k + 1) callerA) (inY : ∀ (w : World) (h : Heap), YP w h → (Kf w.params).In h)
    (bnd : ∀ (K : PySem.W.Frag) (f : Addr) (fd : FuncData), Fun K d.name d.name st f fd → Binds K fd [x] [])
    (D : PySem.W.Frag → (Str → Option Value) → Prop) (defs : ∀ (w : World) (mg : Str → Option Value) (h : Heap), (Kf w.params).In h → h.Ns mainGlobals mg → D (Kf w.params) mg) (lawD : ∀ (K : PySem.W.Frag) (mg : Str → Option Value), D K mg → DefIn K mg d.name st)
    (body : ∀ (w : World) (K : PySem.W.Frag) (mg : Str → Option Value) (base : Heap) (f : Addr) (cdv : Value) (s : Shared) (H : Hp) (cs : List Int), D K mg → cs.length ≤ n →
      Xss (cxOf CX0 l.prog w K mg base N d.name (defScope st) f cdv callerA [] s H E0).nox (defBody st) (start0 N [.d (.list (cs.map PyData.int))]) [] (fun _ _ => False) (fun y _ => y = .d (.bool true))) :
    PySem.W.WalkO q loose XP YP l.row.toRowW d [] (fun f vs => PySem.call f vs) := by
  refine Att.attach_call most nodef fun w s₀ s₁ mg mb fa o pm cd doc a vs ns Gr Y _ _ _ hmg hobj hints hlen hgen => ?_
  have inH := inY w _ Y
  have dd := defs w mg _ inH Gr.T.g
  obtain ⟨f, fd, F1, hm⟩ := lawD _ _ dd
  have ef : fa = f := by
    have := hmg.symm.trans hm
    cases this
    rfl
  subst ef
  have rel := vals_ints hints
  have hz : ns.length ≤ sizeLine := Nat.le_trans hlen (Nat.le_trans most2 (by decide))
  have key : ∀ H : Hp, (∀ b, H b = none ∨ ∃ o xs, H b = some (.frz o (.lst xs))) → SqL (Kf w.params) H a (ns.map V.int) → HOk l.prog w H s₁.heap → (∀ b, H b ≠ none → b = a ∧ (Kf w.params).lookup a = none) →
      codeAny (model l.prog w) callerA (.call (.ref fa) ⟨[.ref a], []⟩) (fun r s' => r = .ok (.ret (.bool true)) ∧ OldK s₁.heap s'.heap ∧ s'.os = s₁.os ∧ AllBare s'.gens) s₁ := by
    intro H only seq hok here
    have notA : ∀ {b : Addr} {ob : Obj} {es : Array DictEntry} {ep : Nat}, s₁.heap.get? b = some ob → ob.data = .dict es ep → H b = none := fun {b ob es ep} e dd => by
      rcases Classical.em (H b = none) with z | z
      · exact z
      · have eb := (here b z).1
        subst eb
        have e2 := hobj.symm.trans e
        cases e2
        have dd : Data.seq vs.toArray _ = Data.dict es ep := dd
        cases dd
    have nsB : ∀ {b : Addr} {m : Str → Option Value}, s₁.heap.Ns b m → (hidT s₁.heap H).Ns b m := fun {b m} z => by
      obtain ⟨ob, es, ep, e, dd, r⟩ := z
      exact ⟨ob, es, ep, hidT_get e (notA e dd), dd, r⟩
    have inB : (Kf w.params).In (hidT s₁.heap H) := fun b ob e => hidT_get (inH b ob e) (by
      rcases Classical.em (H b = none) with z | z
      · exact z
      · obtain ⟨eb, no⟩ := here b z
        subst eb
        rw [no] at e
        cases e)
    have md : Mod (Kf w.params) mg (hidT s₁.heap H) := ⟨inB, nsB Gr.T.g, ⟨mb, nsB Gr.T.b, Gr.T.builtins⟩, by
      obtain ⟨mc, z1, z2⟩ := Gr.T.nolimit
      exact ⟨mc, nsB z1, z2⟩⟩
    have en : Env0 l.prog w (Kf w.params) mg (hidT s₁.heap H) callerA [] s₁ H := ⟨rfl, md, fun b ob e => of_hidT e, Nat.le_of_eq (hidT_size _ _), trivial, fun b hb => absurd (show b ∈ ([] : List Addr) from hb) (by simp), hok, .of_eq hgen⟩
    have rsc : Rp (Kf w.params) H (.ref a) (.list (ns.map PyData.int)) := .rlst seq (Rps.of_ints ns)
    have cf : Cfg (Kf w.params) (fun _ => none) [] H H := ⟨Evl.Ex.refl H, (fun b ob e => nomatch e), (fun p hp => nomatch hp), (fun q hq => absurd rfl hq), (fun p hp => nomatch hp), (fun p hp => nomatch hp), List.nodup_nil⟩
    refine codeAny_mono (run_at (Q := fun v _ => v = .bl true) F1 S rfl room en (bnd _ _ _ F1 s₁ [.ref a] inH rfl) (show Vals [V.ref a] [Value.ref a] from .cons rfl .nil) fun cdv => ⟨_, pss_tw, body w _ mg (hidT s₁.heap H) fa cdv s₁ H ns dd hlen (fun _ => none) (L2.start N [.ref a]) H H _ cf (slots_start (.cons rsc .nil)) (fun _ _ _ _ _ _ _ _ z => z.elim) (fun v y G2 B2 H2 _ _ r e => ?_)⟩) fun r s' h => ?_
    · subst e
      cases (show Rp _ _ v (.bool true) from r)
      rfl
    · match r, h with
      | .error e, h => exact h.elim
      | .ok .next, h => exact h.elim
      | .ok .brk, h => exact h.elim
      | .ok .cont, h => exact h.elim
      | .ok (.ret u), h =>
        obtain ⟨v, H', os, bare, un, hok', rl, ev⟩ := h
        have ev : v = .bl true := ev
        subst ev
        obtain rfl : u = Value.bool true := rl
        refine ⟨rfl, OldK.of_keep fun b ob e => ?_, os, bare⟩
        rcases only b with z | ⟨ob2, xs, z⟩
        · exact un.keep b ob e z (by intro y; exact absurd (show b ∈ ([] : List Addr) from y) (by simp)) (by simp)
        · obtain ⟨g1, _⟩ := hok b _ z
          obtain ⟨g2, _⟩ := hok' b _ (un.frzs b ob2 _ z)
          rw [e] at g1
          cases g1
          exact g2
  cases lk : (Kf w.params).lookup a with
  | some ob =>
    have e := inH a ob lk
    rw [hobj] at e
    cases e
    exact key (fun _ => none) (fun _ => .inl rfl) (.inr ⟨_, vs.toArray, _, lk, rfl, rfl, rfl, by rw [List.size_toArray, hints.length]; exact hz, by simpa using rel⟩) (fun b u z => nomatch z) fun b z => absurd rfl z
  | none =>
    refine key (fun b => if b = a then some (.frz { cls := .type "list", data := .seq vs.toArray } (.lst (ns.map V.int))) else none) (fun b => ?_) (.inl (.inr ⟨{ cls := .type "list", data := .seq vs.toArray }, if_pos rfl⟩)) (fun b u z => ?_) (fun b z => ⟨?_, lk⟩)
    · rcases Classical.em (b = a) with hb | hb
      · exact .inr ⟨_, _, if_pos hb⟩
      · exact .inl (if_neg hb)
    · rcases Classical.em (b = a) with hb | hb
      · subst hb
        have z := (if_pos rfl).symm.trans z
        cases z
        exact ⟨hobj, by rw [List.length_map]; exact hz, vs, _, rel, hobj⟩
      · have z := (if_neg hb).symm.trans z
        cases z
    · rcases Classical.em (b = a) with hb | hb
      · exact hb
      · exact absurd (if_neg hb) z
end Fsh

set_option Elab.async false
set_option linter.all false
set_option maxRecDepth 100000
set_option maxHeartbeats 4000000
namespace K8
open PySem PySem.Spec L2 Fsh Rec
/-- all that the top leaves -/
structure D8 (K : PySem.W.Frag) (mg : Str → Option Value) : Prop where
  bn : Bn mg
  d_row_fills : DefIn K mg "row_fills" K8.sRf
  d_row_text : DefIn K mg "row_text" K8.sRt
  d_record_text : DefIn K mg "record_text" K8.sRec
  d_row_words : DefIn K mg "row_words" K8.sRw
  d_fill_text : DefIn K mg "fill_text" K8.sFt
  d_text_or_none : DefIn K mg "text_or_none" K8.sTon
  d_law_reader : DefIn K mg "_law_reader" K8.sRdr
  d_law_draw : DefIn K mg "_law_draw" K8.sDraw
  d_law_fills : DefIn K mg "_law_fills" K8.sFils
  d_law_trades : DefIn K mg "_law_trades" K8.sTr
  d_law_rest : DefIn K mg "_law_rest" K8.sRest
  d_law_orders : DefIn K mg "_law_orders" K8.sOrds
  d_law_open : DefIn K mg "_law_open" K8.sOpen
  d_law_is_shut : DefIn K mg "_law_is_shut" K8.sShut
  d_law_new_fills : DefIn K mg "_law_new_fills" K8.sNew
  d_law_new_row : DefIn K mg "_law_new_row" K8.sRow
  d_law_random_rows : DefIn K mg "_law_random_rows" K8.sRrs
  d_law_random_record : DefIn K mg "_law_random_record" K8.sRr
  d_law_fixed_records : DefIn K mg "_law_fixed_records" K8.sFix
  d_law_fill_word : DefIn K mg "_law_fill_word" K8.sFw
  d_law_row_words : DefIn K mg "_law_row_words" K8.sRoww
  d_law_page : DefIn K mg "_law_page" K8.sPage
  d_law_loose_row : DefIn K mg "_law_loose_row" K8.sLo
  d_law : DefIn K mg "law" K8.sLaw
theorem law_run {w : World} {P : Program} {K : PySem.W.Frag} {mg : Str → Option Value} (base : Heap) (f : Addr) (cdv : Value) (s : Shared) (H : Hp) (cs : List Int) (d : D8 K mg) (hl : cs.length ≤ 63) :
    Xss (cxOf CX0 P w K mg base NLaw "law" (defScope sLaw) f cdv PySem.callerA [] s H E0).nox (defBody sLaw) (start0 NLaw [.d (.list (cs.map PyData.int))]) [] (fun _ _ => False) (fun y _ => y = .d (.bool true)) := by
  obtain ⟨_, _, F23, m23⟩ := d.d_row_fills
  obtain ⟨_, _, F0, m0⟩ := d.d_row_text
  obtain ⟨_, _, F1, m1⟩ := d.d_record_text
  obtain ⟨_, _, F2, m2⟩ := d.d_row_words
  obtain ⟨_, _, F3, m3⟩ := d.d_fill_text
  obtain ⟨_, _, F4, m4⟩ := d.d_text_or_none
  obtain ⟨_, _, F5, m5⟩ := d.d_law_reader
  obtain ⟨_, _, F6, m6⟩ := d.d_law_draw
  obtain ⟨_, _, F7, m7⟩ := d.d_law_fills
  obtain ⟨_, _, F8, m8⟩ := d.d_law_trades
  obtain ⟨_, _, F9, m9⟩ := d.d_law_rest
  obtain ⟨_, _, F10, m10⟩ := d.d_law_orders
  obtain ⟨_, _, F11, m11⟩ := d.d_law_open
  obtain ⟨_, _, F12, m12⟩ := d.d_law_is_shut
  obtain ⟨_, _, F13, m13⟩ := d.d_law_new_fills
  obtain ⟨_, _, F14, m14⟩ := d.d_law_new_row
  obtain ⟨_, _, F15, m15⟩ := d.d_law_random_rows
  obtain ⟨_, _, F16, m16⟩ := d.d_law_random_record
  obtain ⟨_, _, F17, m17⟩ := d.d_law_fixed_records
  obtain ⟨_, _, F18, m18⟩ := d.d_law_fill_word
  obtain ⟨_, _, F19, m19⟩ := d.d_law_row_words
  obtain ⟨_, _, F20, m20⟩ := d.d_law_page
  obtain ⟨_, _, F21, m21⟩ := d.d_law_loose_row
  obtain ⟨_, _, F22, m22⟩ := d.d_law
  have B := d.bn
  have ton := f_ton (P := P) (w := w) (base := base) F4 m4 B
  have ft := f_ft (P := P) (w := w) (base := base) F3 m3 ton
  have rf := f_rf (P := P) (w := w) (base := base) F23 m23
  have rw' := f_rw F2 m2 B rf ton ft
  have rt := f_rt F0 m0 B rw'
  have rcd := f_rec F1 m1 B rt
  have rdr := f_rdr (P := P) (w := w) (base := base) F5 m5 B
  have draw := f_draw (P := P) (w := w) (base := base) F6 m6 B
  have fils := f_fils (P := P) (w := w) (base := base) F7 m7
  have tr := f_tr F8 m8 B fils
  have rest := f_rest F9 m9 B tr
  have ords := f_ords (P := P) (w := w) (base := base) F10 m10 B
  have open' := f_open F11 m11 B tr ords
  have shut := f_shut (P := P) (w := w) (base := base) F12 m12 B
  have new := f_new F13 m13 B draw open' rest
  have row := f_row F14 m14 B draw shut open' rest new
  have rrs := f_rrs F15 m15 B draw row
  have rr := f_rr F16 m16 B draw rrs
  have fix := f_fix (P := P) (w := w) (base := base) F17 m17
  have fw := f_fw (P := P) (w := w) (base := base) F18 m18 B
  have roww := f_roww F19 m19 B fw fils
  have page := f_page F20 m20 B roww
  have lo := f_lo F21 m21 B draw
  exact RS.imp (law_body B ⟨rfl, by show 1 + PySem.claimMargin + 1 + 3 * 8 + 5 < recursionLimit; decide, by show 4 + 3 + 16 * 8 + 200 < cLine; decide⟩ rfl (by show 4 + 3 + 200 < cLine; decide) rdr draw fix rr lo page roww rcd rt hl (Φ := fun y _ => y = .d (.bool true)) fun _ => rfl) fun _ _ z => nomatch z
end K8
open PySem PySem.W PyProof.Rows
set_option maxHeartbeats 0 in
theorem PySem.Challenge.cw_fairshown_k08_texts_written_holds : PySem.Challenge.rw_fairshown_k08_texts_written.Holds := by
  w_on; o_law; k_head; (case hw => w_witness2)
  k_fill
  refine Fsh.law_end (l := PySem.Challenge.rw_fairshown_k08_texts_written) (n := 63) (k := 8) (x := "_law_script") (st := K8.sLaw) (N := K8.NLaw) rfl (by decide) rfl K8.scLaw ⟨rfl, by decide, by decide⟩ (fun w h Y => PySem.W.kIn_of Y) (fun K f fd F1 => F1.binds fun _ _ _ _ _ _ us hl => match us, hl with | [_], _ => rfl) K8.D8 ?defs (fun K mg d => d.d_law) (fun w K mg base f cdv s H cs d hl => K8.law_run base f cdv s H cs d hl)
  case defs =>
    intro w mg h KX G
    constructor
    case bn => exact ⟨PySem.W.mg_none_of KX G (by k_is), PySem.W.mg_none_of KX G (by k_is), PySem.W.mg_none_of KX G (by k_is), PySem.W.mg_none_of KX G (by k_is), PySem.W.mg_none_of KX G (by k_is), PySem.W.mg_none_of KX G (by k_is), PySem.W.mg_none_of KX G (by k_is), PySem.W.mg_none_of KX G (by k_is), PySem.W.mg_none_of KX G (by k_is)⟩
    case d_row_fills =>
      refine' Fsh.def_mk KX G ?a ?l ?c ?k
      (case a => k_is); (case l => k_is); (case c => k_is); (case k => k_is)
    case d_row_text =>
      refine' Fsh.def_mk KX G ?a ?l ?c ?k
      (case a => k_is); (case l => k_is); (case c => k_is); (case k => k_is)
    case d_record_text =>
      refine' Fsh.def_mk KX G ?a ?l ?c ?k
      (case a => k_is); (case l => k_is); (case c => k_is); (case k => k_is)
    case d_row_words =>
      refine' Fsh.def_mk KX G ?a ?l ?c ?k
      (case a => k_is); (case l => k_is); (case c => k_is); (case k => k_is)
    case d_fill_text =>
      refine' Fsh.def_mk KX G ?a ?l ?c ?k
      (case a => k_is); (case l => k_is); (case c => k_is); (case k => k_is)
    case d_text_or_none =>
      refine' Fsh.def_mk KX G ?a ?l ?c ?k
      (case a => k_is); (case l => k_is); (case c => k_is); (case k => k_is)
    case d_law_reader =>
      refine' Fsh.def_mk KX G ?a ?l ?c ?k
      (case a => k_is); (case l => k_is); (case c => k_is); (case k => k_is)
    case d_law_draw =>
      refine' Fsh.def_mk KX G ?a ?l ?c ?k
      (case a => k_is); (case l => k_is); (case c => k_is); (case k => k_is)
    case d_law_fills =>
      refine' Fsh.def_mk KX G ?a ?l ?c ?k
      (case a => k_is); (case l => k_is); (case c => k_is); (case k => k_is)
    case d_law_trades =>
      refine' Fsh.def_mk KX G ?a ?l ?c ?k
      (case a => k_is); (case l => k_is); (case c => k_is); (case k => k_is)
    case d_law_rest =>
      refine' Fsh.def_mk KX G ?a ?l ?c ?k
      (case a => k_is); (case l => k_is); (case c => k_is); (case k => k_is)
    case d_law_orders =>
      refine' Fsh.def_mk KX G ?a ?l ?c ?k
      (case a => k_is); (case l => k_is); (case c => k_is); (case k => k_is)
    case d_law_open =>
      refine' Fsh.def_mk KX G ?a ?l ?c ?k
      (case a => k_is); (case l => k_is); (case c => k_is); (case k => k_is)
    case d_law_is_shut =>
      refine' Fsh.def_mk KX G ?a ?l ?c ?k
      (case a => k_is); (case l => k_is); (case c => k_is); (case k => k_is)
    case d_law_new_fills =>
      refine' Fsh.def_mk KX G ?a ?l ?c ?k
      (case a => k_is); (case l => k_is); (case c => k_is); (case k => k_is)
    case d_law_new_row =>
      refine' Fsh.def_mk KX G ?a ?l ?c ?k
      (case a => k_is); (case l => k_is); (case c => k_is); (case k => k_is)
    case d_law_random_rows =>
      refine' Fsh.def_mk KX G ?a ?l ?c ?k
      (case a => k_is); (case l => k_is); (case c => k_is); (case k => k_is)
    case d_law_random_record =>
      refine' Fsh.def_mk KX G ?a ?l ?c ?k
      (case a => k_is); (case l => k_is); (case c => k_is); (case k => k_is)
    case d_law_fixed_records =>
      refine' Fsh.def_mk KX G ?a ?l ?c ?k
      (case a => k_is); (case l => k_is); (case c => k_is); (case k => k_is)
    case d_law_fill_word =>
      refine' Fsh.def_mk KX G ?a ?l ?c ?k
      (case a => k_is); (case l => k_is); (case c => k_is); (case k => k_is)
    case d_law_row_words =>
      refine' Fsh.def_mk KX G ?a ?l ?c ?k
      (case a => k_is); (case l => k_is); (case c => k_is); (case k => k_is)
    case d_law_page =>
      refine' Fsh.def_mk KX G ?a ?l ?c ?k
      (case a => k_is); (case l => k_is); (case c => k_is); (case k => k_is)
    case d_law_loose_row =>
      refine' Fsh.def_mk KX G ?a ?l ?c ?k
      (case a => k_is); (case l => k_is); (case c => k_is); (case k => k_is)
    case d_law =>
      refine' Fsh.def_mk KX G ?a ?l ?c ?k
      (case a => k_is); (case l => k_is); (case c => k_is); (case k => k_is)

