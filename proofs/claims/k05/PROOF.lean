import PyProof.Rows.All
import Wide.All
import OpenK.AllK
import Wide.FinOn
import HandS.ForMost
import HandS.FStr
import HandS.TupAny
import HandS.TupMul
import HandS.Evl
import HandS.Lambda
import PyProof.ReprRoads
import PyProof.AutoSeq1
import HandS.IsInst
import HandS.Walk
import HandS.Zip
import HandS.Steps
import HandS.ExcInit
import HandS.ExcField
import HandS.ExcIs
import HandS.WordsExc
import HandS.HotCalls
import KE.KExcIs
import HandS.EndTab
import KE.KNestM
import HandS.Set
import HandS.SetBool
import HandS.SetFor
import HandS.Strs
import KE.GoesMore
import HandS.Deep
import PySem.Challenge.RW_fairshown_k05_views_rules_and_beginnings
set_option Elab.async false
set_option linter.all false
set_option maxRecDepth 100000
/-! A program logic over data: what an expression gives, told by plain data, an environment and a store. -/
namespace Fsh
open PySem PySem.Spec PyProof.Rows L2
abbrev Ex := Evl.Ex

/-! ### data in a heap that is never written -/
mutual
inductive Rp (K : PySem.W.Frag) (B : Hp) : V → PyData → Prop
  | rnon : Rp K B .non .none
  | rbl (t : Bool) : Rp K B (.bl t) (.bool t)
  | rint (n : Int) : Rp K B (.int n) (.int n)
  | rstr (z : Str) : Rp K B (.str z) (.str z)
  | rlst {p : Addr} {vs : List V} {ds : List PyData} (h : SqL K B p vs) (r : Rps K B vs ds) : Rp K B (.ref p) (.list ds)
  | rtup {p : Addr} {vs : List V} {ds : List PyData} (h : SqT K B p vs) (r : Rps K B vs ds) : Rp K B (.ref p) (.tuple ds)
inductive Rps (K : PySem.W.Frag) (B : Hp) : List V → List PyData → Prop
  | nil : Rps K B [] []
  | cons {v : V} {d : PyData} {vs : List V} {ds : List PyData} (h : Rp K B v d) (r : Rps K B vs ds) : Rps K B (v :: vs) (d :: ds)
end
section
variable {K : PySem.W.Frag} {B B2 : Hp}
mutual
theorem Rp.mono (e : Ex B B2) : ∀ {v : V} {d : PyData}, Rp K B v d → Rp K B2 v d
  | _, _, .rnon => .rnon
  | _, _, .rbl t => .rbl t
  | _, _, .rint n => .rint n
  | _, _, .rstr z => .rstr z
  | _, _, .rlst h r => .rlst (Evl.ex_l e h) (Rps.mono e r)
  | _, _, .rtup h r => .rtup (Evl.ex_t e h) (Rps.mono e r)
theorem Rps.mono (e : Ex B B2) : ∀ {vs : List V} {ds : List PyData}, Rps K B vs ds → Rps K B2 vs ds
  | _, _, .nil => .nil
  | _, _, .cons h r => .cons (Rp.mono e h) (Rps.mono e r)
end
theorem Rps.len : ∀ {vs : List V} {ds : List PyData}, Rps K B vs ds → vs.length = ds.length
  | _, _, .nil => rfl
  | _, _, .cons _ r => congrArg Nat.succ r.len
theorem Rps.at : ∀ {vs : List V} {ds : List PyData} {i : Nat} {d : PyData}, Rps K B vs ds → ds[i]? = some d → ∃ v, vs[i]? = some v ∧ Rp K B v d
  | _, _, _, _, .nil, h => by simp at h
  | _, _, 0, _, .cons h _, e => by
    simp at e
    subst e
    exact ⟨_, rfl, h⟩
  | _, _, i + 1, _, .cons _ r, e => by
    obtain ⟨v, h1, h2⟩ := r.at (i := i) (by simpa using e)
    exact ⟨v, by simpa using h1, h2⟩
theorem Rps.back : ∀ {vs : List V} {ds : List PyData} {i : Nat} {v : V}, Rps K B vs ds → vs[i]? = some v → ∃ d, ds[i]? = some d ∧ Rp K B v d
  | _, _, _, _, .nil, h => by simp at h
  | _, _, 0, _, .cons h _, e => by
    simp at e
    subst e
    exact ⟨_, rfl, h⟩
  | _, _, i + 1, _, .cons _ r, e => by
    obtain ⟨v, h1, h2⟩ := r.back (i := i) (by simpa using e)
    exact ⟨v, by simpa using h1, h2⟩
theorem Rps.app : ∀ {vs ws : List V} {ds es : List PyData}, Rps K B vs ds → Rps K B ws es → Rps K B (vs ++ ws) (ds ++ es)
  | _, _, _, _, .nil, s => s
  | _, _, _, _, .cons h r, s => .cons h (r.app s)
theorem Rps.drop : ∀ {vs : List V} {ds : List PyData} (n : Nat), Rps K B vs ds → Rps K B (vs.drop n) (ds.drop n)
  | _, _, 0, r => r
  | _, _, _ + 1, .nil => .nil
  | _, _, n + 1, .cons _ r => r.drop n
theorem Rps.take : ∀ {vs : List V} {ds : List PyData} (n : Nat), Rps K B vs ds → Rps K B (vs.take n) (ds.take n)
  | _, _, 0, _ => .nil
  | _, _, _ + 1, .nil => .nil
  | _, _, n + 1, .cons h r => .cons h (r.take n)
theorem Rps.strs : ∀ {l : List Str} {vs : List V}, Rps K B vs (l.map PyData.str) → vs = l.map V.str
  | [], _, .nil => rfl
  | x :: l, _, .cons h r => by
    cases h
    rw [Rps.strs r]
    rfl
theorem Rps.ints : ∀ {l : List Int} {vs : List V}, Rps K B vs (l.map PyData.int) → vs = l.map V.int
  | [], _, .nil => rfl
  | x :: l, _, .cons h r => by
    cases h
    rw [Rps.ints r]
    rfl
theorem Rps.of_ints : ∀ (l : List Int), Rps K B (l.map V.int) (l.map PyData.int)
  | [] => .nil
  | x :: l => .cons (.rint x) (Rps.of_ints l)
mutual
theorem Rp.dp : ∀ {v : V} {d : PyData}, Rp K B v d → Dp K B v d
  | _, _, .rnon => .non
  | _, _, .rbl t => .bl t
  | _, _, .rint n => .int n
  | _, _, .rstr z => .str z
  | _, _, .rlst h r => .lst h (Rps.dp r)
  | _, _, .rtup h r => .tup h (Rps.dp r)
theorem Rps.dp : ∀ {vs : List V} {ds : List PyData}, Rps K B vs ds → DpAll K B vs ds
  | _, _, .nil => .nil
  | _, _, .cons h r => .cons (Rp.dp h) (Rps.dp r)
end
/-! data without a list in it -/
mutual
def noL : PyData → Bool
  | .list _ => false
  | .dict _ => false
  | .tuple xs => noLs xs
  | .none => true
  | .bool _ => true
  | .int _ => true
  | .str _ => true
def noLs : List PyData → Bool
  | [] => true
  | d :: ds => noL d && noLs ds
end
def del (B : Hp) (l : Addr) : Hp := fun q => if q = l then none else B q
theorem del_ne {l q : Addr} (h : q ≠ l) : del B l q = B q := if_neg h
theorem del_at {l : Addr} : del B l l = none := if_pos rfl
theorem ex_del {l : Addr} (e : Ex B B2) (h : B l = none) : Ex B (del B2 l) := fun q o hq => by
  rw [del_ne (ne_of_none hq h)]
  exact e q o hq
theorem ex_of_del {l : Addr} : Ex (del B l) B := fun q o hq => by
  by_cases h : q = l
  · subst h
    rw [del_at] at hq
    cases hq
  · rw [del_ne h] at hq
    exact hq
mutual
theorem Rp.del {l : Addr} {zs : List V} (hl : B l = some (.lst zs)) : ∀ {v : V} {d : PyData}, Rp K B v d → noL d = true → Rp K (del B l) v d
  | _, _, .rnon, _ => .rnon
  | _, _, .rbl t, _ => .rbl t
  | _, _, .rint n, _ => .rint n
  | _, _, .rstr z, _ => .rstr z
  | _, _, .rlst _ _, h => by simp [noL] at h
  | _, _, .rtup (p := p) (vs := vs) h r, hn => by
    refine .rtup ?_ (Rps.del hl r (by simpa [noL] using hn))
    rcases h with (h | ⟨o, h⟩) | h
    · refine .inl (.inl ?_)
      rw [del_ne (ne_of h hl (by intro q; cases q))]
      exact h
    · refine .inl (.inr ⟨o, ?_⟩)
      rw [del_ne (ne_of h hl (by intro q; cases q))]
      exact h
    · exact .inr h
theorem Rps.del {l : Addr} {zs : List V} (hl : B l = some (.lst zs)) : ∀ {vs : List V} {ds : List PyData}, Rps K B vs ds → noLs ds = true → Rps K (del B l) vs ds
  | _, _, .nil, _ => .nil
  | _, _, .cons h r, hn => by
    rw [noLs, Bool.and_eq_true] at hn
    exact .cons (Rp.del hl h hn.1) (Rps.del hl r hn.2)
end
end

/-! ### values of slots, the store -/
inductive DV where
  | d (x : PyData)
  | a (p : Addr)
  | lam (f c : Addr) (q : Str) (vs : List V) (ds : List PyData)
inductive Cell where
  | lst (xs : List PyData)
  | dct (kvs : List (Key × DV))
  | xd (fs : List (Str × DV))
  | tab (q : Str)
abbrev Store := List (Addr × Cell)
abbrev Env := List (Option DV)
abbrev Pst := DV → Store → Prop

def Rv (K : PySem.W.Frag) (B : Hp) : V → DV → Prop
  | v, .d x => Rp K B v x
  | v, .a p => v = .ref p
  | v, .lam f c q vs ds => v = .ref f ∧ B c = some (LamX.CodeO c q) ∧ Rps K B vs ds
inductive Kvs (K : PySem.W.Frag) (B : Hp) : List (Key × V) → List (Key × DV) → Prop
  | nil : Kvs K B [] []
  | cons {k : Key} {v : V} {x : DV} {r : List (Key × V)} {t : List (Key × DV)} (h : Rv K B v x) (q : Kvs K B r t) : Kvs K B ((k, v) :: r) ((k, x) :: t)
inductive Fvs (K : PySem.W.Frag) (B : Hp) : List (Str × V) → List (Str × DV) → Prop
  | nil : Fvs K B [] []
  | cons {k : Str} {v : V} {x : DV} {r : List (Str × V)} {t : List (Str × DV)} (h : Rv K B v x) (q : Fvs K B r t) : Fvs K B ((k, v) :: r) ((k, x) :: t)
def CellOk (K : PySem.W.Frag) (B H : Hp) (p : Addr) : Cell → Prop
  | .lst xs => ∃ vs, H p = some (.lst vs) ∧ Rps K B vs xs
  | .dct kvs => ∃ ws, H p = some (.dK ws) ∧ Kvs K B ws kvs
  | .xd fs => ∃ ws, H p = some (.xd ws) ∧ Fvs K B ws fs
  | .tab q => ∃ ps, H p = some (.tbl ps) ∧ TriplesOk ps.toList ∧ ∀ (pos : Pos) (cv : Value), codeAmong pos ps.toList = some cv → ∃ c, cv = .ref c ∧ B c = some (LamX.CodeO c q)
structure Cfg (K : PySem.W.Frag) (F : Hp) (G : Store) (B H : Hp) : Prop where
  ex : Ex B H
  fr : Ex F H
  ce : ∀ p ∈ G, CellOk K B H p.1 p.2
  fb : ∀ q, F q ≠ none → B q = none
  gb : ∀ p ∈ G, B p.1 = none
  gf : ∀ p ∈ G, F p.1 = none
  nd : (G.map (·.1)).Nodup
section
variable {K : PySem.W.Frag} {F B B2 H H2 : Hp} {G G1 G2 : Store} {p q : Addr}
theorem Rv.mono (e : Ex B B2) {v : V} {x : DV} (h : Rv K B v x) : Rv K B2 v x := by
  cases x with
  | d x => exact Rp.mono e h
  | a p => exact h
  | lam f c q vs ds => exact ⟨h.1, e _ _ h.2.1, Rps.mono e h.2.2⟩
theorem Kvs.mono (e : Ex B B2) : ∀ {ws : List (Key × V)} {kvs : List (Key × DV)}, Kvs K B ws kvs → Kvs K B2 ws kvs
  | _, _, .nil => .nil
  | _, _, .cons h q => .cons (h.mono e) (q.mono e)
theorem Fvs.mono (e : Ex B B2) : ∀ {ws : List (Str × V)} {fs : List (Str × DV)}, Fvs K B ws fs → Fvs K B2 ws fs
  | _, _, .nil => .nil
  | _, _, .cons h q => .cons (h.mono e) (q.mono e)
theorem CellOk.mono (e : Ex B B2) {c : Cell} (h : CellOk K B H p c) (s : H2 p = H p) : CellOk K B2 H2 p c := by
  cases c with
  | lst xs =>
    obtain ⟨vs, a, b⟩ := h
    exact ⟨vs, s.trans a, b.mono e⟩
  | dct kvs =>
    obtain ⟨ws, a, b⟩ := h
    exact ⟨ws, s.trans a, b.mono e⟩
  | xd fs =>
    obtain ⟨ws, a, b⟩ := h
    exact ⟨ws, s.trans a, b.mono e⟩
  | tab q =>
    obtain ⟨ps, a, b, c⟩ := h
    exact ⟨ps, s.trans a, b, fun pos cv hc => let ⟨x, e1, e2⟩ := c pos cv hc; ⟨x, e1, e x _ e2⟩⟩
theorem CellOk.there {c : Cell} (h : CellOk K B H p c) : H p ≠ none := by
  cases c with
  | lst xs =>
    obtain ⟨vs, a, b⟩ := h
    rw [a]
    exact fun z => nomatch z
  | dct kvs =>
    obtain ⟨ws, a, b⟩ := h
    rw [a]
    exact fun z => nomatch z
  | xd fs =>
    obtain ⟨ws, a, b⟩ := h
    rw [a]
    exact fun z => nomatch z
  | tab q =>
    obtain ⟨ps, a, b⟩ := h
    rw [a]
    exact fun z => nomatch z
theorem Ex.free (e : Ex B H) (h : H p = none) : B p = none := by
  cases z : B p with
  | none => rfl
  | some o =>
    rw [e p o z] at h
    cases h
theorem Ex.new (e : Ex B H) (h : H p = none) (o : HO) : Ex (upd B p o) (upd H p o) := fun c u z => by
  by_cases hc : c = p
  · subst hc
    rw [upd_same] at z ⊢
    exact z
  · rw [upd_ne hc] at z ⊢
    exact e c u z
theorem Ex.out (e : Ex B H) (h : B p = none) (o : HO) : Ex B (upd H p o) := fun c u z => by
  rw [upd_ne (ne_of_none z h)]
  exact e c u z
theorem ex_new (h : B p = none) (o : HO) : Ex B (upd B p o) := Ex.out (Evl.Ex.refl B) h o
theorem Cfg.neG (c : Cfg K F G B H) (hp : H p = none) : ∀ x ∈ G, x.1 ≠ p := fun x hx z => (c.ce x hx).there (z ▸ hp)
/-- a new object that is data -/
theorem Cfg.new (c : Cfg K F G B H) (hp : H p = none) (o : HO) : Cfg K F G (upd B p o) (upd H p o) where
  ex := Ex.new c.ex hp o
  fr := Ex.out c.fr (Ex.free c.fr hp) o
  ce := fun x hx => (c.ce x hx).mono (ex_new (Ex.free c.ex hp) o) (upd_ne (c.neG hp x hx))
  fb := fun y hy => by
    have ne : y ≠ p := fun z => hy (z ▸ Ex.free c.fr hp)
    rw [upd_ne ne]
    exact c.fb y hy
  gb := fun x hx => by
    rw [upd_ne (c.neG hp x hx)]
    exact c.gb x hx
  gf := c.gf
  nd := c.nd
/-- a new object that is a cell -/
theorem Cfg.cell (c : Cfg K F G B H) (hp : H p = none) {o : HO} {x : Cell} (hx : CellOk K B (upd H p o) p x) : Cfg K F ((p, x) :: G) B (upd H p o) where
  ex := Ex.out c.ex (Ex.free c.ex hp) o
  fr := Ex.out c.fr (Ex.free c.fr hp) o
  ce := fun y hy => by
    rcases List.mem_cons.mp hy with z | z
    · subst z
      exact hx
    · exact (c.ce y z).mono (Evl.Ex.refl B) (upd_ne (c.neG hp y z))
  fb := c.fb
  gb := fun y hy => by
    rcases List.mem_cons.mp hy with z | z
    · subst z
      exact Ex.free c.ex hp
    · exact c.gb y z
  gf := fun y hy => by
    rcases List.mem_cons.mp hy with z | z
    · subst z
      exact Ex.free c.fr hp
    · exact c.gf y z
  nd := by
    rw [List.map_cons, List.nodup_cons]
    refine ⟨fun z => ?_, c.nd⟩
    obtain ⟨y, hy, e⟩ := List.mem_map.mp z
    exact c.neG hp y hy e
/-- a cell is written -/
theorem Cfg.set {x x' : Cell} (c : Cfg K F (G1 ++ (p, x) :: G2) B H) {o : HO} (hx : CellOk K B (upd H p o) p x') : Cfg K F (G1 ++ (p, x') :: G2) B (upd H p o) := by
  have me : (p, x) ∈ G1 ++ (p, x) :: G2 := List.mem_append_right _ List.mem_cons_self
  have nB : B p = none := c.gb _ me
  have nF : F p = none := c.gf _ me
  have nd := c.nd
  rw [List.map_append, List.map_cons, List.nodup_append] at nd
  have ne : ∀ y, y ∈ G1 ∨ y ∈ G2 → y.1 ≠ p := fun y hy z => by
    rcases hy with hy | hy
    · exact nd.2.2 y.1 (List.mem_map.mpr ⟨y, hy, rfl⟩) p List.mem_cons_self z
    · exact (List.nodup_cons.mp nd.2.1).1 (List.mem_map.mpr ⟨y, hy, z⟩)
  have old : ∀ y, y ∈ G1 ∨ y ∈ G2 → y ∈ G1 ++ (p, x) :: G2 := fun y hy => by
    rcases hy with hy | hy
    · exact List.mem_append_left _ hy
    · exact List.mem_append_right _ (List.mem_cons_of_mem _ hy)
  have cs : ∀ y ∈ G1 ++ (p, x') :: G2, y = (p, x') ∨ y ∈ G1 ∨ y ∈ G2 := fun y hy => by
    rcases List.mem_append.mp hy with z | z
    · exact .inr (.inl z)
    · rcases List.mem_cons.mp z with z | z
      · exact .inl z
      · exact .inr (.inr z)
  refine ⟨Ex.out c.ex nB o, Ex.out c.fr nF o, fun y hy => ?_, c.fb, fun y hy => ?_, fun y hy => ?_, ?_⟩
  · rcases cs y hy with z | z
    · subst z
      exact hx
    · exact (c.ce y (old y z)).mono (Evl.Ex.refl B) (upd_ne (ne y z))
  · rcases cs y hy with z | z
    · subst z
      exact nB
    · exact c.gb y (old y z)
  · rcases cs y hy with z | z
    · subst z
      exact nF
    · exact c.gf y (old y z)
  · have h := c.nd
    rw [List.map_append, List.map_cons] at h ⊢
    exact h
/-- the frame: a callee sees a part of the store -/
theorem Cfg.frame (c : Cfg K F (G1 ++ G2) B H) : ∃ F', Cfg K F' G2 B H ∧ ∀ G3 B2 H2, Ex B B2 → Cfg K F' G3 B2 H2 → Cfg K F (G1 ++ G3) B2 H2 := by
  let F' : Hp := fun a => match F a with
    | some o => some o
    | none => if a ∈ G1.map (·.1) then H a else none
  have f1 : ∀ a, a ∈ G1.map (·.1) → F' a = H a := fun a ha => by
    obtain ⟨y, hy, e⟩ := List.mem_map.mp ha
    have nF : F a = none := e ▸ c.gf y (List.mem_append_left _ hy)
    show (match F a with | some o => some o | none => if a ∈ G1.map (·.1) then H a else none) = H a
    rw [nF]
    exact if_pos ha
  have f2 : ∀ a o, F a = some o → F' a = some o := fun a o h => by
    show (match F a with | some o => some o | none => if a ∈ G1.map (·.1) then H a else none) = some o
    rw [h]
  have f3 : ∀ a, F' a ≠ none → F a ≠ none ∨ a ∈ G1.map (·.1) := fun a h => by
    by_cases ha : a ∈ G1.map (·.1)
    · exact .inr ha
    · refine .inl fun z => h ?_
      show (match F a with | some o => some o | none => if a ∈ G1.map (·.1) then H a else none) = none
      rw [z]
      exact if_neg ha
  have f4 : Ex F' H := fun a o h => by
    rcases f3 a (by rw [h]; exact fun z => nomatch z) with z | z
    · cases y : F a with
      | none => exact absurd y z
      | some u =>
        rw [f2 a u y] at h
        cases h
        exact c.fr a _ y
    · rw [f1 a z] at h
      exact h
  have nd := c.nd
  rw [List.map_append, List.nodup_append] at nd
  refine ⟨F', ⟨c.ex, f4, fun y hy => c.ce y (List.mem_append_right _ hy), fun a h => ?_, fun y hy => c.gb y (List.mem_append_right _ hy), fun y hy => ?_, nd.2.1⟩, fun G3 B2 H2 e c2 => ?_⟩
  · rcases f3 a h with z | z
    · exact c.fb a z
    · obtain ⟨y, hy, e⟩ := List.mem_map.mp z
      exact e ▸ c.gb y (List.mem_append_left _ hy)
  · cases z : F' y.1 with
    | none => rfl
    | some o =>
      rcases f3 y.1 (by rw [z]; exact fun z => nomatch z) with w | w
      · exact absurd (c.gf y (List.mem_append_right _ hy)) w
      · exact absurd rfl (nd.2.2 y.1 w y.1 (List.mem_map.mpr ⟨y, hy, rfl⟩))
  · have t1 : ∀ y ∈ G1, F' y.1 ≠ none := fun y hy z => by
      rw [f1 y.1 (List.mem_map.mpr ⟨y, hy, rfl⟩)] at z
      exact (c.ce y (List.mem_append_left _ hy)).there z
    have t2 : ∀ y ∈ G1, H2 y.1 = H y.1 := fun y hy => by
      have h1 := f1 y.1 (List.mem_map.mpr ⟨y, hy, rfl⟩)
      cases z : F' y.1 with
      | none => exact absurd z (t1 y hy)
      | some o => rw [c2.fr _ _ z, ← h1, z]
    refine ⟨c2.ex, fun a o h => c2.fr a o (f2 a o h), fun y hy => ?_, fun a h => c2.fb a ?_, fun y hy => ?_, fun y hy => ?_, ?_⟩
    · rcases List.mem_append.mp hy with z | z
      · exact (c.ce y (List.mem_append_left _ z)).mono e (t2 y z)
      · exact c2.ce y z
    · cases z : F a with
      | none => exact absurd z h
      | some o =>
        rw [f2 a o z]
        exact fun z => nomatch z
    · rcases List.mem_append.mp hy with z | z
      · exact c2.fb _ (t1 y z)
      · exact c2.gb y z
    · rcases List.mem_append.mp hy with z | z
      · exact c.gf y (List.mem_append_left _ z)
      · cases w : F y.1 with
        | none => rfl
        | some o =>
          have := c2.gf y z
          rw [f2 _ _ w] at this
          cases this
    · rw [List.map_append, List.nodup_append]
      refine ⟨nd.1, c2.nd, fun a ha b hb z => ?_⟩
      subst z
      obtain ⟨y, hy, e1⟩ := List.mem_map.mp ha
      obtain ⟨x, hx, e2⟩ := List.mem_map.mp hb
      have h1 := t1 y hy
      have h2 := c2.gf x hx
      rw [e1] at h1
      rw [e2] at h2
      exact h1 h2
/-- a list of the store is taken as data -/
theorem Cfg.freeze {xs : List PyData} (c : Cfg K F ((p, .lst xs) :: G) B H) : ∃ vs, B p = none ∧ Rps K B vs xs ∧ Cfg K F G (upd B p (.lst vs)) H := by
  obtain ⟨vs, h1, h2⟩ := c.ce (p, .lst xs) List.mem_cons_self
  have nB := c.gb (p, .lst xs) List.mem_cons_self
  have nF := c.gf (p, .lst xs) List.mem_cons_self
  have nd := List.nodup_cons.mp (show (p :: G.map (·.1)).Nodup from c.nd)
  have ne : ∀ y ∈ G, y.1 ≠ p := fun y hy z => nd.1 (List.mem_map.mpr ⟨y, hy, z⟩)
  refine ⟨vs, nB, h2, fun a o h => ?_, c.fr, fun y hy => (c.ce y (List.mem_cons_of_mem _ hy)).mono (ex_new nB _) rfl, fun a h => ?_, fun y hy => ?_, fun y hy => c.gf y (List.mem_cons_of_mem _ hy), nd.2⟩
  · by_cases z : a = p
    · subst z
      rw [upd_same] at h
      cases h
      exact h1
    · rw [upd_ne z] at h
      exact c.ex a o h
  · have z : a ≠ p := fun z => h (z ▸ nF)
    rw [upd_ne z]
    exact c.fb a h
  · rw [upd_ne (ne y hy)]
    exact c.gb y (List.mem_cons_of_mem _ hy)
def noLc : Cell → Bool
  | .lst xs => noLs xs
  | .dct kvs => kvs.all fun kv => match kv.2 with
    | .d x => noL x
    | .a _ => true
    | .lam _ _ _ _ ds => noLs ds
  | .xd _ => false
  | .tab _ => true
def noLv : DV → Bool
  | .d x => noL x
  | .a _ => true
  | .lam _ _ _ _ ds => noLs ds
theorem Rv.del {zs : List V} (hl : B p = some (.lst zs)) {v : V} {x : DV} (h : Rv K B v x) (n : noLv x = true) : Rv K (del B p) v x := by
  cases x with
  | d x => exact Rp.del hl h n
  | a q => exact h
  | lam f c q vs ds =>
    refine ⟨h.1, ?_, Rps.del hl h.2.2 n⟩
    rw [del_ne (ne_of h.2.1 hl fun z => by unfold LamX.CodeO at z; cases z)]
    exact h.2.1
theorem Kvs.del {zs : List V} (hl : B p = some (.lst zs)) : ∀ {ws : List (Key × V)} {kvs : List (Key × DV)}, Kvs K B ws kvs → noLc (.dct kvs) = true → Kvs K (del B p) ws kvs
  | _, _, .nil, _ => .nil
  | _, _, .cons (x := x) (t := t) h q, n => by
    have n' : (noLv x && noLc (.dct t)) = true := by
      cases x <;> exact n
    rw [Bool.and_eq_true] at n'
    exact .cons (h.del hl n'.1) (q.del hl n'.2)
theorem CellOk.del {zs : List V} (hl : B p = some (.lst zs)) {c : Cell} (h : CellOk K B H q c) (n : noLc c = true) : CellOk K (del B p) H q c := by
  cases c with
  | lst xs =>
    obtain ⟨vs, a, b⟩ := h
    exact ⟨vs, a, b.del hl n⟩
  | dct kvs =>
    obtain ⟨ws, a, b⟩ := h
    exact ⟨ws, a, b.del hl n⟩
  | xd fs => cases n
  | tab q =>
    obtain ⟨ps, a, b, c⟩ := h
    exact ⟨ps, a, b, fun pos cv hc => by
      obtain ⟨x, e1, e2⟩ := c pos cv hc
      refine ⟨x, e1, ?_⟩
      rw [del_ne (ne_of e2 hl fun z => by unfold LamX.CodeO at z; cases z)]
      exact e2⟩
/-- and back -/
theorem Cfg.thaw {xs : List PyData} {vs : List V} (nB : B p = none) (nF : F p = none) (r : Rps K B vs xs) (e : Ex (upd B p (.lst vs)) B2) (c : Cfg K F G2 B2 H2) (n : ∀ y ∈ G2, noLc y.2 = true) :
    Cfg K F ((p, .lst xs) :: G2) (del B2 p) H2 ∧ Ex B (del B2 p) := by
  have hl : B2 p = some (.lst vs) := e _ _ upd_same
  have eB : Ex B (del B2 p) := ex_del (fun a o h => e a o (ex_new nB _ a o h)) nB
  have ne : ∀ y ∈ G2, y.1 ≠ p := fun y hy z => by
    have := c.gb y hy
    rw [z, hl] at this
    cases this
  refine ⟨⟨fun a o h => c.ex a o (ex_of_del a o h), c.fr, fun y hy => ?_, fun a h => ?_, fun y hy => ?_, fun y hy => ?_, ?_⟩, eB⟩
  · rcases List.mem_cons.mp hy with z | z
    · subst z
      exact ⟨vs, c.ex _ _ hl, r.mono eB⟩
    · exact (c.ce y z).del hl (n y z)
  · by_cases z : a = p
    · subst z
      exact del_at
    · rw [del_ne z]
      exact c.fb a h
  · rcases List.mem_cons.mp hy with z | z
    · subst z
      exact del_at
    · rw [del_ne (ne y z)]
      exact c.gb y z
  · rcases List.mem_cons.mp hy with z | z
    · subst z
      exact nF
    · exact c.gf y z
  · rw [List.map_cons, List.nodup_cons]
    refine ⟨fun z => ?_, c.nd⟩
    obtain ⟨y, hy, e⟩ := List.mem_map.mp z
    exact ne y hy e
end
end Fsh

set_option Elab.async false
set_option linter.all false
set_option maxRecDepth 100000
namespace Fsh
open PySem PySem.Spec PyProof.Rows L2

/-! ### slots -/
def Slots (K : PySem.W.Frag) (B : Hp) (σ : L2.St) (ρ : Env) : Prop := σ.length = ρ.length ∧ ∀ (i : Nat) (x : DV), ρ[i]? = some (some x) → ∃ v, σ[i]? = some (some v) ∧ Rv K B v x
def wipeE (ρ : Env) : List Nat → Env
  | [] => ρ
  | v :: vs => (wipeE ρ vs).set v none
section
variable {K : PySem.W.Frag} {B B2 : Hp} {σ : L2.St} {ρ : Env}
theorem Slots.mono (e : Ex B B2) (s : Slots K B σ ρ) : Slots K B2 σ ρ := ⟨s.1, fun i x h => let ⟨v, a, b⟩ := s.2 i x h; ⟨v, a, b.mono e⟩⟩
theorem Slots.set {v : V} {x : DV} (s : Slots K B σ ρ) (r : Rv K B v x) (i : Nat) : Slots K B (σ.set i (some v)) (ρ.set i (some x)) := by
  refine ⟨by rw [List.length_set, List.length_set]; exact s.1, fun j y h => ?_⟩
  by_cases e : j = i
  · subst e
    have hj : j < ρ.length := by
      have := (List.getElem?_eq_some_iff.mp h).1
      rw [List.length_set] at this
      exact this
    rw [List.getElem?_set_self hj] at h
    have h' : x = y := Option.some.inj (Option.some.inj h)
    subst h'
    exact ⟨v, List.getElem?_set_self (by rw [s.1]; exact hj), r⟩
  · rw [List.getElem?_set_ne (Ne.symm e)] at h
    obtain ⟨w, a, b⟩ := s.2 j y h
    exact ⟨w, by rw [List.getElem?_set_ne (Ne.symm e)]; exact a, b⟩
theorem Slots.clear (s : Slots K B σ ρ) (i : Nat) : Slots K B (σ.set i none) (ρ.set i none) := by
  refine ⟨by rw [List.length_set, List.length_set]; exact s.1, fun j y h => ?_⟩
  by_cases e : j = i
  · subst e
    have hj : j < ρ.length := by
      have := (List.getElem?_eq_some_iff.mp h).1
      rw [List.length_set] at this
      exact this
    rw [List.getElem?_set_self hj] at h
    cases h
  · rw [List.getElem?_set_ne (Ne.symm e)] at h
    obtain ⟨w, a, b⟩ := s.2 j y h
    exact ⟨w, by rw [List.getElem?_set_ne (Ne.symm e)]; exact a, b⟩
theorem Slots.wiped (s : Slots K B σ ρ) : ∀ vs : List Nat, Slots K B (wipe σ vs) (wipeE ρ vs)
  | [] => s
  | v :: vs => (s.wiped vs).clear v
theorem wipe_at (σ : L2.St) : ∀ (vs : List Nat) (i : Nat), (wipe σ vs)[i]? = if i ∈ vs then (σ[i]?).map (fun _ => none) else σ[i]?
  | [], i => by simp [wipe]
  | v :: vs, i => by
    unfold wipe
    by_cases e : i = v
    · subst e
      rw [List.getElem?_set, if_pos rfl, wipe_length, if_pos (List.mem_cons_self)]
      by_cases h : i < σ.length
      · rw [if_pos h, List.getElem?_eq_getElem h]
        rfl
      · rw [if_neg h, List.getElem?_eq_none (by omega)]
        rfl
    · rw [List.getElem?_set_ne (Ne.symm e), wipe_at σ vs i]
      have : (i ∈ v :: vs) ↔ i ∈ vs := by simp [e]
      simp only [this]
theorem wipe_set {vs : List Nat} {j : Nat} (h : j ∈ vs) (x : Option V) : wipe (σ.set j x) vs = wipe σ vs := by
  apply List.ext_getElem?
  intro i
  rw [wipe_at, wipe_at]
  by_cases e : i = j
  · subst e
    rw [if_pos h, if_pos h, List.getElem?_set, if_pos rfl]
    by_cases h2 : i < σ.length
    · rw [if_pos h2, List.getElem?_eq_getElem h2]
      rfl
    · rw [if_neg h2, List.getElem?_eq_none (by omega)]
  · rw [List.getElem?_set_ne (Ne.symm e)]
theorem wipe_wipe (vs : List Nat) : wipe (wipe σ vs) vs = wipe σ vs := by
  apply List.ext_getElem?
  intro i
  rw [wipe_at, wipe_at]
  by_cases h : i ∈ vs
  · rw [if_pos h, if_pos h]
    cases σ[i]? <;> rfl
  · rw [if_neg h, if_neg h]
end

/-! ### judgements -/
def Kp (K : PySem.W.Frag) (F B : Hp) (Φ : Pst) (Q : VK) : Prop := ∀ v x G2 B2 H2, Ex B B2 → Cfg K F G2 B2 H2 → Rv K B2 v x → Φ x G2 → Q v H2
def R (K : PySem.W.Frag) (t : TE) (ρ : Env) (G : Store) (Φ : Pst) : Prop := ∀ F σ B H Q, Cfg K F G B H → Slots K B σ ρ → Kp K F B Φ Q → t σ H Q
def KpT (K : PySem.W.Frag) (F B : Hp) (Φ : Bool → Store → Prop) (Q : Bool → Hp → Prop) : Prop := ∀ b G2 B2 H2, Ex B B2 → Cfg K F G2 B2 H2 → Φ b G2 → Q b H2
def RT (K : PySem.W.Frag) (t : TT) (ρ : Env) (G : Store) (Φ : Bool → Store → Prop) : Prop := ∀ F σ B H Q, Cfg K F G B H → Slots K B σ ρ → KpT K F B Φ Q → t σ H Q
inductive Rvs (K : PySem.W.Frag) (B : Hp) : List V → List DV → Prop
  | nil : Rvs K B [] []
  | cons {v : V} {x : DV} {vs : List V} {xs : List DV} (h : Rv K B v x) (r : Rvs K B vs xs) : Rvs K B (v :: vs) (x :: xs)
theorem Rvs.mono {K : PySem.W.Frag} {B B2 : Hp} (e : Ex B B2) : ∀ {vs : List V} {xs : List DV}, Rvs K B vs xs → Rvs K B2 vs xs
  | _, _, .nil => .nil
  | _, _, .cons h r => .cons (h.mono e) (r.mono e)
theorem Rvs.len {K : PySem.W.Frag} {B : Hp} : ∀ {vs : List V} {xs : List DV}, Rvs K B vs xs → vs.length = xs.length
  | _, _, .nil => rfl
  | _, _, .cons _ r => congrArg Nat.succ r.len
theorem Rvs.data {K : PySem.W.Frag} {B : Hp} : ∀ {ds : List PyData} {vs : List V}, Rvs K B vs (ds.map DV.d) → Rps K B vs ds
  | [], _, .nil => .nil
  | _ :: _, _, .cons h r => .cons h r.data
def KpA (K : PySem.W.Frag) (F B : Hp) (Φ : List DV → Store → Prop) (Q : List V → Hp → Prop) : Prop := ∀ vs xs G2 B2 H2, Ex B B2 → Cfg K F G2 B2 H2 → Rvs K B2 vs xs → Φ xs G2 → Q vs H2
def RA (K : PySem.W.Frag) (t : TA) (ρ : Env) (G : Store) (Φ : List DV → Store → Prop) : Prop := ∀ F σ B H Q, Cfg K F G B H → Slots K B σ ρ → KpA K F B Φ Q → t σ H Q
def RS (K : PySem.W.Frag) (t : TS) (ρ : Env) (G : Store) (N : Env → Store → Prop) (Φ : Pst) : Prop := ∀ F σ B H D, Cfg K F G B H → Slots K B σ ρ →
  (∀ ρ' σ' G2 B2 H2, Ex B B2 → Cfg K F G2 B2 H2 → Slots K B2 σ' ρ' → N ρ' G2 → D.nx σ' H2) → Kp K F B Φ D.rt → t D σ H
def RG (K : PySem.W.Frag) (g : TG) (js : List Nat) (x : DV) (ρ ρ' : Env) : Prop := ∀ σ B H v Q, Ex B H → Slots K B σ ρ → Rv K B v x →
  (∀ σ', Slots K B σ' ρ' → (∀ vs : List Nat, (∀ j ∈ js, j ∈ vs) → wipe σ' vs = wipe σ vs) → Q σ' H) → g v σ H Q
def RGs (K : PySem.W.Frag) (g : TGs) (js : List Nat) (ds : List PyData) (ρ ρ' : Env) : Prop := ∀ σ B H vs Q, Ex B H → Slots K B σ ρ → Rps K B vs ds →
  (∀ σ', Slots K B σ' ρ' → (∀ vs : List Nat, (∀ j ∈ js, j ∈ vs) → wipe σ' vs = wipe σ vs) → Q σ' H) → g vs σ H Q
/-- a value that is told, nothing changed -/
abbrev Is (x : DV) (G : Store) : Pst := fun y G2 => y = x ∧ G2 = G
abbrev IsT (b : Bool) (G : Store) : Bool → Store → Prop := fun y G2 => y = b ∧ G2 = G
abbrev IsA (xs : List DV) (G : Store) : List DV → Store → Prop := fun y G2 => y = xs ∧ G2 = G
/-- a new list -/
abbrev New (ds : List PyData) (G : Store) : Pst := fun y G2 => ∃ l, y = .a l ∧ G2 = (l, .lst ds) :: G

section
variable {K : PySem.W.Frag} {F B B2 H : Hp} {ρ : Env} {G G' : Store} {Φ Φ' : Pst} {Q : VK} {ta tb te : TE}
theorem Kp.mono (e : Ex B B2) (k : Kp K F B Φ Q) : Kp K F B2 Φ Q := fun v x G2 B3 H3 a c r p => k v x G2 B3 H3 (e.trans a) c r p
theorem Kp.ret {v : V} {x : DV} (k : Kp K F B Φ Q) (c : Cfg K F G B H) (r : Rv K B v x) (p : Φ x G) : Q v H := k v x G B H (Evl.Ex.refl B) c r p
theorem Kp.imp (k : Kp K F B Φ' Q) (h : ∀ x G2, Φ x G2 → Φ' x G2) : Kp K F B Φ Q := fun v x G2 B2 H2 e c r p => k v x G2 B2 H2 e c r (h _ _ p)
theorem R.imp (r : R K te ρ G Φ) (h : ∀ x G2, Φ x G2 → Φ' x G2) : R K te ρ G Φ' := fun F σ B H Q c s k => r F σ B H Q c s (k.imp h)
theorem R.is {x : DV} (r : R K te ρ G (Is x G)) (h : Φ x G) : R K te ρ G Φ := r.imp fun y G2 z => by rw [z.1, z.2]; exact h
/-- a list of the store becomes data for good -/
theorem R.give (r : R K te ρ G fun y G2 => ∃ l xs G3, y = .a l ∧ G2 = (l, .lst xs) :: G3 ∧ Φ (.d (.list xs)) G3) : R K te ρ G Φ := fun F σ B H Q c s k =>
  r F σ B H Q c s fun v x G2 B2 H2 e c2 rv ⟨l, xs, G3, e1, e2, p⟩ => by
    subst e1 e2
    obtain ⟨vs, nB, rr, c3⟩ := c2.freeze
    have rv' : v = .ref l := rv
    subst rv'
    exact k (.ref l) (.d (.list xs)) _ _ _ (e.trans (ex_new nB _)) c3 (show Rp K _ _ _ from Rp.rlst (Evl.sq_of upd_same) (rr.mono (ex_new nB _))) p
theorem R.gives {ds : List PyData} (r : R K te ρ G (New ds G)) : R K te ρ G (Is (.d (.list ds)) G) := R.give (r.imp fun y G2 ⟨l, a, b⟩ => ⟨l, ds, G, a, b, rfl, rfl⟩)
/-- a list of the store is read as data by what gives nothing with a list in it -/
def thawE (l : Addr) (xs : List PyData) : Env → Env := List.map fun o => match o with
  | some (.a q) => if q = l then some (.d (.list xs)) else some (.a q)
  | o => o
theorem Slots.froze {l : Addr} {xs : List PyData} {vs : List V} {σ : L2.St} (nB : B l = none) (rr : Rps K B vs xs) (s : Slots K B σ ρ) : Slots K (upd B l (.lst vs)) σ (thawE l xs ρ) := by
  refine ⟨by rw [s.1]; unfold thawE; rw [List.length_map], fun i x h => ?_⟩
  unfold thawE at h
  rw [List.getElem?_map] at h
  cases z : ρ[i]? with
  | none =>
    rw [z] at h
    cases h
  | some o =>
    rw [z] at h
    cases o with
    | none => cases h
    | some y =>
      obtain ⟨v, a, b⟩ := s.2 i y z
      refine ⟨v, a, ?_⟩
      cases y with
      | d y =>
        have e : x = .d y := (Option.some.inj (Option.some.inj h)).symm
        subst e
        exact b.mono (ex_new nB _)
      | lam f2 c2 q2 vs2 ds2 =>
        have e : x = .lam f2 c2 q2 vs2 ds2 := (Option.some.inj (Option.some.inj h)).symm
        subst e
        exact b.mono (ex_new nB _)
      | a q =>
        have h' : some (if q = l then some (DV.d (.list xs)) else some (DV.a q)) = some (some x) := h
        by_cases e : q = l
        · rw [if_pos e] at h'
          have e2 : x = .d (.list xs) := (Option.some.inj (Option.some.inj h')).symm
          subst e2 e
          have b' : v = .ref q := b
          subst b'
          exact Rp.rlst (Evl.sq_of upd_same) (rr.mono (ex_new nB _))
        · rw [if_neg e] at h'
          have e2 : x = .a q := (Option.some.inj (Option.some.inj h')).symm
          subst e2
          exact b
theorem R.frozen {l : Addr} {xs : List PyData} (h : R K te (thawE l xs ρ) G fun y G2 => noLv y = true ∧ (∀ p ∈ G2, noLc p.2 = true) ∧ Φ y ((l, .lst xs) :: G2)) : R K te ρ ((l, .lst xs) :: G) Φ := fun F σ B H Q c s k => by
  have nF := c.gf (l, .lst xs) List.mem_cons_self
  obtain ⟨vs, nB, rr, c3⟩ := c.freeze
  refine h F σ _ H Q c3 (s.froze nB rr) fun v x G2 B2 H2 e c2 rv ⟨n1, n2, p⟩ => ?_
  obtain ⟨c4, e4⟩ := Cfg.thaw nB nF rr e c2 n2
  exact k v x _ _ H2 e4 c4 (rv.del (e _ _ upd_same) n1) p
/-- two in a row -/
def Op (K : PySem.W.Frag) (r : R2) (x y : DV) (G : Store) (Φ : Pst) : Prop := ∀ F B H v u Q, Cfg K F G B H → Rv K B v x → Rv K B u y → Kp K F B Φ Q → r v u H Q
theorem r_op {r : R2} {Φa : Pst} {Φb : DV → Pst} (ha : R K ta ρ G Φa) (hb : ∀ x G1, Φa x G1 → R K tb ρ G1 (Φb x)) (hr : ∀ x G1 y G2, Φa x G1 → Φb x y G2 → Op K r x y G2 Φ) : R K (tOp r ta tb) ρ G Φ := by
  intro F σ B H Q c s k
  refine ha F σ B H _ c s fun v x G1 B1 H1 e1 c1 r1 p1 => ?_
  refine hb x G1 p1 F σ B1 H1 _ c1 (s.mono e1) fun u y G2 B2 H2 e2 c2 r2 p2 => ?_
  exact hr x G1 y G2 p1 p2 F B2 H2 v u Q c2 (r1.mono e2) r2 (k.mono (e1.trans e2))
theorem r_opD {r : R2} {x y : DV} (ha : R K ta ρ G (Is x G)) (hb : R K tb ρ G (Is y G)) (hr : Op K r x y G Φ) : R K (tOp r ta tb) ρ G Φ :=
  r_op (Φb := fun _ => Is y G) ha (fun x' G1 h => by rw [h.2]; exact hb) fun x' G1 y' G2 h1 h2 => by rw [h1.1, h2.1, h2.2]; exact hr
def Un1 (K : PySem.W.Frag) (r : V → Hp → VK → Prop) (x : DV) (G : Store) (Φ : Pst) : Prop := ∀ F B H v Q, Cfg K F G B H → Rv K B v x → Kp K F B Φ Q → r v H Q
theorem r_un {r : V → Hp → VK → Prop} {Φa : Pst} (ha : R K ta ρ G Φa) (hr : ∀ x G1, Φa x G1 → Un1 K r x G1 Φ) : R K (tUn r ta) ρ G Φ := by
  intro F σ B H Q c s k
  refine ha F σ B H _ c s fun v x G1 B1 H1 e1 c1 r1 p1 => ?_
  exact hr x G1 p1 F B1 H1 v Q c1 r1 (k.mono e1)
theorem ra_nil : RA K tNil ρ G (IsA [] G) := fun F σ B H Q c s k => k [] [] G B H (Evl.Ex.refl B) c .nil ⟨rfl, rfl⟩
theorem ra_cons {tr : TA} {Φa : Pst} {Φr : DV → List DV → Store → Prop} {Φl : List DV → Store → Prop} (ha : R K ta ρ G Φa) (hr : ∀ x G1, Φa x G1 → RA K tr ρ G1 (Φr x)) (h : ∀ x G1 xs G2, Φa x G1 → Φr x xs G2 → Φl (x :: xs) G2) : RA K (tCons ta tr) ρ G Φl := by
  intro F σ B H Q c s k
  refine ha F σ B H _ c s fun v x G1 B1 H1 e1 c1 r1 p1 => ?_
  refine hr x G1 p1 F σ B1 H1 _ c1 (s.mono e1) fun vs xs G2 B2 H2 e2 c2 r2 p2 => ?_
  exact k _ _ G2 B2 H2 (e1.trans e2) c2 (.cons (r1.mono e2) r2) (h x G1 xs G2 p1 p2)
def CallOp (K : PySem.W.Frag) (r : List V → Hp → VK → Prop) (xs : List DV) (G : Store) (Φ : Pst) : Prop := ∀ F B H vs Q, Cfg K F G B H → Rvs K B vs xs → Kp K F B Φ Q → r vs H Q
theorem r_cb {r : List V → Hp → VK → Prop} {t : TA} {Φa : List DV → Store → Prop} (ha : RA K t ρ G Φa) (hr : ∀ xs G1, Φa xs G1 → CallOp K r xs G1 Φ) : R K (tCB r t) ρ G Φ := by
  intro F σ B H Q c s k
  refine ha F σ B H _ c s fun vs xs G1 B1 H1 e1 c1 r1 p1 => ?_
  exact hr xs G1 p1 F B1 H1 vs Q c1 r1 (k.mono e1)
theorem r_if {t : TT} {Φc : Bool → Store → Prop} (hc : RT K t ρ G Φc) (h1 : ∀ G1, Φc true G1 → R K ta ρ G1 Φ) (h2 : ∀ G1, Φc false G1 → R K tb ρ G1 Φ) : R K (tIf t ta tb) ρ G Φ := by
  intro F σ B H Q c s k
  refine hc F σ B H _ c s fun b G1 B1 H1 e1 c1 p1 => ?_
  cases b with
  | true => exact iteT (h1 G1 p1 F σ B1 H1 Q c1 (s.mono e1) (k.mono e1))
  | false => exact iteF (h2 G1 p1 F σ B1 H1 Q c1 (s.mono e1) (k.mono e1))
theorem rt_of {Φt : Bool → Store → Prop} (h : R K te ρ G fun y G2 => ∃ b, y = .d (.bool b) ∧ Φt b G2) : RT K (tTest te) ρ G Φt := fun F σ B H Q c s k =>
  h F σ B H _ c s fun v x G1 B1 H1 e1 c1 r1 ⟨b, e, p⟩ => by
    subst e
    cases r1
    exact ⟨b, rfl, k b G1 B1 H1 e1 c1 p⟩
theorem rt_ofB {Φt : Bool → Store → Prop} (h : R K te ρ G fun y G2 => ∃ b, y = .d (.bool b) ∧ Φt b G2) : RT K (tB te) ρ G Φt := fun F σ B H Q c s k =>
  h F σ B H _ c s fun v x G1 B1 H1 e1 c1 r1 ⟨b, e, p⟩ => by
    subst e
    cases r1
    exact ⟨b, rfl, k b G1 B1 H1 e1 c1 p⟩
theorem rt_and {t u : TT} {Φa Φt : Bool → Store → Prop} (h1 : RT K t ρ G Φa) (h2 : ∀ G1, Φa true G1 → RT K u ρ G1 Φt) (h3 : ∀ G1, Φa false G1 → Φt false G1) : RT K (tAnd t u) ρ G Φt := fun F σ B H Q c s k =>
  h1 F σ B H _ c s fun b G1 B1 H1 e1 c1 p => by
    cases b with
    | true => exact iteT (h2 G1 p F σ B1 H1 Q c1 (s.mono e1) fun b G2 B2 H2 e2 c2 p2 => k b G2 B2 H2 (e1.trans e2) c2 p2)
    | false => exact iteF (k false G1 B1 H1 e1 c1 (h3 G1 p))
theorem rt_or {t u : TT} {Φa Φt : Bool → Store → Prop} (h1 : RT K t ρ G Φa) (h2 : ∀ G1, Φa false G1 → RT K u ρ G1 Φt) (h3 : ∀ G1, Φa true G1 → Φt true G1) : RT K (tOr t u) ρ G Φt := fun F σ B H Q c s k =>
  h1 F σ B H _ c s fun b G1 B1 H1 e1 c1 p => by
    cases b with
    | true => exact iteT (k true G1 B1 H1 e1 c1 (h3 G1 p))
    | false => exact iteF (h2 G1 p F σ B1 H1 Q c1 (s.mono e1) fun b G2 B2 H2 e2 c2 p2 => k b G2 B2 H2 (e1.trans e2) c2 p2)
theorem rt_not {t : TT} {Φt : Bool → Store → Prop} (h : RT K t ρ G fun b G2 => Φt (!b) G2) : RT K (tNot t) ρ G Φt := fun F σ B H Q c s k =>
  h F σ B H _ c s fun b G1 B1 H1 e1 c1 p => k (!b) G1 B1 H1 e1 c1 p
theorem r_andV {Φa : Pst} (h1 : R K ta ρ G fun y G2 => ∃ b, y = .d (.bool b) ∧ Φa y G2) (h2 : ∀ G1, Φa (.d (.bool true)) G1 → R K tb ρ G1 Φ) (h3 : ∀ G1, Φa (.d (.bool false)) G1 → Φ (.d (.bool false)) G1) : R K (tAndV ta tb) ρ G Φ := fun F σ B H Q c s k =>
  h1 F σ B H _ c s fun v x G1 B1 H1 e1 c1 r1 ⟨b, e, p⟩ => by
    subst e
    cases r1
    refine ⟨b, rfl, ?_⟩
    cases b with
    | true => exact iteT (h2 G1 p F σ B1 H1 Q c1 (s.mono e1) (k.mono e1))
    | false => exact iteF (k (.bl false) (.d (.bool false)) G1 B1 H1 e1 c1 (show Rp K _ _ _ from .rbl false) (h3 G1 p))

/-! statements -/
variable {N : Env → Store → Prop} {t u : TS}
theorem RS.imp {N' : Env → Store → Prop} (h : RS K t ρ G N Φ) (i : ∀ ρ' G2, N ρ' G2 → N' ρ' G2) : RS K t ρ G N' Φ := fun F σ B H D c s n k => h F σ B H D c s (fun ρ' σ' G2 B2 H2 e c2 s2 p => n ρ' σ' G2 B2 H2 e c2 s2 (i _ _ p)) k
theorem rs_seq {M : Env → Store → Prop} (h1 : RS K t ρ G M Φ) (h2 : ∀ ρ' G', M ρ' G' → RS K u ρ' G' N Φ) : RS K (tSeq t u) ρ G N Φ := fun F σ B H D c s n k =>
  h1 F σ B H { D with nx := u D } c s (fun ρ' σ' G2 B2 H2 e c2 s2 p => h2 ρ' G2 p F σ' B2 H2 D c2 s2 (fun ρ3 σ3 G3 B3 H3 e3 c3 s3 p3 => n ρ3 σ3 G3 B3 H3 (e.trans e3) c3 s3 p3) (k.mono e)) k
theorem rs_nx (p : N ρ G) : RS K tNext ρ G N Φ := fun F σ B H D c s n k => n ρ σ G B H (Evl.Ex.refl B) c s p
theorem rs_ret (h : R K te ρ G Φ) : RS K (tRet te) ρ G N Φ := fun F σ B H D c s n k => h F σ B H D.rt c s k
theorem rs_drop {Φe : Pst} (h : R K te ρ G Φe) (p : ∀ x G2, Φe x G2 → N ρ G2) : RS K (tDrop te) ρ G N Φ := fun F σ B H D c s n k =>
  h F σ B H _ c s fun v x G2 B2 H2 e c2 r q => n ρ σ G2 B2 H2 e c2 (s.mono e) (p x G2 q)
theorem rs_if {tc : TT} {Φc : Bool → Store → Prop} (hc : RT K tc ρ G Φc) (h1 : ∀ G1, Φc true G1 → RS K t ρ G1 N Φ) (h2 : ∀ G1, Φc false G1 → RS K u ρ G1 N Φ) : RS K (tIfS tc t u) ρ G N Φ := fun F σ B H D c s n k =>
  hc F σ B H _ c s fun b G1 B1 H1 e1 c1 p => by
    have n' : ∀ ρ' σ' G2 B2 H2, Ex B1 B2 → Cfg K F G2 B2 H2 → Slots K B2 σ' ρ' → N ρ' G2 → D.nx σ' H2 := fun ρ' σ' G2 B2 H2 e => n ρ' σ' G2 B2 H2 (e1.trans e)
    cases b with
    | true => exact iteT (h1 G1 p F σ B1 H1 D c1 (s.mono e1) n' (k.mono e1))
    | false => exact iteF (h2 G1 p F σ B1 H1 D c1 (s.mono e1) n' (k.mono e1))
theorem rg_name {i : Nat} {x : DV} : RG K (gName i) [i] x ρ (ρ.set i (some x)) := fun σ B H v Q e s r k => k _ (s.set r i) fun vs h => wipe_set (h i List.mem_cons_self) _
theorem rgs_nil : RGs K gNil [] [] ρ ρ := fun σ B H vs Q e s r k => by
  cases r
  exact ⟨rfl, k σ s fun _ _ => rfl⟩
theorem rgs_cons {g : TG} {gs : TGs} {i : List Nat} {js : List Nat} {d : PyData} {ds : List PyData} {ρ1 ρ2 : Env} (h1 : RG K g i (.d d) ρ ρ1) (h2 : RGs K gs js ds ρ1 ρ2) : RGs K (gCons g gs) (i ++ js) (d :: ds) ρ ρ2 := fun σ B H vs Q e s r k => by
  cases r with
  | cons a b =>
    refine ⟨_, _, rfl, h1 σ B H _ _ e s a fun σ1 s1 w1 => ?_⟩
    exact h2 σ1 B H _ Q e s1 b fun σ2 s2 w2 => k σ2 s2 fun vs h => (w2 vs fun j hj => h j (List.mem_append_right _ hj)).trans (w1 vs fun j hj => h j (List.mem_append_left _ hj))
theorem rg_tup {gs : TGs} {js : List Nat} {ds : List PyData} {n : Nat} {ρ' : Env} (hn : ds.length = n) (h : RGs K gs js ds ρ ρ') : RG K (gTup K n gs) js (.d (.tuple ds)) ρ ρ' := fun σ B H v Q e s r k => by
  cases r with
  | rtup p q => exact ⟨_, _, rfl, Evl.ex_t e p, q.len.trans hn, h σ B H _ Q e s q k⟩
theorem rs_asg {g : TG} {js : List Nat} {Φe : Pst} (h : R K te ρ G Φe) (hg : ∀ x G2, Φe x G2 → ∃ ρ', RG K g js x ρ ρ' ∧ N ρ' G2) : RS K (tAsg te g) ρ G N Φ := fun F σ B H D c s n k =>
  h F σ B H _ c s fun v x G2 B2 H2 e c2 r q => by
    obtain ⟨ρ', g1, p⟩ := hg x G2 q
    exact g1 σ B2 H2 v _ c2.ex (s.mono e) r fun σ' s' _ => n ρ' σ' G2 B2 H2 e c2 s' p
theorem rs_par {i j : Nat} {t : TA} {Φl : List DV → Store → Prop} (h : RA K t ρ G Φl) (hg : ∀ xs G2, Φl xs G2 → ∃ x y, xs = [x, y] ∧ N ((ρ.set i (some x)).set j (some y)) G2) : RS K (tPar i j t) ρ G N Φ := fun F σ B H D c s n k =>
  h F σ B H _ c s fun vs xs G2 B2 H2 e c2 r q => by
    obtain ⟨x, y, e1, p⟩ := hg xs G2 q
    subst e1
    cases r with
    | cons a b =>
      cases b with
      | cons b d =>
        cases d
        exact ⟨_, _, rfl, n _ _ G2 B2 H2 e c2 (((s.mono e).set a i).set b j) p⟩
/-- loops: I tells what holds ahead of turn i -/
theorem rs_forL {tl : TE} {g : TG} {tb : TS} {js : List Nat} {ds : List PyData} (I : Nat → Env → Store → Prop) (hl : R K tl ρ G (Is (.d (.list ds)) G)) (h0 : I 0 ρ G)
    (hs : ∀ i d ρ1 G1, ds[i]? = some d → I i ρ1 G1 → ∃ ρ2, RG K g js (.d d) ρ1 ρ2 ∧ RS K tb ρ2 G1 (I (i + 1)) Φ) (hd : ∀ ρ1 G1, I ds.length ρ1 G1 → N ρ1 G1) : RS K (tFor (iList K tl) g tb) ρ G N Φ := fun F σ B H D c s n k =>
  hl F σ B H _ c s fun v x G2 B2 H2 e c2 r q => by
    obtain ⟨e1, e2⟩ := q
    subst e1 e2
    cases r with
    | rlst p rr =>
      rename_i a vs
      refine ⟨a, rfl, ⟨vs, Evl.ex_l c2.ex p⟩, ?_⟩
      refine for_list (xs := vs) (fun i σ' H' => ∃ ρ1 G1 B1, Ex B2 B1 ∧ Cfg K F G1 B1 H' ∧ Slots K B1 σ' ρ1 ∧ I i ρ1 G1) ⟨ρ, G2, B2, Evl.Ex.refl _, c2, s.mono e, h0⟩
        (fun i σ' H' _ ⟨ρ1, G1, B1, e1, c1, s1, p1⟩ => Evl.ex_l (e1.trans c1.ex) p) (fun i y σ' H' hy ⟨ρ1, G1, B1, e1, c1, s1, p1⟩ => ?_) fun σ' H' ⟨ρ1, G1, B1, e1, c1, s1, p1⟩ => ?_
      · obtain ⟨d, hd1, hd2⟩ := rr.back hy
        obtain ⟨ρ2, g1, b1⟩ := hs i d ρ1 G1 hd1 p1
        refine g1 σ' B1 H' y _ c1.ex s1 (hd2.mono e1) fun σ2 s2 _ => ?_
        exact b1 F σ2 B1 H' _ c1 s2 (fun ρ3 σ3 G3 B3 H3 e3 c3 s3 p3 => ⟨ρ3, G3, B3, e1.trans e3, c3, s3, p3⟩) (k.mono (e.trans e1))
      · rw [rr.len] at p1
        exact n ρ1 σ' G1 B1 H' (e.trans e1) c1 s1 (hd ρ1 G1 p1)
theorem rs_forT {tl : TE} {g : TG} {tb : TS} {js : List Nat} {ds : List PyData} (I : Nat → Env → Store → Prop) (hl : R K tl ρ G (Is (.d (.tuple ds)) G)) (h0 : I 0 ρ G)
    (hs : ∀ i d ρ1 G1, ds[i]? = some d → I i ρ1 G1 → ∃ ρ2, RG K g js (.d d) ρ1 ρ2 ∧ RS K tb ρ2 G1 (I (i + 1)) Φ) (hd : ∀ ρ1 G1, I ds.length ρ1 G1 → N ρ1 G1) : RS K (tFor (iTup K tl) g tb) ρ G N Φ := fun F σ B H D c s n k =>
  hl F σ B H _ c s fun v x G2 B2 H2 e c2 r q => by
    obtain ⟨e1, e2⟩ := q
    subst e1 e2
    cases r with
    | rtup p rr =>
      rename_i a vs
      refine ⟨a, rfl, ⟨vs, Evl.ex_t c2.ex p⟩, ?_⟩
      refine for_tup (xs := vs) (fun i σ' H' => ∃ ρ1 G1 B1, Ex B2 B1 ∧ Cfg K F G1 B1 H' ∧ Slots K B1 σ' ρ1 ∧ I i ρ1 G1) ⟨ρ, G2, B2, Evl.Ex.refl _, c2, s.mono e, h0⟩
        (fun i σ' H' _ ⟨ρ1, G1, B1, e1, c1, s1, p1⟩ => Evl.ex_t (e1.trans c1.ex) p) (fun i y σ' H' hy ⟨ρ1, G1, B1, e1, c1, s1, p1⟩ => ?_) fun σ' H' ⟨ρ1, G1, B1, e1, c1, s1, p1⟩ => ?_
      · obtain ⟨d, hd1, hd2⟩ := rr.back hy
        obtain ⟨ρ2, g1, b1⟩ := hs i d ρ1 G1 hd1 p1
        refine g1 σ' B1 H' y _ c1.ex s1 (hd2.mono e1) fun σ2 s2 _ => ?_
        exact b1 F σ2 B1 H' _ c1 s2 (fun ρ3 σ3 G3 B3 H3 e3 c3 s3 p3 => ⟨ρ3, G3, B3, e1.trans e3, c3, s3, p3⟩) (k.mono (e.trans e1))
      · rw [rr.len] at p1
        exact n ρ1 σ' G1 B1 H' (e.trans e1) c1 s1 (hd ρ1 G1 p1)
/-- for x in range(n) -/
theorem rs_forR {ta : TA} {g : TG} {tb : TS} {js : List Nat} {Φl : List DV → Store → Prop} (I : Int → Nat → Env → Store → Prop) (hl : RA K ta ρ G Φl) (h0 : ∀ xs G1, Φl xs G1 → ∃ n : Int, xs = [.d (.int n)] ∧ n ≤ 100000 ∧ -100000 ≤ n ∧ I n 0 ρ G1)
    (hs : ∀ (n : Int) (i : Nat) ρ1 G1, (i : Int) < n → I n i ρ1 G1 → ∃ ρ2, RG K g js (.d (.int i)) ρ1 ρ2 ∧ RS K tb ρ2 G1 (I n (i + 1)) Φ) (hd : ∀ (n : Int) ρ1 G1, I n n.toNat ρ1 G1 → N ρ1 G1) : RS K (tFor (iRng1 ta) g tb) ρ G N Φ := fun F σ B H D c s nn k =>
  hl F σ B H _ c s fun vs xs G2 B2 H2 e c2 r q => by
    obtain ⟨n, e1, n1, n2, p0⟩ := h0 xs G2 q
    subst e1
    cases r with
    | cons a b =>
      cases b
      cases a
      refine ⟨n, rfl, by omega, by omega, ?_⟩
      refine for_range (lo := 0) (n := n.toNat) (fun i σ' H' => ∃ ρ1 G1 B1, Ex B2 B1 ∧ Cfg K F G1 B1 H' ∧ Slots K B1 σ' ρ1 ∧ I n i ρ1 G1) ⟨ρ, G2, B2, Evl.Ex.refl _, c2, s.mono e, p0⟩
        (fun i σ' H' hi ⟨ρ1, G1, B1, e1, c1, s1, p1⟩ => ?_) fun σ' H' ⟨ρ1, G1, B1, e1, c1, s1, p1⟩ => nn ρ1 σ' G1 B1 H' (e.trans e1) c1 s1 (hd n ρ1 G1 p1)
      obtain ⟨ρ2, g1, b1⟩ := hs n i ρ1 G1 (by omega) p1
      rw [Int.zero_add]
      refine g1 σ' B1 H' (.int i) _ c1.ex s1 (.rint i) fun σ2 s2 _ => ?_
      exact b1 F σ2 B1 H' _ c1 s2 (fun ρ3 σ3 G3 B3 H3 e3 c3 s3 p3 => ⟨ρ3, G3, B3, e1.trans e3, c3, s3, p3⟩) (k.mono (e.trans e1))
end
end Fsh

set_option Elab.async false
set_option linter.all false
set_option maxRecDepth 100000
namespace Fsh
open PySem PySem.Spec PyProof.Rows L2

section
variable {K : PySem.W.Frag} {F B H : Hp} {G : Store} {p : Addr} {o o' : HO}
theorem Cfg.hide (c : Cfg K F G B H) (hp : H p = none) : Cfg K (upd F p o) G B (upd H p o) where
  ex := Ex.out c.ex (Ex.free c.ex hp) o
  fr := Ex.new c.fr hp o
  ce := fun x hx => (c.ce x hx).mono (Evl.Ex.refl B) (upd_ne (c.neG hp x hx))
  fb := fun q hq => by
    by_cases e : q = p
    · subst e
      exact Ex.free c.ex hp
    · rw [upd_ne e] at hq
      exact c.fb q hq
  gb := c.gb
  gf := fun x hx => by
    rw [upd_ne (c.neG hp x hx)]
    exact c.gf x hx
  nd := c.nd
theorem Cfg.hidB (c : Cfg K (upd F p o) G B H) : B p = none := c.fb p (by rw [upd_same]; exact fun z => nomatch z)
theorem Cfg.hidG (c : Cfg K (upd F p o) G B H) : ∀ x ∈ G, x.1 ≠ p := fun x hx z => by
  have := c.gf x hx
  rw [z, upd_same] at this
  cases this
theorem Cfg.hidF (c : Cfg K (upd F p o) G B H) (nF : F p = none) : Cfg K (upd F p o') G B (upd H p o') where
  ex := Ex.out c.ex c.hidB o'
  fr := fun q u hq => by
    by_cases e : q = p
    · subst e
      rw [upd_same] at hq ⊢
      exact hq
    · rw [upd_ne e] at hq ⊢
      exact c.fr q u (by rw [upd_ne e]; exact hq)
  ce := fun x hx => (c.ce x hx).mono (Evl.Ex.refl B) (upd_ne (c.hidG x hx))
  fb := fun q hq => by
    by_cases e : q = p
    · subst e
      exact c.hidB
    · rw [upd_ne e] at hq
      exact c.fb q (by rw [upd_ne e]; exact hq)
  gb := c.gb
  gf := fun x hx => by
    have := c.gf x hx
    rw [upd_ne (c.hidG x hx)] at this ⊢
    exact this
  nd := c.nd
/-- what was hidden comes out as a cell -/
theorem Cfg.shown {vs : List V} {xs : List PyData} (c : Cfg K (upd F p (.lst vs)) G B H) (nF : F p = none) (r : Rps K B vs xs) : Cfg K F ((p, .lst xs) :: G) B H where
  ex := c.ex
  fr := fun q u hq => c.fr q u (by rw [upd_ne (fun e => by rw [e, nF] at hq; cases hq)]; exact hq)
  ce := fun x hx => by
    rcases List.mem_cons.mp hx with z | z
    · subst z
      exact ⟨vs, c.fr p _ upd_same, r⟩
    · exact c.ce x z
  fb := fun q hq => c.fb q (by rw [upd_ne (fun e : q = p => hq (by rw [e]; exact nF))]; exact hq)
  gb := fun x hx => by
    rcases List.mem_cons.mp hx with z | z
    · subst z
      exact c.hidB
    · exact c.gb x z
  gf := fun x hx => by
    rcases List.mem_cons.mp hx with z | z
    · subst z
      exact nF
    · have := c.gf x z
      rw [upd_ne (c.hidG x z)] at this
      exact this
  nd := by
    rw [List.map_cons, List.nodup_cons]
    refine ⟨fun z => ?_, c.nd⟩
    obtain ⟨y, hy, e⟩ := List.mem_map.mp z
    exact c.hidG y hy e
end

section
variable {K : PySem.W.Frag} {ρ : Env} {G : Store} {Φ : Pst} {tl te : TE} {tt : TT} {g : TG} {js vs : List Nat}
/-- what a turn of a comprehension asks -/
def Turn1 (K : PySem.W.Frag) (tt : TT) (te : TE) (ρ : Env) (G : Store) (J : List PyData → Store → Prop) (acc : List PyData) : Prop :=
  RT K tt ρ G fun b G2 => if b = true then R K te ρ G2 fun y G3 => ∃ z, y = .d z ∧ J (acc ++ [z]) G3 else J acc G2
theorem rt_yes {Φt : Bool → Store → Prop} (h : Φt true G) : RT K tYes ρ G Φt := fun F σ B H Q c s k => k true G B H (Evl.Ex.refl B) c h
theorem turn_all {J : List PyData → Store → Prop} {acc : List PyData} (h : R K te ρ G fun y G3 => ∃ z, y = .d z ∧ J (acc ++ [z]) G3) : Turn1 K tYes te ρ G J acc := rt_yes (by rw [if_pos rfl]; exact h)

/-- the state between two turns -/
def Mid (K : PySem.W.Frag) (F B : Hp) (D : Addr) (I : List PyData → Store → Prop) (n : Nat) (H : Hp) : Prop :=
  ∃ (av : List V) (acc : List PyData) (G1 : Store) (B1 : Hp), Ex B B1 ∧ Rps K B1 av acc ∧ acc.length ≤ n ∧ Cfg K (upd F D (.lst av)) G1 B1 H ∧ I acc G1
theorem mid_turn {F B : Hp} {D : Addr} {I J : List PyData → Store → Prop} {n : Nat} {H : Hp} {σ : L2.St} {v : V} {d : PyData} {ρ2 : Env} (nF : F D = none) (hn : n < 100000) (hj : ∀ j ∈ js, j ∈ vs) (s : Slots K B σ ρ) (r : ∀ B1, Ex B B1 → Rp K B1 v d)
    (m : Mid K F B D I n H) (hg : RG K g js (.d d) (wipeE ρ vs) ρ2) (ht : ∀ acc G1, I acc G1 → Turn1 K tt te ρ2 G1 J acc) :
    g v (wipe σ vs) H fun σ2 H2 => wipe σ2 vs = wipe σ vs ∧ tt σ2 H2 fun b H3 =>
      if b = true then te σ2 H3 fun y H4 => ∃ acc, H4 D = some (.lst acc) ∧ acc.length < sizeLine ∧ Mid K F B D J (n + 1) (upd H4 D (.lst (acc ++ [y]))) else Mid K F B D J (n + 1) H3 := by
  obtain ⟨av, acc, G1, B1, e1, ra, hl, c1, p1⟩ := m
  refine hg (wipe σ vs) B1 H v _ c1.ex ((s.mono e1).wiped vs) (r B1 e1) fun σ2 s2 w2 => ⟨(w2 vs hj).trans (wipe_wipe vs), ?_⟩
  refine ht acc G1 p1 (upd F D (.lst av)) σ2 B1 H _ c1 s2 fun b G2 B2 H2 e2 c2 p2 => ?_
  cases b with
  | true =>
    rw [if_pos rfl] at p2 ⊢
    refine p2 (upd F D (.lst av)) σ2 B2 H2 _ c2 (s2.mono e2) fun y yx G3 B3 H3 e3 c3 r3 ⟨z, ez, p3⟩ => ?_
    subst ez
    have hz : av.length < sizeLine := by
      rw [ra.len]
      exact Evl.sz_lt (by omega)
    refine ⟨av, c3.fr _ _ upd_same, hz, av ++ [y], acc ++ [z], G3, B3, (e1.trans e2).trans e3, (ra.mono (e2.trans e3)).app (.cons r3 .nil), by rw [List.length_append]; simp; omega, c3.hidF nF, p3⟩
  | false =>
    rw [if_neg Bool.false_ne_true] at p2 ⊢
    exact ⟨av, acc, G2, B2, e1.trans e2, ra.mono e2, by omega, c2, p2⟩
theorem mid_end {F B : Hp} {D : Addr} {I : List PyData → Store → Prop} {n : Nat} {H : Hp} {Q : VK} (nF : F D = none) (m : Mid K F B D I n H) (k : Kp K F B (fun y G2 => ∃ l acc G3, y = .a l ∧ G2 = (l, .lst acc) :: G3 ∧ I acc G3) Q) : Q (.ref D) H := by
  obtain ⟨av, acc, G1, B1, e1, ra, hl, c1, p1⟩ := m
  exact k (.ref D) (.a D) _ B1 H e1 (c1.shown nF ra) rfl ⟨D, acc, G1, rfl, rfl, p1⟩
theorem r_lcL {ds : List PyData} (I : Nat → List PyData → Store → Prop) (hl : R K tl ρ G (Is (.d (.list ds)) G)) (hj : ∀ j ∈ js, j ∈ vs) (hz : ds.length ≤ 100000) (h0 : I 0 [] G)
    (hs : ∀ i d, ds[i]? = some d → ∃ ρ2, RG K g js (.d d) (wipeE ρ vs) ρ2 ∧ ∀ acc G1, I i acc G1 → Turn1 K tt te ρ2 G1 (I (i + 1)) acc) :
    R K (tLc (iList K tl) g tt te vs) ρ G fun y G2 => ∃ l acc G3, y = .a l ∧ G2 = (l, .lst acc) :: G3 ∧ I ds.length acc G3 := fun F σ B H Q c s k =>
  hl F σ B H _ c s fun v x G2 B2 H2 e c2 r q => by
    obtain ⟨e1, e2⟩ := q
    subst e1 e2
    cases r with
    | rlst p rr =>
      rename_i a ws
      refine ⟨a, rfl, ⟨ws, Evl.ex_l c2.ex p⟩, fun D hD => ?_⟩
      have nF : F D = none := Ex.free c2.fr hD
      refine lc_list (xs := ws) (fun i H' => Mid K F B2 D (I i) i H') ⟨[], [], G2, B2, Evl.Ex.refl _, .nil, Nat.le_refl _, c2.hide hD, h0⟩
        (fun i H' _ ⟨av, acc, G1, B1, e1, ra, _, c1, p1⟩ => Evl.ex_l (e1.trans c1.ex) p) (fun i y H' hy m => ?_) fun H' m => ?_
      · obtain ⟨d, hd1, hd2⟩ := rr.back hy
        obtain ⟨ρ2, g1, b1⟩ := hs i d hd1
        have hi := (List.getElem?_eq_some_iff.mp hd1).1
        exact mid_turn nF (by omega) hj (s.mono e) (fun B1 e1 => hd2.mono e1) m g1 b1
      · rw [rr.len] at m
        exact mid_end nF m (k.mono e)
theorem r_lcT {ds : List PyData} (I : Nat → List PyData → Store → Prop) (hl : R K tl ρ G (Is (.d (.tuple ds)) G)) (hj : ∀ j ∈ js, j ∈ vs) (hz : ds.length ≤ 100000) (h0 : I 0 [] G)
    (hs : ∀ i d, ds[i]? = some d → ∃ ρ2, RG K g js (.d d) (wipeE ρ vs) ρ2 ∧ ∀ acc G1, I i acc G1 → Turn1 K tt te ρ2 G1 (I (i + 1)) acc) :
    R K (tLc (iTup K tl) g tt te vs) ρ G fun y G2 => ∃ l acc G3, y = .a l ∧ G2 = (l, .lst acc) :: G3 ∧ I ds.length acc G3 := fun F σ B H Q c s k =>
  hl F σ B H _ c s fun v x G2 B2 H2 e c2 r q => by
    obtain ⟨e1, e2⟩ := q
    subst e1 e2
    cases r with
    | rtup p rr =>
      rename_i a ws
      refine ⟨a, rfl, ⟨ws, Evl.ex_t c2.ex p⟩, fun D hD => ?_⟩
      have nF : F D = none := Ex.free c2.fr hD
      refine lc_tup (xs := ws) (fun i H' => Mid K F B2 D (I i) i H') ⟨[], [], G2, B2, Evl.Ex.refl _, .nil, Nat.le_refl _, c2.hide hD, h0⟩
        (fun i H' _ ⟨av, acc, G1, B1, e1, ra, _, c1, p1⟩ => Evl.ex_t (e1.trans c1.ex) p) (fun i y H' hy m => ?_) fun H' m => ?_
      · obtain ⟨d, hd1, hd2⟩ := rr.back hy
        obtain ⟨ρ2, g1, b1⟩ := hs i d hd1
        have hi := (List.getElem?_eq_some_iff.mp hd1).1
        exact mid_turn nF (by omega) hj (s.mono e) (fun B1 e1 => hd2.mono e1) m g1 b1
      · rw [rr.len] at m
        exact mid_end nF m (k.mono e)
theorem r_lcR {ta : TA} {Φl : List DV → Store → Prop} (I : Int → Nat → List PyData → Store → Prop) (hl : RA K ta ρ G Φl) (hj : ∀ j ∈ js, j ∈ vs) (h0 : ∀ xs G1, Φl xs G1 → ∃ n : Int, xs = [.d (.int n)] ∧ n ≤ 100000 ∧ -100000 ≤ n ∧ I n 0 [] G1)
    (hs : ∀ (n : Int) (i : Nat), (i : Int) < n → ∃ ρ2, RG K g js (.d (.int i)) (wipeE ρ vs) ρ2 ∧ ∀ acc G1, I n i acc G1 → Turn1 K tt te ρ2 G1 (I n (i + 1)) acc) :
    R K (tLc (iRng1 ta) g tt te vs) ρ G fun y G2 => ∃ l acc G3, y = .a l ∧ G2 = (l, .lst acc) :: G3 ∧ ∃ n : Int, I n n.toNat acc G3 := fun F σ B H Q c s k =>
  hl F σ B H _ c s fun vs' xs G2 B2 H2 e c2 r q => by
    obtain ⟨n, e1, n1, n2, p0⟩ := h0 xs G2 q
    subst e1
    cases r with
    | cons a b =>
      cases b
      cases a
      refine ⟨n, rfl, by omega, by omega, fun D hD => ?_⟩
      have nF : F D = none := Ex.free c2.fr hD
      refine lc_range (lo := 0) (n := n.toNat) (fun i H' => Mid K F B2 D (I n i) i H') ⟨[], [], G2, B2, Evl.Ex.refl _, .nil, Nat.le_refl _, c2.hide hD, p0⟩ (fun i H' hi m => ?_) fun H' m => ?_
      · obtain ⟨ρ2, g1, b1⟩ := hs n i (by omega)
        rw [Int.zero_add]
        exact mid_turn nF (by omega) hj (s.mono e) (fun B1 e1 => .rint i) m g1 b1
      · exact mid_end nF m ((k.mono e).imp fun y G2 ⟨l, acc, G3, a, b, p⟩ => ⟨l, acc, G3, a, b, n, p⟩)
end
end Fsh

set_option Elab.async false
set_option linter.all false
set_option maxRecDepth 100000
namespace Fsh
open PySem PySem.Spec PyProof.Rows L2

/-! ### the reading that says no more than the run does -/
/-- a lock: Lean's own evaluation stops here -/
structure Say (p : Prop) : Prop where
  run : p
def tw (X : Cx) (e : Expr) : TE := fun σ H Q => Say (∀ pins s, Inv X pins σ H s → wpAny (model X.prog X.w) X.A (eval e X.env) (EP X pins σ Q) X.xe s)
def twT (X : Cx) (e : Expr) : TT := fun σ H Q => Say (∀ pins s, Inv X pins σ H s → wpAny (model X.prog X.w) X.A (isTrue e X.env (eval e X.env)) (TP X pins σ Q) X.xe s)
def twW (X : Cx) (e : Expr) : TT := fun σ H Q => Say (∀ whole pins s, Inv X pins σ H s → wpAny (model X.prog X.w) X.A (isTrue e X.env whole) (TP X pins σ Q) X.xe s)
def twA (X : Cx) (es : List Expr) : TA := fun σ H Q => Say (∀ pos pins s, Inv X pins σ H s → wpAny (model X.prog X.w) X.A (spliced (backTo pos (starEach es X.env))) (AP X pins σ Q) X.xe s)
def twS (X : Cx) (st : Stmt) : TS := fun D σ H => Say (∀ pins s, Inv X pins σ H s → wpAny (model X.prog X.w) X.A (exec st X.env) (SP X pins D) X.xe s)
def twSs (X : Cx) (sts : List Stmt) : TS := fun D σ H => Say (∀ pins s, Inv X pins σ H s → wpAny (model X.prog X.w) X.A (execs sts X.env) (SP X pins D) X.xe s)
abbrev Xp (X : Cx) (e : Expr) (ρ : Env) (G : Store) (Φ : Pst) : Prop := R X.K (tw X e) ρ G Φ
abbrev Xt (X : Cx) (e : Expr) (ρ : Env) (G : Store) (Φ : Bool → Store → Prop) : Prop := RT X.K (twT X e) ρ G Φ
abbrev Xw (X : Cx) (e : Expr) (ρ : Env) (G : Store) (Φ : Bool → Store → Prop) : Prop := RT X.K (twW X e) ρ G Φ
abbrev Xa (X : Cx) (es : List Expr) (ρ : Env) (G : Store) (Φ : List DV → Store → Prop) : Prop := RA X.K (twA X es) ρ G Φ
abbrev Xs (X : Cx) (st : Stmt) (ρ : Env) (G : Store) (N : Env → Store → Prop) (Φ : Pst) : Prop := RS X.K (twS X st) ρ G N Φ
abbrev Xss (X : Cx) (sts : List Stmt) (ρ : Env) (G : Store) (N : Env → Store → Prop) (Φ : Pst) : Prop := RS X.K (twSs X sts) ρ G N Φ
/-- told by one value; a new list; a test told by one answer -/
abbrev Xd (X : Cx) (e : Expr) (ρ : Env) (x : DV) : Prop := ∀ G, Xp X e ρ G (Is x G)
abbrev Xl (X : Cx) (e : Expr) (ρ : Env) (ds : List PyData) : Prop := ∀ G, Xp X e ρ G (New ds G)
abbrev Xb (X : Cx) (e : Expr) (ρ : Env) (b : Bool) : Prop := ∀ G, Xt X e ρ G (IsT b G)
abbrev Xwb (X : Cx) (e : Expr) (ρ : Env) (b : Bool) : Prop := ∀ G, Xw X e ρ G (IsT b G)
abbrev Xad (X : Cx) (es : List Expr) (ρ : Env) (xs : List DV) : Prop := ∀ G, Xa X es ρ G (IsA xs G)

section
variable {X : Cx} {e a b c o : Expr} {es : List Expr} {ρ : Env} {G : Store} {Φ : Pst} {pos p p2 apos : Pos}
theorem pe_tw : PE X e (tw X e) := ⟨fun pins s σ H Q I h => h.run pins s I⟩
theorem pt_tw : PT X e (twT X e) := ⟨fun pins s σ H Q I h => h.run pins s I⟩
theorem pw_tw : PW X e (twW X e) := ⟨fun wh pins s σ H Q I h => h.run wh pins s I⟩
theorem pa_tw : PA X es (twA X es) := ⟨fun pos pins s σ H Q I h => h.run pos pins s I⟩
theorem ps_tw {st : Stmt} : PS X st (twS X st) := ⟨fun pins s σ H D I h => h.run pins s I⟩
theorem pss_tw {sts : List Stmt} : PSs X sts (twSs X sts) := ⟨fun pins s σ H D I h => h.run pins s I⟩
theorem xp_of {t : TE} (h : PE X e t) (r : R X.K t ρ G Φ) : Xp X e ρ G Φ := fun F σ B H Q c s k => ⟨fun pins st I => h.run pins st σ H Q I (r F σ B H Q c s k)⟩
theorem xt_of {t : TT} {Φt : Bool → Store → Prop} (h : PT X e t) (r : RT X.K t ρ G Φt) : Xt X e ρ G Φt := fun F σ B H Q c s k => ⟨fun pins st I => h.run pins st σ H Q I (r F σ B H Q c s k)⟩
theorem xw_of {t : TT} {Φt : Bool → Store → Prop} (h : PW X e t) (r : RT X.K t ρ G Φt) : Xw X e ρ G Φt := fun F σ B H Q c s k => ⟨fun wh pins st I => h.run wh pins st σ H Q I (r F σ B H Q c s k)⟩
theorem xa_of {t : TA} {Φl : List DV → Store → Prop} (h : PA X es t) (r : RA X.K t ρ G Φl) : Xa X es ρ G Φl := fun F σ B H Q c s k => ⟨fun ps pins st I => h.run ps pins st σ H Q I (r F σ B H Q c s k)⟩
theorem xs_of {st : Stmt} {t : TS} {N : Env → Store → Prop} (h : PS X st t) (r : RS X.K t ρ G N Φ) : Xs X st ρ G N Φ := fun F σ B H D c s n k => ⟨fun pins st I => h.run pins st σ H D I (r F σ B H D c s n k)⟩
theorem xss_of {sts : List Stmt} {t : TS} {N : Env → Store → Prop} (h : PSs X sts t) (r : RS X.K t ρ G N Φ) : Xss X sts ρ G N Φ := fun F σ B H D c s n k => ⟨fun pins st I => h.run pins st σ H D I (r F σ B H D c s n k)⟩
theorem RT.imp {K : PySem.W.Frag} {t : TT} {Φt Φu : Bool → Store → Prop} (r : RT K t ρ G Φt) (h : ∀ b G2, Φt b G2 → Φu b G2) : RT K t ρ G Φu := fun F σ B H Q c s k => r F σ B H Q c s fun b G2 B2 H2 e c2 q => k b G2 B2 H2 e c2 (h _ _ q)
theorem RA.imp {K : PySem.W.Frag} {t : TA} {Φt Φu : List DV → Store → Prop} (r : RA K t ρ G Φt) (h : ∀ b G2, Φt b G2 → Φu b G2) : RA K t ρ G Φu := fun F σ B H Q c s k => r F σ B H Q c s fun vs b G2 B2 H2 e c2 rv q => k vs b G2 B2 H2 e c2 rv (h _ _ q)
theorem Xd.to {x : DV} (h : Xd X e ρ x) (q : Φ x G) : Xp X e ρ G Φ := (h G).is q
theorem Xl.data {ds : List PyData} (h : Xl X e ρ ds) : Xd X e ρ (.d (.list ds)) := fun G => (h G).gives
theorem Xb.to {x : Bool} {Φt : Bool → Store → Prop} (h : Xb X e ρ x) (q : Φt x G) : Xt X e ρ G Φt := (h G).imp fun y G2 z => by rw [z.1, z.2]; exact q
theorem Xwb.to {x : Bool} {Φt : Bool → Store → Prop} (h : Xwb X e ρ x) (q : Φt x G) : Xw X e ρ G Φt := (h G).imp fun y G2 z => by rw [z.1, z.2]; exact q
theorem Xad.to {x : List DV} {Φt : List DV → Store → Prop} (h : Xad X es ρ x) (q : Φt x G) : Xa X es ρ G Φt := (h G).imp fun y G2 z => by rw [z.1, z.2]; exact q

/-! names, constants -/
theorem xd_name (i : Nat) {x : Str} {y : DV} (hN : X.N[i]? = some x := by rfl) (hv : Vis X.env.scope x := by first | exact Or.inl rfl | exact Or.inr (Or.inl rfl) | exact Or.inr (Or.inr rfl)) (hr : ρ[i]? = some (some y) := by rfl)
    (h1 : (x == ("__debug__" : Str)) = false := by decide) (h2 : (x == ("__classdict__" : Str)) = false := by decide) : Xd X (.Name x pos) ρ y := fun G => xp_of (pe_var hN hv h1 h2) fun F σ B H Q c s k => by
  obtain ⟨v, q, r⟩ := s.2 i y hr
  exact ⟨v, q, k.ret c r ⟨rfl, rfl⟩⟩
theorem xd_int {i : Int} {j : Nat} : Xd X (.Constant (.int i) j pos) ρ (.d (.int i)) := fun G => xp_of pe_int fun F σ B H Q c s k => k.ret (x := .d (.int i)) c (.rint i) ⟨rfl, rfl⟩
theorem xd_str {x : Str} {j : Nat} : Xd X (.Constant (.str x) j pos) ρ (.d (.str x)) := fun G => xp_of pe_str fun F σ B H Q c s k => k.ret (x := .d (.str x)) c (.rstr x) ⟨rfl, rfl⟩
theorem xd_none {j : Nat} : Xd X (.Constant .none j pos) ρ (.d .none) := fun G => xp_of pe_non fun F σ B H Q c s k => k.ret (x := .d .none) c .rnon ⟨rfl, rfl⟩
theorem xd_bool {x : Bool} {j : Nat} : Xd X (.Constant (.bool x) j pos) ρ (.d (.bool x)) := fun G => xp_of pe_bl fun F σ B H Q c s k => k.ret (x := .d (.bool x)) c (.rbl x) ⟨rfl, rfl⟩

/-! operators -/
theorem x_bin {op : Operator} {r : R2} {Φa : Pst} {Φb : DV → Pst} (ho : OpR X (binaryOp op) r) (ha : Xp X a ρ G Φa) (hb : ∀ x G1, Φa x G1 → Xp X b ρ G1 (Φb x)) (hr : ∀ x G1 y G2, Φa x G1 → Φb x y G2 → Op X.K r x y G2 Φ) :
    Xp X (.BinOp a op b pos) ρ G Φ := xp_of (pe_op ho pe_tw pe_tw) (r_op ha hb hr)
theorem x_binD {op : Operator} {r : R2} {x y : DV} (ho : OpR X (binaryOp op) r) (ha : Xd X a ρ x) (hb : Xd X b ρ y) (hr : Op X.K r x y G Φ) : Xp X (.BinOp a op b pos) ρ G Φ := xp_of (pe_op ho pe_tw pe_tw) (r_opD (ha G) (hb G) hr)
/-- the right one has a choice -/
theorem x_binR {op : Operator} {r : R2} {x : DV} {Φb : Pst} (ho : OpR X (binaryOp op) r) (ha : Xd X a ρ x) (hb : Xp X b ρ G Φb) (hr : ∀ y G2, Φb y G2 → Op X.K r x y G2 Φ) : Xp X (.BinOp a op b pos) ρ G Φ :=
  x_bin (Φa := Is x G) (Φb := fun _ => Φb) ho (ha G) (fun x' G1 h => by rw [h.2]; exact hb) fun x' G1 y G2 h1 h2 => by rw [h1.1]; exact hr y G2 h2
theorem op_ii {K : PySem.W.Frag} {g : Int → Int → V} {i j : Int} {z : PyData} {C : Int → Int → Prop} (hc : C i j) (hz : ∀ B, Rp K B (g i j) z) (q : Φ (.d z) G) : Op K (rI C g) (.d (.int i)) (.d (.int j)) G Φ := fun F B H v u Q c r1 r2 k => by
  cases r1
  cases r2
  exact ⟨i, j, rfl, rfl, hc, k.ret (x := .d z) c (hz B) q⟩
theorem op_ii0 {K : PySem.W.Frag} {g : Int → Int → V} {i j : Int} {z : PyData} (hz : ∀ B, Rp K B (g i j) z) (q : Φ (.d z) G) : Op K (rI0 g) (.d (.int i)) (.d (.int j)) G Φ := fun F B H v u Q c r1 r2 k => by
  cases r1
  cases r2
  exact ⟨i, j, rfl, rfl, k.ret (x := .d z) c (hz B) q⟩
theorem xd_add {i j : Int} (ha : Xd X a ρ (.d (.int i))) (hb : Xd X b ρ (.d (.int j))) : Xd X (.BinOp a .Add b pos) ρ (.d (.int (i + j))) := fun G => x_binD op_add ha hb (op_ii0 (fun _ => .rint _) ⟨rfl, rfl⟩)
theorem xd_sub {i j : Int} (ha : Xd X a ρ (.d (.int i))) (hb : Xd X b ρ (.d (.int j))) : Xd X (.BinOp a .Sub b pos) ρ (.d (.int (i - j))) := fun G => x_binD op_sub ha hb (op_ii0 (fun _ => .rint _) ⟨rfl, rfl⟩)
theorem xd_mul {i j : Int} (ha : Xd X a ρ (.d (.int i))) (hb : Xd X b ρ (.d (.int j))) (hc : CMul i j) : Xd X (.BinOp a .Mult b pos) ρ (.d (.int (i * j))) := fun G => x_binD op_mul ha hb (op_ii hc (fun _ => .rint _) ⟨rfl, rfl⟩)
theorem xd_fdiv {i j : Int} (ha : Xd X a ρ (.d (.int i))) (hb : Xd X b ρ (.d (.int j))) (hc : CDivN i j) : Xd X (.BinOp a .FloorDiv b pos) ρ (.d (.int (i.fdiv j))) := fun G => x_binD op_fdivN ha hb (op_ii hc (fun _ => .rint _) ⟨rfl, rfl⟩)
theorem xd_mod {i j : Int} (ha : Xd X a ρ (.d (.int i))) (hb : Xd X b ρ (.d (.int j))) (hc : j ≠ 0) : Xd X (.BinOp a .Mod b pos) ρ (.d (.int (i.fmod j))) := fun G => x_binD op_modN ha hb (op_ii (C := fun _ j => j ≠ 0) hc (fun _ => .rint _) ⟨rfl, rfl⟩)
theorem xd_pow {i j : Int} (ha : Xd X a ρ (.d (.int i))) (hb : Xd X b ρ (.d (.int j))) (hc : CPow i j) : Xd X (.BinOp a .Pow b pos) ρ (.d (.int (i ^ j.toNat))) := fun G => x_binD op_pow ha hb (op_ii hc (fun _ => .rint _) ⟨rfl, rfl⟩)
theorem xd_neg {i : Int} (ha : Xd X a ρ (.d (.int i))) : Xd X (.UnaryOp .USub a pos) ρ (.d (.int (-i))) := fun G => xp_of (pe_un un_neg pe_tw) (r_un (ha G) fun x G1 h => by
  rw [h.1, h.2]
  intro F B H v Q c r k
  cases r
  exact ⟨i, rfl, k.ret (x := .d (.int (-i))) c (.rint _) ⟨rfl, rfl⟩⟩)
theorem op_ss {K : PySem.W.Frag} {s t : Str} (hz : s.length + t.length ≤ sizeLine) (q : Φ (.d (.str (s ++ t))) G) : Op K (fun x y H Q => ∃ i j, x = .str i ∧ y = .str j ∧ i.length + j.length ≤ sizeLine ∧ Q (.str (i ++ j)) H) (.d (.str s)) (.d (.str t)) G Φ := fun F B H v u Q c r1 r2 k => by
  cases r1
  cases r2
  exact ⟨s, t, rfl, rfl, hz, k.ret (x := .d (.str (s ++ t))) c (.rstr _) q⟩
theorem xd_adds {s t : Str} (ha : Xd X a ρ (.d (.str s))) (hb : Xd X b ρ (.d (.str t))) (hz : s.length + t.length ≤ sizeLine) : Xd X (.BinOp a .Add b pos) ρ (.d (.str (s ++ t))) := fun G => x_binD op_add_str ha hb (op_ss hz ⟨rfl, rfl⟩)
/-- lists put together, whoever owns them -/
def rCatS (K : PySem.W.Frag) : R2 := fun v1 v2 H Q => ∃ a1 a2 us ws, v1 = .ref a1 ∧ v2 = .ref a2 ∧ SqL K H a1 us ∧ SqL K H a2 ws ∧ us.length + ws.length ≤ sizeLine ∧ ∀ a3, H a3 = none → Q (.ref a3) (upd H a3 (.lst (us ++ ws)))
theorem op_catS : OpR X (binaryOp .Add) (rCatS X.K) := by
  intro pins s σ H v1 v2 u1 u2 Q I r1 r2 ⟨a1, a2, us, ws, e1, e2, h1, h2, hz, q⟩
  subst e1 e2
  cases r1
  cases r2
  obtain ⟨i1, t1, ⟨⟨_, _, _, _⟩, _, g1, x1, y1, z1⟩, _⟩ := I.list h1
  obtain ⟨i2, t2, ⟨⟨_, _, _, _⟩, _, g2, x2, y2, z2⟩, _⟩ := I.list h2
  simp only at x1 y1 z1 x2 y2 z2
  subst x1 y1 z1 x2 y2 z2
  refine concat_meets ⟨_, g1, rfl⟩ ⟨_, g2, rfl⟩ noFill_list_add seq_list_add PySem.F.slot_list_add PySem.F.entry_list_add (PySem.F.args_list_add_2 _ _) (list_addW _ _ _ _ _ _ _ _ _ _ (by
    rw [List.size_toArray, List.size_toArray, ← t1.length, ← t2.length]
    exact hz)) ⟨g1, g2, ?_⟩
  rw [show i1.toArray ++ i2.toArray = (i1 ++ i2).toArray by simp]
  exact ⟨.ref _, _, I.lnew (t' := s.toks) (t1.append t2) (by rw [List.length_append]; exact hz), rfl, q _ I.fresh⟩
theorem op_ll {K : PySem.W.Frag} {xs ys : List PyData} (hz : xs.length + ys.length ≤ sizeLine) : Op K (rCatS K) (.d (.list xs)) (.d (.list ys)) G (New (xs ++ ys) G) := fun F B H v u Q c r1 r2 k => by
  cases r1 with
  | rlst h1 q1 =>
    cases r2 with
    | rlst h2 q2 =>
      refine ⟨_, _, _, _, rfl, rfl, Evl.ex_l c.ex h1, Evl.ex_l c.ex h2, by rw [q1.len, q2.len]; exact hz, fun p hp => ?_⟩
      exact k _ (.a p) _ B _ (Evl.Ex.refl B) (c.cell (x := .lst (xs ++ ys)) hp ⟨_, upd_same, q1.app q2⟩) rfl ⟨p, rfl, rfl⟩
theorem xl_cat {xs ys : List PyData} (ha : Xd X a ρ (.d (.list xs))) (hb : Xd X b ρ (.d (.list ys))) (hz : xs.length + ys.length ≤ 100000) : Xl X (.BinOp a .Add b pos) ρ (xs ++ ys) := fun G => x_binD op_catS ha hb (op_ll (Evl.sz_of hz))
/-- tuples put together -/
theorem op_tt {K : PySem.W.Frag} {xs ys : List PyData} (hz : xs.length + ys.length ≤ sizeLine) : Op K (rCatA K) (.d (.tuple xs)) (.d (.tuple ys)) G (Is (.d (.tuple (xs ++ ys))) G) := fun F B H v u Q c r1 r2 k => by
  cases r1 with
  | rtup h1 q1 =>
    cases r2 with
    | rtup h2 q2 =>
      rename_i p1 v1 p2 v2
      refine ⟨_, _, _, _, rfl, rfl, Evl.ex_t c.ex h1, Evl.ex_t c.ex h2, by rw [q1.len, q2.len]; exact hz, fun z => ?_, fun _ z => ?_, fun _ _ p hp => ?_⟩
      · subst z
        cases q1
        exact k.ret (x := .d (.tuple ys)) c (.rtup h2 q2) ⟨rfl, rfl⟩
      · subst z
        cases q2
        exact k.ret (x := .d (.tuple xs)) c (.rtup h1 q1) ⟨by rw [List.append_nil], rfl⟩
      · have e := ex_new (B := B) (Ex.free c.ex hp) (.tup (v1 ++ v2))
        exact k (.ref p) (.d (.tuple (xs ++ ys))) G _ _ e (c.new hp _) (.rtup (Evl.st_of upd_same) ((q1.app q2).mono e)) ⟨rfl, rfl⟩
theorem xd_catt {xs ys : List PyData} (ha : Xd X a ρ (.d (.tuple xs))) (hb : Xd X b ρ (.d (.tuple ys))) (hz : xs.length + ys.length ≤ 100000) : Xd X (.BinOp a .Add b pos) ρ (.d (.tuple (xs ++ ys))) := fun G => x_binD op_catA ha hb (op_tt (Evl.sz_of hz))
theorem rep_rps {K : PySem.W.Frag} {B : Hp} {vs : List V} {ds : List PyData} (r : Rps K B vs ds) : ∀ n : Nat, Rps K B (List.replicate n vs).flatten (List.replicate n ds).flatten
  | 0 => .nil
  | n + 1 => by
    rw [List.replicate_succ, List.replicate_succ, List.flatten_cons, List.flatten_cons]
    exact r.app (rep_rps r n)
theorem op_tn {K : PySem.W.Frag} {xs : List PyData} {n : Int} (h0 : xs ≠ []) (h2 : 2 ≤ n) (h3 : n ≤ 1000) (h4 : xs.length ≤ 1000) : Op K (rRepT K) (.d (.tuple xs)) (.d (.int n)) G (Is (.d (.tuple (List.replicate n.toNat xs).flatten)) G) := fun F B H v u Q c r1 r2 k => by
  cases r2
  cases r1 with
  | rtup h1 q1 =>
    rename_i p1 v1
    refine ⟨_, n, _, rfl, rfl, Evl.ex_t c.ex h1, fun z => ?_, h2, h3, by rw [q1.len]; exact h4, fun p hp => ?_⟩
    · subst z
      cases q1
      exact h0 rfl
    · have e := ex_new (B := B) (Ex.free c.ex hp) (.tup (List.replicate n.toNat v1).flatten)
      exact k (.ref p) (.d (.tuple (List.replicate n.toNat xs).flatten)) G _ _ e (c.new hp _) (.rtup (Evl.st_of upd_same) ((rep_rps q1 _).mono e)) ⟨rfl, rfl⟩
theorem xd_mult {xs : List PyData} {n : Int} (ha : Xd X a ρ (.d (.tuple xs))) (hb : Xd X b ρ (.d (.int n))) (h0 : xs ≠ []) (h2 : 2 ≤ n) (h3 : n ≤ 1000) (h4 : xs.length ≤ 1000) : Xd X (.BinOp a .Mult b pos) ρ (.d (.tuple (List.replicate n.toNat xs).flatten)) :=
  fun G => x_binD op_repT ha hb (op_tn h0 h2 h3 h4)

/-! comparisons: as values, as tests -/
theorem x_cmp {op : CmpOp} {r : R2} {Φa : Pst} {Φb : DV → Pst} (ho : OpR X (compareOp op) r) (ha : Xp X a ρ G Φa) (hb : ∀ x G1, Φa x G1 → Xp X b ρ G1 (Φb x)) (hr : ∀ x G1 y G2, Φa x G1 → Φb x y G2 → Op X.K r x y G2 Φ) (hm : behindInMarks op b = false) :
    Xp X (.Compare a [op] [b] pos) ρ G Φ := xp_of (pe_cmpR ho pe_tw pe_tw hm) (r_op ha hb hr)
theorem xt_cmp {op : CmpOp} {r : R2} {Φa : Pst} {Φb : DV → Pst} {Φt : Bool → Store → Prop} (ho : OpR X (compareOp op) r) (ha : Xp X a ρ G Φa) (hb : ∀ x G1, Φa x G1 → Xp X b ρ G1 (Φb x))
    (hr : ∀ x G1 y G2, Φa x G1 → Φb x y G2 → Op X.K r x y G2 fun z G3 => ∃ t, z = .d (.bool t) ∧ Φt t G3) (hm : behindInMarks op b = false) :
    Xt X (.Compare a [op] [b] pos) ρ G Φt := xt_of (pt_cmpR ho pe_tw pe_tw hm) (rt_of (r_op ha hb hr))
theorem x_cmpD {op : CmpOp} {r : R2} {x y : DV} (ho : OpR X (compareOp op) r) (ha : Xd X a ρ x) (hb : Xd X b ρ y) (hr : Op X.K r x y G Φ) (hm : behindInMarks op b = false) : Xp X (.Compare a [op] [b] pos) ρ G Φ := xp_of (pe_cmpR ho pe_tw pe_tw hm) (r_opD (ha G) (hb G) hr)
theorem xt_cmpD {op : CmpOp} {r : R2} {x y : DV} {t : Bool} (ho : OpR X (compareOp op) r) (ha : Xd X a ρ x) (hb : Xd X b ρ y) (hr : ∀ G, Op X.K r x y G (Is (.d (.bool t)) G)) (hm : behindInMarks op b = false) : Xb X (.Compare a [op] [b] pos) ρ t := fun G =>
  xt_of (pt_cmpR ho pe_tw pe_tw hm) (rt_of (r_opD (ha G) (hb G) fun F B H v u Q c r1 r2 k => hr G F B H v u Q c r1 r2 (k.imp fun z G2 q => ⟨t, q.1, rfl, q.2⟩)))
theorem op_eqs {K : PySem.W.Frag} {s t : Str} : Op K rEq (.d (.str s)) (.d (.str t)) G (Is (.d (.bool (decide (s = t)))) G) := fun F B H v u Q c r1 r2 k => by
  cases r1
  cases r2
  refine ⟨rfl, ?_⟩
  rw [show decide (V.str s = V.str t) = decide (s = t) from decide_eq_decide.mpr ⟨V.str.inj, congrArg V.str⟩]
  exact k.ret (x := .d (.bool _)) c (.rbl _) ⟨rfl, rfl⟩
theorem op_nes {K : PySem.W.Frag} {s t : Str} : Op K rNe (.d (.str s)) (.d (.str t)) G (Is (.d (.bool (!decide (s = t)))) G) := fun F B H v u Q c r1 r2 k => by
  cases r1
  cases r2
  refine ⟨rfl, ?_⟩
  rw [show decide (V.str s = V.str t) = decide (s = t) from decide_eq_decide.mpr ⟨V.str.inj, congrArg V.str⟩]
  exact k.ret (x := .d (.bool _)) c (.rbl _) ⟨rfl, rfl⟩
theorem op_eqi {K : PySem.W.Frag} {s t : Int} : Op K rEq (.d (.int s)) (.d (.int t)) G (Is (.d (.bool (decide (s = t)))) G) := fun F B H v u Q c r1 r2 k => by
  cases r1
  cases r2
  refine ⟨rfl, ?_⟩
  rw [show decide (V.int s = V.int t) = decide (s = t) from decide_eq_decide.mpr ⟨V.int.inj, congrArg V.int⟩]
  exact k.ret (x := .d (.bool _)) c (.rbl _) ⟨rfl, rfl⟩
theorem op_eqb {K : PySem.W.Frag} {s t : Bool} : Op K rEq (.d (.bool s)) (.d (.bool t)) G (Is (.d (.bool (decide (s = t)))) G) := fun F B H v u Q c r1 r2 k => by
  cases r1
  cases r2
  refine ⟨rfl, ?_⟩
  rw [show decide (V.bl s = V.bl t) = decide (s = t) from decide_eq_decide.mpr ⟨V.bl.inj, congrArg V.bl⟩]
  exact k.ret (x := .d (.bool _)) c (.rbl _) ⟨rfl, rfl⟩
def isNo : PyData → Bool
  | .none => true
  | _ => false
theorem op_isn {K : PySem.W.Frag} {d : PyData} : Op K (fun x y H Q => y = .non ∧ Q (.bl (decide (x = .non))) H) (.d d) (.d .none) G (Is (.d (.bool (isNo d))) G) := fun F B H v u Q c r1 r2 k => by
  cases r2
  refine ⟨rfl, ?_⟩
  cases r1 <;> exact k.ret (x := .d (.bool _)) c (.rbl _) ⟨rfl, rfl⟩
theorem op_notn {K : PySem.W.Frag} {d : PyData} : Op K (fun x y H Q => y = .non ∧ Q (.bl (!decide (x = .non))) H) (.d d) (.d .none) G (Is (.d (.bool (!isNo d))) G) := fun F B H v u Q c r1 r2 k => by
  cases r2
  refine ⟨rfl, ?_⟩
  cases r1 <;> exact k.ret (x := .d (.bool _)) c (.rbl _) ⟨rfl, rfl⟩
theorem op_eqdd {K : PySem.W.Frag} {d d2 : PyData} (h1 : SeqAt.shaped d = true) (h2 : SeqAt.shaped d2 = true) : Op K (rEqD K) (.d d) (.d d2) G (Is (.d (.bool (PyData.eqv d d2))) G) := fun F B H v u Q c r1 r2 k =>
  ⟨d, d2, (Rp.mono c.ex r1).dp, (Rp.mono c.ex r2).dp, h1, h2, k.ret (x := .d (.bool _)) c (.rbl _) ⟨rfl, rfl⟩⟩
theorem op_nedd {K : PySem.W.Frag} {d d2 : PyData} (h1 : SeqAt.shaped d = true) (h2 : SeqAt.shaped d2 = true) : Op K (rNeD K) (.d d) (.d d2) G (Is (.d (.bool (!PyData.eqv d d2))) G) := fun F B H v u Q c r1 r2 k =>
  ⟨d, d2, (Rp.mono c.ex r1).dp, (Rp.mono c.ex r2).dp, h1, h2, k.ret (x := .d (.bool _)) c (.rbl _) ⟨rfl, rfl⟩⟩

/-! and, or, not; a if t else b -/
theorem xw_one {op : BoolOp} {Φt : Bool → Store → Prop} (h : Xt X a ρ G Φt) : Xw X (.BoolOp op [a] pos) ρ G Φt := by
  cases op with
  | And => exact xw_of (pw_and1 pt_tw) h
  | Or => exact xw_of (pw_or1 pt_tw) h
theorem xw_and {Φa Φt : Bool → Store → Prop} (h1 : Xt X a ρ G Φa) (h2 : ∀ G1, Φa true G1 → Xw X (.BoolOp .And (b :: es) pos) ρ G1 Φt) (h3 : ∀ G1, Φa false G1 → Φt false G1) : Xw X (.BoolOp .And (a :: b :: es) pos) ρ G Φt := xw_of (pw_and pt_tw pw_tw) (rt_and h1 h2 h3)
theorem xw_or {Φa Φt : Bool → Store → Prop} (h1 : Xt X a ρ G Φa) (h2 : ∀ G1, Φa false G1 → Xw X (.BoolOp .Or (b :: es) pos) ρ G1 Φt) (h3 : ∀ G1, Φa true G1 → Φt true G1) : Xw X (.BoolOp .Or (a :: b :: es) pos) ρ G Φt := xw_of (pw_or pt_tw pw_tw) (rt_or h1 h2 h3)
theorem xt_w {Φt : Bool → Store → Prop} (h : Xw X e ρ G Φt) : Xt X e ρ G Φt := xt_of pw_tw.pt h
theorem xt_not {Φt : Bool → Store → Prop} (h : Xt X a ρ G fun t G2 => Φt (!t) G2) : Xt X (.UnaryOp .Not a pos) ρ G Φt := xt_of (pt_not pt_tw) (rt_not h)
theorem xp_one {op : BoolOp} (h : Xp X a ρ G Φ) : Xp X (.BoolOp op [a] pos) ρ G Φ := xp_of (pe_one pe_tw) h
theorem xp_and {Φa : Pst} (h1 : Xp X a ρ G fun y G2 => ∃ t, y = .d (.bool t) ∧ Φa y G2) (h2 : ∀ G1, Φa (.d (.bool true)) G1 → Xp X (.BoolOp .And (b :: es) pos) ρ G1 Φ) (h3 : ∀ G1, Φa (.d (.bool false)) G1 → Φ (.d (.bool false)) G1) : Xp X (.BoolOp .And (a :: b :: es) pos) ρ G Φ :=
  xp_of (pe_and pe_tw pe_tw) (r_andV h1 h2 h3)
theorem xp_if {Φc : Bool → Store → Prop} (hc : Xt X c ρ G Φc) (h1 : ∀ G1, Φc true G1 → Xp X a ρ G1 Φ) (h2 : ∀ G1, Φc false G1 → Xp X b ρ G1 Φ) : Xp X (.IfExp c a b pos) ρ G Φ := xp_of (pe_ifExp pt_tw pe_tw pe_tw) (r_if hc h1 h2)
theorem xp_ifD {t : Bool} (hc : Xb X c ρ t) (h1 : t = true → Xp X a ρ G Φ) (h2 : t = false → Xp X b ρ G Φ) : Xp X (.IfExp c a b pos) ρ G Φ :=
  xp_if (hc G) (fun G1 q => by rw [q.2]; exact h1 q.1.symm) fun G1 q => by rw [q.2]; exact h2 q.1.symm

/-! arguments, calls -/
theorem xa_nil : Xad X [] ρ [] := fun G => xa_of pa_nil ra_nil
theorem xa_cons {Φa : Pst} {Φr : DV → List DV → Store → Prop} {Φl : List DV → Store → Prop} (ha : Xp X e ρ G Φa) (hr : ∀ x G1, Φa x G1 → Xa X es ρ G1 (Φr x)) (h : ∀ x G1 xs G2, Φa x G1 → Φr x xs G2 → Φl (x :: xs) G2)
    (hs : starEach (e :: es) X.env = (false, eval e X.env) :: starEach es X.env := by rfl) : Xa X (e :: es) ρ G Φl := xa_of (pa_cons pe_tw pa_tw hs) (ra_cons ha hr h)
theorem xad_cons {x : DV} {xs : List DV} (ha : Xd X e ρ x) (hr : Xad X es ρ xs) (hs : starEach (e :: es) X.env = (false, eval e X.env) :: starEach es X.env := by rfl) : Xad X (e :: es) ρ (x :: xs) := fun G =>
  xa_cons (Φa := Is x G) (Φr := fun _ => IsA xs G) (ha G) (fun x' G1 h => by rw [h.2]; exact hr G) (fun x' G1 xs' G2 h1 h2 => ⟨by rw [h1.1, h2.1], h2.2⟩) hs
/-- the last one has a choice -/
theorem xa_last {Φa : Pst} {Φl : List DV → Store → Prop} (ha : Xp X e ρ G Φa) (h : ∀ x G2, Φa x G2 → Φl [x] G2) (hs : starEach [e] X.env = (false, eval e X.env) :: starEach [] X.env := by rfl) : Xa X [e] ρ G Φl :=
  xa_cons (Φr := fun x xs G2 => Φa x G2 ∧ xs = []) ha (fun x G1 q => (xa_nil G1).imp fun y G2 z => ⟨by rw [z.2]; exact q, z.1⟩) (fun x G1 xs G2 q1 q2 => by rw [q2.2]; exact h x G2 q2.1) hs
theorem xa_front {x : DV} {Φr : List DV → Store → Prop} {Φl : List DV → Store → Prop} (ha : Xd X e ρ x) (hr : Xa X es ρ G Φr) (h : ∀ xs G2, Φr xs G2 → Φl (x :: xs) G2) (hs : starEach (e :: es) X.env = (false, eval e X.env) :: starEach es X.env := by rfl) : Xa X (e :: es) ρ G Φl :=
  xa_cons (Φa := Is x G) (Φr := fun _ => Φr) (ha G) (fun x' G1 q => by rw [q.2]; exact hr) (fun x' G1 xs G2 q1 q2 => by rw [q1.1]; exact h xs G2 q2) hs
theorem x_callB {r : List V → Hp → VK → Prop} {id : String} {x : Str} {Φl : List DV → Store → Prop} (hc : CallR X (.builtin id) r) (hm : X.mg x = none) (hv : bootBuiltins x = some (.builtin id)) (ha : Xa X (e :: es) ρ G Φl) (hr : ∀ xs G1, Φl xs G1 → CallOp X.K r xs G1 Φ) (hg : Gl X x := by rfl) (hn : x ≠ "__name__" := by decide)
    (hdb : (x == ("__debug__" : Str)) = false := by decide) (he : starEach (e :: es) X.env = (false, eval e X.env) :: starEach es X.env := by rfl) (hpl : (backTo pos (starEach es X.env)).any (·.1) = false := by rfl) : Xp X (.Call (.Name x p) (e :: es) [] pos) ρ G Φ :=
  xp_of (pe_callB hc hg hm hv pa_tw hn hdb he hpl) (r_cb ha hr)
theorem x_callTy {r : List V → Hp → VK → Prop} {id : String} {x : Str} {Φl : List DV → Store → Prop} (hc : CallR X (.type id) r) (hm : X.mg x = none) (hv : bootBuiltins x = some (.type id)) (ha : Xa X (e :: es) ρ G Φl) (hr : ∀ xs G1, Φl xs G1 → CallOp X.K r xs G1 Φ) (hg : Gl X x := by rfl) (hn : x ≠ "__name__" := by decide)
    (hdb : (x == ("__debug__" : Str)) = false := by decide) (he : starEach (e :: es) X.env = (false, eval e X.env) :: starEach es X.env := by rfl) (hpl : (backTo pos (starEach es X.env)).any (·.1) = false := by rfl) : Xp X (.Call (.Name x p) (e :: es) [] pos) ρ G Φ :=
  xp_of (pe_callTy hc hg hm hv pa_tw hn hdb he hpl) (r_cb ha hr)
end
end Fsh

set_option Elab.async false
set_option linter.all false
set_option maxRecDepth 100000
namespace Fsh
open PySem PySem.Spec PyProof.Rows L2

/-! ### own rules of built-ins -/
set_option maxHeartbeats 4000000 in
theorem ext_tup (l : Addr) (items : Array Value) (n : Nat) (b : Addr) (items2 : Array Value) (n2 : Nat) (d : Option Addr) (sl : Array (Option Value)) (h0 : ¬(!items.isEmpty && Builtin.List.listTooLong (items.size + items2.size)) = true) (h1 : items.size ≤ sizeLine) (h2 : items.size + items2.size ≤ sizeLine + 1) :
    Meets (Builtin.«list.extend» ⟨[.ref l, .ref b], []⟩) (fun _ R s => s.heap.get? l = some { cls := .type "list", dict := none, data := .seq items n, slots := #[] } ∧ s.heap.get? b = some { cls := .type "tuple", dict := d, data := .seq items2 n2, slots := sl } ∧
      R (.ok (.ret Value.none)) { s with heap := s.heap.update l (Obj.mapSeq fun x => x ++ items2), toks := s.toks }) :=
  .of_wp fun prog w A R s h => by
    obtain ⟨hp, g, dd, tk, os⟩ := s
    obtain ⟨hl, hb, h⟩ := h
    have f1 := AutoSeq1.idx_int
    have f2 := AutoSeq1.sub_tuple_tuple
    have f3 := AutoSeq1.sub_list_list
    have f4 := AutoSeq1.sub_tuple_list
    have f5 := AutoSeq1.sub_list_tuple
    have hz' : (items ++ items2).size ≤ sizeLine + 1 := by
      rw [Array.size_append]
      exact h2
    wp_walk using (wpAny_updateSeq hl rfl (hz := h1) (_hz' := hz')), wpAny_loadPart' hl, wpAny_loadPart' hb
    exact ⟨_, rfl, h⟩
section
variable {X : Cx}
theorem cr_str : CallR X (.type "str") (fun xs H Q => (∃ a, xs = [.str a] ∧ Q (.str a) H) ∨ ∃ i, xs = [.int i] ∧ i.natAbs.log2 < 1920 ∧ Q (.str (toString i)) H) := by
  intro pins s σ H xs us Q I r h
  rcases h with ⟨a, e, q⟩ | ⟨i, e, hz, q⟩
  · subst e
    cases r with
    | cons r1 r2 =>
      cases r2
      obtain ⟨t, e⟩ := r1
      subst e
      exact PySem.P.str_of_str ⟨.str a, H, I, ⟨t, rfl⟩, q⟩
  · exact call_str_int pins s σ H xs us Q I r ⟨i, e, hz, q⟩
theorem cr_repr : CallR X (.builtin "repr") (fun xs H Q => ∃ a, xs = [.str a] ∧ (reprText a).length ≤ sizeLine ∧ Q (.str (reprText a)) H) := by
  intro pins s σ H xs us Q I r h
  obtain ⟨a, e, hz, q⟩ := h
  subst e
  cases r with
  | cons r1 r2 =>
    cases r2
    obtain ⟨t, e⟩ := r1
    subst e
    exact PySem.P.repr_of_str ⟨.str _, H, I.tok _, ⟨_, rfl⟩, q⟩ hz
/-- repr of data, where no other repr runs -/
theorem cr_reprD (hg : X.A.guards = some []) (hu : X.A.units + 200 < cLine) : CallR X (.builtin "repr") (fun xs H Q => ∃ a d, xs = [.ref a] ∧ Dp X.K H (.ref a) d ∧ d.showable = true ∧ d.hasDict = false ∧ d.depth ≤ 64 ∧ d.shown.length ≤ sizeLine ∧ Q (.str d.shown) H) := by
  intro pins s σ H xs us Q I r h
  obtain ⟨a, d, e, hd, h1, h2, h3, h4, q⟩ := h
  subst e
  cases r with
  | cons r1 r2 =>
    cases r2
    cases r1
    obtain ⟨as, hr⟩ := Dp.reads I d _ _ hd rfl
    exact PySem.repr_of_reads' hr h1 (fun z => by rw [h2] at z; cases z) hg (by omega) (fun _ _ z => z) (fun h' u tk k => ⟨.str d.shown, H, I.kept k, ⟨_, rfl⟩, q⟩) h4
/-- xs.extend(a tuple) -/
theorem mr_extend : MtR X "list.extend" (fun x vs H Q => ∃ l b xs zs, x = .ref l ∧ vs = [.ref b] ∧ H l = some (.lst xs) ∧ SqT X.K H b zs ∧ xs.length + zs.length ≤ sizeLine ∧ Q .non (upd H l (.lst (xs ++ zs)))) := by
  intro pins s σ H x vs v us Q I rx rv h
  obtain ⟨l, b, xs, zs, e1, e2, hH, hB, hz, q⟩ := h
  subst e1 e2
  cases rx
  obtain ⟨u, e3, ru⟩ := rv.one
  subst e3
  cases ru
  obtain ⟨z, its, n, r, hl, e⟩ := I.lstM hH
  obtain ⟨its2, r2, ⟨⟨oc, od, odt, osl⟩, ho, hc, n2, hd⟩, z2⟩ := I.tuple hB
  cases hc
  cases hd
  have hl2 := r2.length
  have hsz : its.toArray.size + its2.toArray.size ≤ sizeLine := by
    rw [List.size_toArray, List.size_toArray]
    omega
  have fitsB : ¬ (!its.toArray.isEmpty && Builtin.List.listTooLong (its.toArray.size + its2.toArray.size)) = true := by
    rw [notLongL hsz, Bool.and_false]
    exact Bool.false_ne_true
  refine call_meets F.slot_list_extend ⟨_, e, rfl⟩ F.entry_list_extend (F.args_list_extend_2 _ _) (ext_tup l its.toArray n b its2.toArray n2 od osl fitsB (by rw [List.size_toArray]; omega) (by omega)) ⟨e, ho, ?_⟩
  refine ⟨V.non, _, I.lset (its' := its ++ its2) hH e (by simp) (r.append r2) ?_, rfl, q⟩
  rw [List.length_append]
  omega
end
end Fsh

set_option Elab.async false
set_option linter.all false
set_option maxRecDepth 100000
namespace Fsh
open PySem PySem.Spec PyProof.Rows L2

/-! ### what the built-ins give, by data -/
section
variable {K : PySem.W.Frag} {G : Store} {Φ : Pst}
theorem Rvs.one {B : Hp} {vs : List V} {x : DV} (r : Rvs K B vs [x]) : ∃ v, vs = [v] ∧ Rv K B v x := by
  cases r with
  | cons a b =>
    cases b
    exact ⟨_, rfl, a⟩
theorem Rvs.two {B : Hp} {vs : List V} {x y : DV} (r : Rvs K B vs [x, y]) : ∃ v u, vs = [v, u] ∧ Rv K B v x ∧ Rv K B u y := by
  cases r with
  | cons a b =>
    cases b with
    | cons b c =>
      cases c
      exact ⟨_, _, rfl, a, b⟩
theorem co_lenL {ds : List PyData} (q : Φ (.d (.int ds.length)) G) : CallOp K (fun xs H Q => ∃ p ys, xs = [.ref p] ∧ (SqL K H p ys ∨ SqT K H p ys) ∧ Q (.int ys.length) H) [.d (.list ds)] G Φ := fun F B H vs Q c r k => by
  obtain ⟨v, e, h⟩ := r.one
  subst e
  cases h with
  | rlst p z =>
    refine ⟨_, _, rfl, .inl (Evl.ex_l c.ex p), ?_⟩
    rw [z.len]
    exact k.ret (x := .d (.int _)) c (.rint _) q
theorem co_lenT {ds : List PyData} (q : Φ (.d (.int ds.length)) G) : CallOp K (fun xs H Q => ∃ p ys, xs = [.ref p] ∧ (SqL K H p ys ∨ SqT K H p ys) ∧ Q (.int ys.length) H) [.d (.tuple ds)] G Φ := fun F B H vs Q c r k => by
  obtain ⟨v, e, h⟩ := r.one
  subst e
  cases h with
  | rtup p z =>
    refine ⟨_, _, rfl, .inr (Evl.ex_t c.ex p), ?_⟩
    rw [z.len]
    exact k.ret (x := .d (.int _)) c (.rint _) q
theorem co_lenC {l : Addr} {ds : List PyData} (hm : (l, Cell.lst ds) ∈ G) (q : Φ (.d (.int ds.length)) G) : CallOp K (fun xs H Q => ∃ p ys, xs = [.ref p] ∧ (SqL K H p ys ∨ SqT K H p ys) ∧ Q (.int ys.length) H) [.a l] G Φ := fun F B H vs Q c r k => by
  obtain ⟨v, e, h⟩ := r.one
  have h : v = .ref l := h
  subst e h
  obtain ⟨ws, h1, h2⟩ := c.ce _ hm
  refine ⟨_, _, rfl, .inl (.inl (.inl h1)), ?_⟩
  rw [h2.len]
  exact k.ret (x := .d (.int _)) c (.rint _) q
theorem co_int {i : Int} (q : Φ (.d (.int i)) G) : CallOp K (fun xs H Q => (∃ i, xs = [.int i] ∧ Q (.int i) H) ∨ ∃ k, xs = [.bl k] ∧ Q (.int (if k then 1 else 0)) H) [.d (.int i)] G Φ := fun F B H vs Q c r k => by
  obtain ⟨v, e, h⟩ := r.one
  subst e
  cases h
  exact .inl ⟨i, rfl, k.ret (x := .d (.int _)) c (.rint _) q⟩
theorem co_strI {i : Int} (hi : i.natAbs.log2 < 1920) (q : Φ (.d (.str (toString i : String))) G) : CallOp K (fun xs H Q => (∃ a, xs = [.str a] ∧ Q (.str a) H) ∨ ∃ i : Int, xs = [.int i] ∧ i.natAbs.log2 < 1920 ∧ Q (.str (toString i : String)) H) [.d (.int i)] G Φ := fun F B H vs Q c r k => by
  obtain ⟨v, e, h⟩ := r.one
  subst e
  cases h
  exact .inr ⟨i, rfl, hi, k.ret (x := .d (.str _)) c (.rstr _) q⟩
theorem co_strS {s : Str} (q : Φ (.d (.str s)) G) : CallOp K (fun xs H Q => (∃ a, xs = [.str a] ∧ Q (.str a) H) ∨ ∃ i : Int, xs = [.int i] ∧ i.natAbs.log2 < 1920 ∧ Q (.str (toString i : String)) H) [.d (.str s)] G Φ := fun F B H vs Q c r k => by
  obtain ⟨v, e, h⟩ := r.one
  subst e
  cases h
  exact .inl ⟨s, rfl, k.ret (x := .d (.str _)) c (.rstr _) q⟩
theorem co_min {i j : Int} (q : Φ (.d (.int (if j < i then j else i))) G) : CallOp K (fun xs H Q => ∃ i j, xs = [.int i, .int j] ∧ Q (.int (if j < i then j else i)) H) [.d (.int i), .d (.int j)] G Φ := fun F B H vs Q c r k => by
  obtain ⟨v, u, e, h1, h2⟩ := r.two
  subst e
  cases h1
  cases h2
  exact ⟨i, j, rfl, k.ret (x := .d (.int _)) c (.rint _) q⟩
theorem co_sum {ns : List Int} (q : Φ (.d (.int ns.sum)) G) : CallOp K (rSum K) [.d (.list (ns.map PyData.int))] G Φ := fun F B H vs Q c r k => by
  obtain ⟨v, e, h⟩ := r.one
  subst e
  cases h with
  | rlst p z =>
    have e2 := z.ints
    subst e2
    exact ⟨_, ns, rfl, Evl.ex_l c.ex p, k.ret (x := .d (.int _)) c (.rint _) q⟩
theorem co_listL {ds : List PyData} : CallOp K (fun xs H Q => ∃ p ys, xs = [.ref p] ∧ (SqL K H p ys ∨ SqT K H p ys) ∧ ∀ l, H l = none → Q (.ref l) (upd H l (.lst ys))) [.d (.list ds)] G (New ds G) := fun F B H vs Q c r k => by
  obtain ⟨v, e, h⟩ := r.one
  subst e
  cases h with
  | rlst p z => exact ⟨_, _, rfl, .inl (Evl.ex_l c.ex p), fun l hl => k _ (.a l) _ B _ (Evl.Ex.refl B) (c.cell (x := .lst ds) hl ⟨_, upd_same, z⟩) rfl ⟨l, rfl, rfl⟩⟩
theorem co_listT {ds : List PyData} : CallOp K (fun xs H Q => ∃ p ys, xs = [.ref p] ∧ (SqL K H p ys ∨ SqT K H p ys) ∧ ∀ l, H l = none → Q (.ref l) (upd H l (.lst ys))) [.d (.tuple ds)] G (New ds G) := fun F B H vs Q c r k => by
  obtain ⟨v, e, h⟩ := r.one
  subst e
  cases h with
  | rtup p z => exact ⟨_, _, rfl, .inr (Evl.ex_t c.ex p), fun l hl => k _ (.a l) _ B _ (Evl.Ex.refl B) (c.cell (x := .lst ds) hl ⟨_, upd_same, z⟩) rfl ⟨l, rfl, rfl⟩⟩
/-- a new tuple -/
theorem Kp.tup {F B H : Hp} {Q : VK} {vs : List V} {ds : List PyData} {l : Addr} (k : Kp K F B Φ Q) (c : Cfg K F G B H) (hl : H l = none) (z : Rps K B vs ds) (q : Φ (.d (.tuple ds)) G) : Q (.ref l) (upd H l (.tup vs)) := by
  have e := ex_new (B := B) (Ex.free c.ex hl) (.tup vs)
  exact k (.ref l) (.d (.tuple ds)) G _ _ e (c.new hl _) (.rtup (Evl.st_of upd_same) (z.mono e)) q
theorem co_tupL {ds : List PyData} (q : Φ (.d (.tuple ds)) G) : CallOp K (fun xs H Q => ∃ p ys, xs = [.ref p] ∧ ((SqL K H p ys ∧ ∀ l, H l = none → Q (.ref l) (upd H l (.tup ys))) ∨ (SqT K H p ys ∧ Q (.ref p) H))) [.d (.list ds)] G Φ := fun F B H vs Q c r k => by
  obtain ⟨v, e, h⟩ := r.one
  subst e
  cases h with
  | rlst p z => exact ⟨_, _, rfl, .inl ⟨Evl.ex_l c.ex p, fun l hl => k.tup c hl z q⟩⟩
theorem co_tupC {l : Addr} {ds : List PyData} (hm : (l, Cell.lst ds) ∈ G) (q : Φ (.d (.tuple ds)) G) : CallOp K (fun xs H Q => ∃ p ys, xs = [.ref p] ∧ ((SqL K H p ys ∧ ∀ l, H l = none → Q (.ref l) (upd H l (.tup ys))) ∨ (SqT K H p ys ∧ Q (.ref p) H))) [.a l] G Φ := fun F B H vs Q c r k => by
  obtain ⟨v, e, h⟩ := r.one
  have h : v = .ref l := h
  subst e h
  obtain ⟨ws, h1, h2⟩ := c.ce _ hm
  exact ⟨_, _, rfl, .inl ⟨.inl (.inl h1), fun l hl => k.tup c hl h2 q⟩⟩
theorem co_repr {s : Str} (hz : (reprText s).length ≤ sizeLine) (q : Φ (.d (.str (reprText s))) G) : CallOp K (fun xs H Q => ∃ a, xs = [.str a] ∧ (reprText a).length ≤ sizeLine ∧ Q (.str (reprText a)) H) [.d (.str s)] G Φ := fun F B H vs Q c r k => by
  obtain ⟨v, e, h⟩ := r.one
  subst e
  cases h
  exact ⟨s, rfl, hz, k.ret (x := .d (.str _)) c (.rstr _) q⟩
theorem co_reprD {d : PyData} (h0 : ∃ ds, d = .tuple ds ∨ d = .list ds) (h1 : d.showable = true) (h2 : d.hasDict = false) (h3 : d.depth ≤ 64) (h4 : d.shown.length ≤ sizeLine) (q : Φ (.d (.str d.shown)) G) :
    CallOp K (fun xs H Q => ∃ a d, xs = [.ref a] ∧ Dp K H (.ref a) d ∧ d.showable = true ∧ d.hasDict = false ∧ d.depth ≤ 64 ∧ d.shown.length ≤ sizeLine ∧ Q (.str d.shown) H) [.d d] G Φ := fun F B H vs Q c r k => by
  obtain ⟨v, e, h⟩ := r.one
  subst e
  have hd : Dp K H v d := (Rp.mono c.ex h).dp
  obtain ⟨ds, e | e⟩ := h0
  · subst e
    cases h with
    | rtup p z => exact ⟨_, _, rfl, hd, h1, h2, h3, h4, k.ret (x := .d (.str _)) c (.rstr _) q⟩
  · subst e
    cases h with
    | rlst p z => exact ⟨_, _, rfl, hd, h1, h2, h3, h4, k.ret (x := .d (.str _)) c (.rstr _) q⟩

/-! items, slices -/
theorem at_rps {B : Hp} {vs : List V} {ds : List PyData} {i : Int} {d : PyData} (r : Rps K B vs ds) (h : atI ds i = some d) : ∃ v, atI vs i = some v ∧ Rp K B v d := by
  unfold atI at h ⊢
  rw [r.len]
  cases z : ixN ds.length i with
  | none =>
    rw [z] at h
    cases h
  | some j =>
    rw [z] at h
    exact r.at h
theorem op_ixT {ds : List PyData} {i : Int} {d : PyData} (h : atI ds i = some d) (q : Φ (.d d) G) : Op K (rIxT K) (.d (.tuple ds)) (.d (.int i)) G Φ := fun F B H v u Q c r1 r2 k => by
  cases r2
  cases r1 with
  | rtup p z =>
    obtain ⟨w, h1, h2⟩ := at_rps z h
    exact ⟨_, _, i, w, rfl, rfl, Evl.ex_t c.ex p, h1, k.ret (x := .d d) c h2 q⟩
theorem op_ixL {ds : List PyData} {i : Int} {d : PyData} (h : atI ds i = some d) (q : Φ (.d d) G) : Op K (rIxL K) (.d (.list ds)) (.d (.int i)) G Φ := fun F B H v u Q c r1 r2 k => by
  cases r2
  cases r1 with
  | rlst p z =>
    obtain ⟨w, h1, h2⟩ := at_rps z h
    exact ⟨_, _, i, w, rfl, rfl, Evl.ex_l c.ex p, h1, k.ret (x := .d d) c h2 q⟩
theorem op_ixC {l : Addr} {ds : List PyData} {i : Int} {d : PyData} (hm : (l, Cell.lst ds) ∈ G) (h : atI ds i = some d) (q : Φ (.d d) G) : Op K (rIxL K) (.a l) (.d (.int i)) G Φ := fun F B H v u Q c r1 r2 k => by
  cases r2
  have r1 : v = .ref l := r1
  subst r1
  obtain ⟨ws, h1, h2⟩ := c.ce _ hm
  obtain ⟨w, h3, h4⟩ := at_rps h2 h
  exact ⟨_, _, i, w, rfl, rfl, .inl (.inl h1), h3, k.ret (x := .d d) c h4 q⟩
def RO (K : PySem.W.Frag) (t : TO) (ρ : Env) (o : Option Int) : Prop := ∀ F σ B G H (Q : Option Int → Hp → Prop), Cfg K F G B H → Slots K B σ ρ → (∀ B2 H2, Ex B B2 → Cfg K F G B2 H2 → Q o H2) → t σ H Q
theorem ro_none {ρ : Env} : RO K tNoPart ρ none := fun F σ B G H Q c s k => k B H (Evl.Ex.refl B) c
theorem ro_some {ρ : Env} {t : TE} {i : Int} (h : ∀ G, R K t ρ G (Is (.d (.int i)) G)) : RO K (tPart t) ρ (some i) := fun F σ B G H Q c s k =>
  h G F σ B H _ c s fun v x G2 B2 H2 e c2 r q => by
    rw [q.1] at r
    rw [q.2] at c2
    cases r
    exact ⟨i, rfl, k B2 H2 e c2⟩
def cutD (ds : List PyData) (lo hi : Option Int) : List PyData := (ds.drop (HT.sIx ds.length 0 lo)).take (HT.sIx ds.length ds.length hi - HT.sIx ds.length 0 lo)
theorem cut_rps {B : Hp} {vs : List V} {ds : List PyData} (r : Rps K B vs ds) (lo hi : Option Int) : Rps K B (cutV vs lo hi) (cutD ds lo hi) := by
  unfold cutV cutD
  rw [r.len]
  exact (r.drop _).take _
theorem r_slL {ρ : Env} {te : TE} {tl th : TO} {lo hi : Option Int} {ds : List PyData} (h : R K te ρ G (Is (.d (.list ds)) G)) (h1 : RO K tl ρ lo) (h2 : RO K th ρ hi) : R K (L2.tSl (rSlL K) te tl th) ρ G (New (cutD ds lo hi) G) := fun F σ B H Q c s k =>
  h F σ B H _ c s fun v x G2 B2 H2 e c2 r q => by
    rw [q.1] at r
    rw [q.2] at c2
    refine h1 F σ B2 G H2 _ c2 (s.mono e) fun B3 H3 e3 c3 => ?_
    refine h2 F σ B3 G H3 _ c3 (s.mono (e.trans e3)) fun B4 H4 e4 c4 => ?_
    cases r with
    | rlst p z =>
      refine ⟨_, _, rfl, Evl.ex_l ((e3.trans e4).trans c4.ex) p, fun l hl => ?_⟩
      exact k _ (.a l) _ B4 _ ((e.trans e3).trans e4) (c4.cell (x := .lst (cutD ds lo hi)) hl ⟨_, upd_same, (cut_rps z lo hi).mono (e3.trans e4)⟩) rfl ⟨l, rfl, rfl⟩
theorem r_slT {ρ : Env} {te : TE} {tl th : TO} {lo hi : Option Int} {ds : List PyData} (h : R K te ρ G (Is (.d (.tuple ds)) G)) (h1 : RO K tl ρ lo) (h2 : RO K th ρ hi) : R K (L2.tSl (rSlA K) te tl th) ρ G (Is (.d (.tuple (cutD ds lo hi))) G) := fun F σ B H Q c s k =>
  h F σ B H _ c s fun v x G2 B2 H2 e c2 r q => by
    rw [q.1] at r
    rw [q.2] at c2
    refine h1 F σ B2 G H2 _ c2 (s.mono e) fun B3 H3 e3 c3 => ?_
    refine h2 F σ B3 G H3 _ c3 (s.mono (e.trans e3)) fun B4 H4 e4 c4 => ?_
    cases r with
    | rtup p z =>
      have k4 := k.mono ((e.trans e3).trans e4)
      have p4 := Evl.ex_t (e3.trans e4) p
      have z4 := z.mono (e3.trans e4)
      refine ⟨_, _, rfl, Evl.ex_t c4.ex p4, fun w => ?_, fun w l hl => k4.tup c4 hl (cut_rps z4 lo hi) ⟨rfl, rfl⟩⟩
      refine k4.ret (x := .d (.tuple ds)) c4 (.rtup p4 z4) ⟨?_, rfl⟩
      unfold cutD
      rw [z.len] at w
      rw [w.1, w.2, List.drop_zero, Nat.sub_zero, List.take_length]
/-! xs[i::2] -/
def pick2 {α : Type} (xs : List α) (i : Int) : List α := (sliceRange (sliceBounds (some i) none (some 2) xs.length).1 (sliceBounds (some i) none (some 2) xs.length).2.1 (sliceBounds (some i) none (some 2) xs.length).2.2).filterMap (xs[·]?)
theorem pick2_mem {α : Type} {xs : List α} {i : Int} {x : α} (h : x ∈ pick2 xs i) : x ∈ xs := by
  obtain ⟨j, _, hj⟩ := List.mem_filterMap.mp h
  exact List.mem_of_getElem? hj
theorem fm_rps {B : Hp} {vs : List V} {ds : List PyData} (r : Rps K B vs ds) : ∀ js : List Nat, Rps K B (js.filterMap (vs[·]?)) (js.filterMap (ds[·]?))
  | [] => .nil
  | j :: js => by
    rw [List.filterMap_cons, List.filterMap_cons]
    cases z : ds[j]? with
    | none =>
      have : vs[j]? = none := by
        rw [List.getElem?_eq_none_iff] at z ⊢
        rw [r.len]
        exact z
      rw [this]
      exact fm_rps r js
    | some d =>
      obtain ⟨v, h1, h2⟩ := r.at z
      rw [h1]
      exact .cons h2 (fm_rps r js)
theorem pick2_rps {B : Hp} {vs : List V} {ds : List PyData} (r : Rps K B vs ds) (i : Int) : Rps K B (pick2 vs i) (pick2 ds i) := by
  unfold pick2
  rw [r.len]
  exact fm_rps r _
theorem vals_fm {vs : List V} {us : List Value} (r : Vals vs us) : ∀ js : List Nat, Vals (js.filterMap (vs[·]?)) (js.filterMap (us[·]?))
  | [] => .nil
  | j :: js => by
    rw [List.filterMap_cons, List.filterMap_cons]
    cases z : vs[j]? with
    | none =>
      have : us[j]? = none := r.none_of z
      rw [this]
      exact vals_fm r js
    | some v =>
      obtain ⟨u, h1, h2⟩ := r.get z
      rw [h1]
      exact .cons h2 (vals_fm r js)
def tPick (K : PySem.W.Frag) (te tl : TE) : TE := fun σ H Q => te σ H fun x H1 => tl σ H1 fun y H2 => ∃ a xs i, x = .ref a ∧ y = .int i ∧ SqL K H2 a xs ∧ ∀ p, H2 p = none → Q (.ref p) (upd H2 p (.lst (pick2 xs i)))
theorem pe_pick {X : Cx} {e lo : Expr} {te tl : TE} {k : Nat} {p1 p3 pos : Pos} (he : PE X e te) (hl : PE X lo tl) : PE X (.Subscript e (.Slice (some lo) none (some (.Constant (.int 2) k p1)) p3) pos) (tPick X.K te tl) := by
  refine ⟨fun pins s σ H Q I h => ?_⟩
  refine Subscript_ (thn (he.run pins s σ H _ I h) fun v s1 ⟨x, H1, I1, r1, q1⟩ => ?_)
  refine wpAny_Slice ?_
  rw [evalPart_some]
  refine thn (hl.run pins s1 σ H1 _ I1 q1) fun u s2 ⟨y, H2, I2, r2, a, xs, i, ex, ey, hx, q⟩ => ?_
  subst ex ey
  obtain ⟨t, eu⟩ := r2
  subst eu
  cases r1
  rw [evalPart_none]
  refine wpAny_pure ?_
  have hst : PO X (some (.Constant (.int 2) k p1)) (tPart (tC (.int 2))) := po_some pe_int
  refine thn (hst.run pins s2 σ H2 (fun o H4 => o = some 2 ∧ H4 = H2) I2 ⟨2, rfl, rfl, rfl⟩) fun vs s4 ⟨o, H4, I4, ps, eo, e4⟩ => ?_
  subst eo e4
  have I5 : Inv X pins σ H4 { s4 with heap := s4.heap.push { cls := .type "slice", data := .fields #[.int i t, .none, vs] } } := I4.kept (t' := s4.toks) fun b ob z => Heap.get?_push_of_some _ z
  obtain ⟨its, r, ht, hz⟩ := I5.list hx
  have hlen := r.length
  show wpAny (model X.prog X.w) X.A (subscriptTail e (.Slice (some lo) none (some (.Constant (.int 2) k p1)) p3) (.ref a) (.ref s4.heap.objs.size)) (EP X pins σ Q) X.xe _
  refine tail_any (ops := [.ref a, .ref s4.heap.objs.size]) ht.isList.typeIs PySem.slot_list_getitem.lookup ?_ (by with_unfolding_all rfl)
  refine wpAny_getItem_list_slice ht.isList (Heap.IsSliceOf.new _ _ _ vs) (.int i t) .none ps (by decide) ?_ (by rw [List.size_toArray]; omega)
  have e : slicePick its.toArray (some i) none (some 2) = (pick2 its i).toArray := by
    unfold slicePick pick2
    rw [List.size_toArray]
    congr 1
    apply congrFun
    apply congrArg
    funext j
    exact List.getElem?_toArray
  rw [e]
  have hp : (pick2 xs i).length ≤ sizeLine := by
    have h1 : (pick2 xs i).length = (pick2 its i).length := by
      unfold pick2
      rw [hlen]
      exact (vals_fm r _).length
    have h2 := slicePick_size_le its.toArray (some i) none (some 2)
    rw [e, List.size_toArray, List.size_toArray] at h2
    omega
  refine ⟨.ref _, _, I5.laid (t' := s4.toks) (o := .lst (pick2 xs i)) (fun b ob z => Heap.get?_push_of_some _ z) (Nat.le_refl _) ?_, rfl, q _ (I5.hok.fresh (Nat.le_refl _))⟩
  refine ⟨hp, pick2 its i, 0, ?_, Heap.get?_push_size _ rfl⟩
  unfold pick2
  rw [hlen]
  exact vals_fm r _
theorem r_pick {ρ : Env} {te tl : TE} {ds : List PyData} {Φl : Pst} (h : R K te ρ G (Is (.d (.list ds)) G)) (hl : R K tl ρ G Φl) (hq : ∀ y G2, Φl y G2 → ∃ i, y = .d (.int i) ∧ ∀ l, Φ (.a l) ((l, .lst (pick2 ds i)) :: G2)) : R K (tPick K te tl) ρ G Φ := fun F σ B H Q c s k =>
  h F σ B H _ c s fun v x G2 B2 H2 e c2 r q => by
    rw [q.1] at r
    rw [q.2] at c2
    refine hl F σ B2 H2 _ c2 (s.mono e) fun u y G3 B3 H3 e3 c3 r3 q3 => ?_
    obtain ⟨i, ey, q4⟩ := hq y G3 q3
    subst ey
    cases r3
    cases r with
    | rlst p z => exact ⟨_, _, i, rfl, rfl, Evl.ex_l (e3.trans c3.ex) p, fun l hl => k _ (.a l) _ B3 _ (e.trans e3) (c3.cell (x := .lst (pick2 ds i)) hl ⟨_, upd_same, (pick2_rps z i).mono e3⟩) rfl (q4 l)⟩
end
end Fsh

set_option Elab.async false
set_option linter.all false
set_option maxRecDepth 100000
namespace Fsh
open PySem PySem.Spec PyProof.Rows L2

section
variable {X : Cx} {e a b c o : Expr} {es : List Expr} {ρ : Env} {G : Store} {Φ : Pst} {pos p p2 apos : Pos}
/-! ### displays -/
theorem xp_lst {Φl : List DV → Store → Prop} (h : Xa X es ρ G Φl) (hq : ∀ xs G2, Φl xs G2 → ∃ ds, xs = ds.map DV.d ∧ ds.length ≤ 100000 ∧ ∀ l, Φ (.a l) ((l, .lst ds) :: G2)) : Xp X (.List es pos) ρ G Φ := xp_of (pe_lst pa_tw) fun F σ B H Q c s k =>
  h F σ B H _ c s fun vs xs G2 B2 H2 e2 c2 r q => by
    obtain ⟨ds, e3, hz, q2⟩ := hq xs G2 q
    subst e3
    have r' := r.data
    refine ⟨by rw [r'.len]; exact Evl.sz_of hz, fun l hl => ?_⟩
    exact k _ (.a l) _ B2 _ e2 (c2.cell (x := .lst ds) hl ⟨_, upd_same, r'⟩) rfl (q2 l)
theorem xl_lst {ds : List PyData} (h : Xad X es ρ (ds.map DV.d)) (hz : ds.length ≤ 100000 := by decide) : Xl X (.List es pos) ρ ds := fun G => xp_lst (h G) fun xs G2 q => ⟨ds, q.1, hz, fun l => ⟨l, rfl, by rw [q.2]⟩⟩
theorem xp_tup {x1 : Nat} {Φl : List DV → Store → Prop} (h : Xa X es ρ G Φl) (hq : ∀ xs G2, Φl xs G2 → ∃ ds, xs = ds.map DV.d ∧ ds.length ≤ 100000 ∧ Φ (.d (.tuple ds)) G2) : Xp X (.Tuple es x1 pos) ρ G Φ := xp_of (pe_tup pa_tw) fun F σ B H Q c s k =>
  h F σ B H _ c s fun vs xs G2 B2 H2 e2 c2 r q => by
    obtain ⟨ds, e3, hz, q2⟩ := hq xs G2 q
    subst e3
    have r' := r.data
    refine ⟨by rw [r'.len]; exact Evl.sz_of hz, fun l hl => ?_⟩
    exact (k.mono e2).tup c2 hl r' q2
theorem xd_tup {x1 : Nat} {ds : List PyData} (h : Xad X es ρ (ds.map DV.d)) (hz : ds.length ≤ 100000 := by decide) : Xd X (.Tuple es x1 pos) ρ (.d (.tuple ds)) := fun G => xp_tup (h G) fun xs G2 q => ⟨ds, q.1, hz, rfl, q.2⟩
theorem nodup_look : True := trivial
/-! dicts with text keys -/
def look (kvs : List (Key × DV)) (k : Key) : Option DV := (kvs.find? fun kv => decide (kv.1 = k)).map (·.2)
def putD (kvs : List (Key × DV)) (k : Key) (v : DV) : List (Key × DV) :=
  if (kvs.any fun e => decide (e.1 = k)) = true then kvs.map (fun e => if e.1 = k then (e.1, v) else e) else kvs ++ [(k, v)]
variable {K : PySem.W.Frag}
theorem Kvs.len {B : Hp} : ∀ {ws : List (Key × V)} {kvs : List (Key × DV)}, Kvs K B ws kvs → ws.length = kvs.length
  | _, _, .nil => rfl
  | _, _, .cons _ q => congrArg Nat.succ q.len
theorem Kvs.look {B : Hp} {k : Key} : ∀ {ws : List (Key × V)} {kvs : List (Key × DV)}, Kvs K B ws kvs → ∀ {x : DV}, look kvs k = some x → ∃ v, valV ws k = some v ∧ Rv K B v x
  | _, _, .nil, _, h => by cases h
  | _, _, .cons (k := j) (v := v) (x := y) h q, x, e => by
    unfold Fsh.look at e
    rw [List.find?_cons] at e
    by_cases z : j = k
    · rw [show (decide (j = k)) = true from decide_eq_true z] at e
      cases e
      exact ⟨v, valV_pos z, h⟩
    · rw [show (decide (j = k)) = false from decide_eq_false z] at e
      obtain ⟨w, h1, h2⟩ := q.look (x := x) e
      exact ⟨w, by rw [valV_neg z]; exact h1, h2⟩
theorem Kvs.miss {B : Hp} {k : Key} : ∀ {ws : List (Key × V)} {kvs : List (Key × DV)}, Kvs K B ws kvs → Fsh.look kvs k = none → valV ws k = none
  | _, _, .nil, _ => rfl
  | _, _, .cons (k := j) (v := v) (x := y) h q, e => by
    unfold Fsh.look at e
    rw [List.find?_cons] at e
    by_cases z : j = k
    · rw [show (decide (j = k)) = true from decide_eq_true z] at e
      cases e
    · rw [show (decide (j = k)) = false from decide_eq_false z] at e
      rw [valV_neg z]
      exact q.miss e
theorem Kvs.app {B : Hp} : ∀ {ws : List (Key × V)} {kvs : List (Key × DV)} {k : Key} {v : V} {x : DV}, Kvs K B ws kvs → Rv K B v x → Kvs K B (ws ++ [(k, v)]) (kvs ++ [(k, x)])
  | _, _, _, _, _, .nil, r => .cons r .nil
  | _, _, _, _, _, .cons h q, r => .cons h (q.app r)
theorem Kvs.any {B : Hp} {k : Key} : ∀ {ws : List (Key × V)} {kvs : List (Key × DV)}, Kvs K B ws kvs → (ws.any fun kv => decide (kv.1 = k)) = (kvs.any fun kv => decide (kv.1 = k))
  | _, _, .nil => rfl
  | _, _, .cons h q => by rw [List.any_cons, List.any_cons, q.any]
theorem Kvs.repl {B : Hp} {k : Key} {v : V} {x : DV} (r : Rv K B v x) : ∀ {ws : List (Key × V)} {kvs : List (Key × DV)}, Kvs K B ws kvs → Kvs K B (ws.map fun kv => if kv.1 = k then (kv.1, v) else kv) (kvs.map fun kv => if kv.1 = k then (kv.1, x) else kv)
  | _, _, .nil => .nil
  | _, _, .cons (k := j) h q => by
    rw [List.map_cons, List.map_cons]
    by_cases z : j = k
    · rw [if_pos z, if_pos z]
      exact .cons r (q.repl r)
    · rw [if_neg z, if_neg z]
      exact .cons h (q.repl r)
theorem Kvs.put {B : Hp} {k : Key} {v : V} {x : DV} {ws : List (Key × V)} {kvs : List (Key × DV)} (q : Kvs K B ws kvs) (r : Rv K B v x) : Kvs K B (putK ws k v) (putD kvs k x) := by
  unfold putK putD
  rw [q.any]
  split
  · exact q.repl r
  · exact q.app r
theorem kv_of {B : Hp} {k : Key} {v : V} {x : DV} (e : x = match k with | .inl i => .d (.int i) | .inr s => .d (.str s)) (r : Rv K B v x) : v = kV k := by
  subst e
  cases k with
  | inl i =>
    cases r
    rfl
  | inr s =>
    cases r
    rfl
def keyD : Key → DV
  | .inl i => .d (.int i)
  | .inr s => .d (.str s)
theorem keyD_v {B : Hp} {k : Key} {v : V} (r : Rv K B v (keyD k)) : v = kV k := by
  cases k with
  | inl i =>
    cases r
    rfl
  | inr s =>
    cases r
    rfl
theorem xp_dget {l : Addr} {kvs : List (Key × DV)} {k : Key} {x : DV} (hu : X.A.units + 1 < cLine) (ho : Xd X o ρ (.a l)) (hi : Xd X e ρ (keyD k)) (hm : (l, Cell.dct kvs) ∈ G) (hk : look kvs k = some x) (q : Φ x G) (hs : NoSl e := by exact fun _ _ => rfl) : Xp X (.Subscript o e pos) ρ G Φ :=
  xp_of (pe_dget hu pe_tw pe_tw hs) fun F σ B H Q c s kk => ho G F σ B H _ c s fun v y G2 B2 H2 e2 c2 r2 q2 => hi G2 F σ B2 H2 _ c2 (s.mono e2) fun u z G3 B3 H3 e3 c3 r3 q3 => by
    rw [q2.1] at r2
    rw [q3.1] at r3
    rw [q3.2, q2.2] at c3
    have r2 : v = .ref l := r2
    subst r2
    have ev := keyD_v r3
    subst ev
    obtain ⟨ws, h1, h2⟩ := c3.ce _ hm
    obtain ⟨w, h4, h5⟩ := h2.look hk
    exact ⟨l, w, rfl, by rw [← h4]; exact DGet.k h1, kk w x G B3 H3 (e2.trans e3) c3 h5 q⟩
theorem xp_dget2 {l : Addr} {kvs : List (Key × DV)} {k : Key} {y : DV} (hu : X.A.units + 1 < cLine) (ho : Xd X o ρ (.a l)) (hi : Xd X e ρ (keyD k)) (hf : Xd X b ρ y) (hm : (l, Cell.dct kvs) ∈ G) (q : Φ ((look kvs k).getD y) G) (m : M2 X o "get" apos e b pos := by exact ⟨rfl, rfl, rfl, rfl⟩) : Xp X (.Call (.Attribute o "get" apos) [e, b] [] pos) ρ G Φ :=
  xp_of (pe_dget2 hu pe_tw pe_tw pe_tw m) fun F σ B H Q c s kk => ho G F σ B H _ c s fun v y2 G2 B2 H2 e2 c2 r2 q2 => by
    rw [q2.1] at r2
    rw [q2.2] at c2
    have r2 : v = .ref l := r2
    subst r2
    obtain ⟨ws0, h0, _⟩ := c2.ce _ hm
    refine ⟨l, rfl, .inl ⟨ws0, .inl h0⟩, hi G F σ B2 H2 _ c2 (s.mono e2) fun u z G3 B3 H3 e3 c3 r3 q3 => hf G3 F σ B3 H3 _ c3 (s.mono (e2.trans e3)) fun u4 z4 G4 B4 H4 e4 c4 r4 q4 => ?_⟩
    rw [q3.1] at r3
    rw [q4.1] at r4
    rw [q4.2, q3.2] at c4
    have ev := keyD_v r3
    subst ev
    obtain ⟨ws, h1, h2⟩ := c4.ce _ hm
    refine ⟨valV ws k, DGet.k h1, ?_⟩
    cases hk : look kvs k with
    | none =>
      rw [h2.miss hk]
      rw [hk] at q
      exact kk u4 y G B4 H4 ((e2.trans e3).trans e4) c4 r4 q
    | some x =>
      obtain ⟨w, h4, h5⟩ := h2.look hk
      rw [h4]
      rw [hk] at q
      exact kk w x G B4 H4 ((e2.trans e3).trans e4) c4 h5 q
theorem xs_dput {l : Addr} {k : Key} {N : Env → Store → Prop} {pos' : Pos} {Φv : Pst} (hu : X.A.units + 1 < cLine) (hv : Xp X a ρ G Φv) (ho : Xd X o ρ (.a l)) (hi : Xd X e ρ (keyD k))
    (hq : ∀ x G2, Φv x G2 → ∃ G3 kvs G4, G2 = G3 ++ (l, .dct kvs) :: G4 ∧ kvs.length ≤ 100000 ∧ N ρ (G3 ++ (l, .dct (putD kvs k x)) :: G4)) (hs : swapsWith a (some (.Subscript o e pos')) pos.line X.env = pure false := by rfl) : Xs X (.Assign [.Subscript o e pos'] a pos) ρ G N Φ :=
  xs_of (ps_dput hu pe_tw pe_tw pe_tw hs) fun F σ B H D c s n kk => hv F σ B H _ c s fun v x G2 B2 H2 e2 c2 r2 q2 => ho G2 F σ B2 H2 _ c2 (s.mono e2) fun w y G3 B3 H3 e3 c3 r3 q3 => hi G3 F σ B3 H3 _ c3 (s.mono (e2.trans e3)) fun u z G4 B4 H4 e4 c4 r4 q4 => by
    rw [q3.1] at r3
    rw [q4.1] at r4
    rw [q4.2, q3.2] at c4
    have r3 : w = .ref l := r3
    subst r3
    have ev := keyD_v r4
    subst ev
    obtain ⟨G5, kvs, G6, eG, hz, p⟩ := hq x G2 q2
    subst eG
    obtain ⟨ws, h1, h2⟩ := c4.ce (l, .dct kvs) (List.mem_append_right _ List.mem_cons_self)
    refine ⟨l, _, rfl, DPut.k h1 (by rw [h2.len]; exact Nat.lt_of_le_of_lt hz (by decide)), ?_⟩
    refine n ρ σ _ B4 _ ((e2.trans e3).trans e4) (c4.set (x' := .dct (putD kvs k x)) ⟨_, upd_same, h2.put (r2.mono (e3.trans e4))⟩) (s.mono ((e2.trans e3).trans e4)) p
/-! ### items, slices -/
theorem xd_ixT {ds : List PyData} {i : Int} {d : PyData} (ha : Xd X a ρ (.d (.tuple ds))) (hb : Xd X b ρ (.d (.int i))) (h : atI ds i = some d) (hs : PlainIx b := by exact fun _ _ => rfl) : Xd X (.Subscript a b pos) ρ (.d d) := fun G => xp_of (pe_ix ix_tup pe_tw pe_tw hs) (r_opD (ha G) (hb G) (op_ixT h ⟨rfl, rfl⟩))
theorem xd_ixL {ds : List PyData} {i : Int} {d : PyData} (ha : Xd X a ρ (.d (.list ds))) (hb : Xd X b ρ (.d (.int i))) (h : atI ds i = some d) (hs : PlainIx b := by exact fun _ _ => rfl) : Xd X (.Subscript a b pos) ρ (.d d) := fun G => xp_of (pe_ix ix_list pe_tw pe_tw hs) (r_opD (ha G) (hb G) (op_ixL h ⟨rfl, rfl⟩))
theorem xp_ixL {ds : List PyData} {Φb : Pst} (ha : Xd X a ρ (.d (.list ds))) (hb : Xp X b ρ G Φb) (h : ∀ y G2, Φb y G2 → ∃ i d, y = .d (.int i) ∧ atI ds i = some d ∧ Φ (.d d) G2) (hs : PlainIx b := by exact fun _ _ => rfl) : Xp X (.Subscript a b pos) ρ G Φ :=
  xp_of (pe_ix ix_list pe_tw pe_tw hs) (r_op (Φa := Is (.d (.list ds)) G) (Φb := fun _ => Φb) (ha G) (fun x G1 q => by rw [q.2]; exact hb) fun x G1 y G2 q1 q2 => by
    obtain ⟨i, d, e1, e2, q3⟩ := h y G2 q2
    subst e1
    rw [q1.1]
    exact op_ixL e2 q3)
theorem xd_ixC {l : Addr} {ds : List PyData} {i : Int} {d : PyData} (ha : Xd X a ρ (.a l)) (hb : Xd X b ρ (.d (.int i))) (hm : (l, Cell.lst ds) ∈ G) (h : atI ds i = some d) (q : Φ (.d d) G) (hs : PlainIx b := by exact fun _ _ => rfl) : Xp X (.Subscript a b pos) ρ G Φ := xp_of (pe_ix ix_list pe_tw pe_tw hs) (r_opD (ha G) (hb G) (op_ixC hm h q))
theorem xl_sl {lo hi : Option Expr} {l h : Option Int} {ds : List PyData} {tl th : TO} (he : Xd X e ρ (.d (.list ds))) (pl : PO X lo tl) (rl : RO X.K tl ρ l) (pu : PO X hi th) (ru : RO X.K th ρ h) : Xl X (.Subscript e (.Slice lo hi none p2) pos) ρ (cutD ds l h) := fun G => xp_of (pe_slice sl_list pe_tw pl pu) (r_slL (he G) rl ru)
theorem xd_slT {lo hi : Option Expr} {l h : Option Int} {ds : List PyData} {tl th : TO} (he : Xd X e ρ (.d (.tuple ds))) (pl : PO X lo tl) (rl : RO X.K tl ρ l) (pu : PO X hi th) (ru : RO X.K th ρ h) : Xd X (.Subscript e (.Slice lo hi none p2) pos) ρ (.d (.tuple (cutD ds l h))) := fun G => xp_of (pe_slice sl_tupA pe_tw pl pu) (r_slT (he G) rl ru)
theorem ro_x {i : Int} (h : Xd X e ρ (.d (.int i))) : RO X.K (tPart (tw X e)) ρ (some i) := ro_some h
theorem po_x : PO X (some e) (tPart (tw X e)) := po_some pe_tw
theorem xp_pick {lo : Expr} {ds : List PyData} {Φl : Pst} {k : Nat} {p1 : Pos} (he : Xd X e ρ (.d (.list ds))) (hl : Xp X lo ρ G Φl) (hq : ∀ y G2, Φl y G2 → ∃ i, y = .d (.int i) ∧ ∀ l, Φ (.a l) ((l, .lst (pick2 ds i)) :: G2)) : Xp X (.Subscript e (.Slice (some lo) none (some (.Constant (.int 2) k p1)) p2) pos) ρ G Φ :=
  xp_of (pe_pick pe_tw pe_tw) (r_pick (he G) hl hq)
/-! ### methods -/
theorem xd_join {s : Str} {ys : List Str} (ho : Xd X o ρ (.d (.str s))) (he : Xd X e ρ (.d (.list (ys.map PyData.str)))) (hz : (ys.map (·.length)).sum + ys.length * s.length ≤ 16777216) (hs : starEach [e] X.env = [(false, eval e X.env)] := by rfl) (hb : attributeBase o "join" X.env (eval o X.env) = eval o X.env := by rfl)
    (hl : (apos.endLine == pos.line) = true := by rfl) : Xd X (.Call (.Attribute o "join" apos) [e] [] pos) ρ (.d (.str (Txt.join s ys))) := fun G => xp_of (pe_join pe_tw pe_tw hs hb hl) fun F σ B H Q c sl k => ho G F σ B H _ c sl fun v x G2 B2 H2 e2 c2 r2 q2 => by
  rw [q2.1] at r2
  rw [q2.2] at c2
  cases r2
  refine ⟨⟨s, rfl⟩, he G F σ B2 H2 _ c2 (sl.mono e2) fun u y G3 B3 H3 e3 c3 r3 q3 => ?_⟩
  rw [q3.1] at r3
  rw [q3.2] at c3
  cases r3 with
  | rlst h1 h2 =>
    have e4 := h2.strs
    subst e4
    exact ⟨s, _, ys, rfl, rfl, .inl (Evl.ex_l c3.ex h1), hz, (k.mono (e2.trans e3)).ret (x := .d (.str _)) c3 (.rstr _) ⟨rfl, rfl⟩⟩
theorem r_append {to te : TE} {l : Addr} {Φe : Pst} (ho : R K to ρ G (Is (.a l) G)) (hg : ∃ xs, (l, Cell.lst xs) ∈ G) (he : R K te ρ G Φe) (hq : ∀ y G2, Φe y G2 → ∃ d G3 xs G4, y = .d d ∧ G2 = G3 ++ (l, .lst xs) :: G4 ∧ xs.length < 100000 ∧ Φ (.d .none) (G3 ++ (l, .lst (xs ++ [d])) :: G4)) :
    R K (tBM K "list" rAppend to (tCons te tNil)) ρ G Φ := fun F σ B H Q c s k => ho F σ B H _ c s fun v x G2 B2 H2 e2 c2 r2 q2 => by
  rw [q2.1] at r2
  rw [q2.2] at c2
  have r2 : v = .ref l := r2
  subst r2
  obtain ⟨xs0, hm⟩ := hg
  obtain ⟨ws0, h0, _⟩ := c2.ce _ hm
  refine ⟨.inl ⟨rfl, ws0, .inl (.inl h0)⟩, he F σ B2 H2 _ c2 (s.mono e2) fun u y G3 B3 H3 e3 c3 r3 q3 => ?_⟩
  obtain ⟨d, G4, xs, G5, ey, eG, hz, p⟩ := hq y G3 q3
  subst ey eG
  obtain ⟨ws, h1, h2⟩ := c3.ce (l, .lst xs) (List.mem_append_right _ List.mem_cons_self)
  refine ⟨l, ws, u, rfl, rfl, h1, by rw [h2.len]; exact Evl.sz_lt hz, ?_⟩
  exact k .non (.d .none) _ B3 _ (e2.trans e3) (c3.set (x' := .lst (xs ++ [d])) ⟨_, upd_same, h2.app (.cons r3 .nil)⟩) .rnon p
theorem xp_append {l : Addr} {Φe : Pst} (ho : Xd X o ρ (.a l)) (hg : ∃ xs, (l, Cell.lst xs) ∈ G) (he : Xp X e ρ G Φe) (hq : ∀ y G2, Φe y G2 → ∃ d G3 xs G4, y = .d d ∧ G2 = G3 ++ (l, .lst xs) :: G4 ∧ xs.length < 100000 ∧ Φ (.d .none) (G3 ++ (l, .lst (xs ++ [d])) :: G4))
    (hb : attributeBase o "append" X.env (eval o X.env) = eval o X.env := by rfl) (hf : ((backTo pos (starEach [e] X.env)).all (fun x => !x.1) && (backToKw pos (keywordEach [] X.env)).all (fun x => x.1.isSome) && decide (([e] : List Expr).length + ([] : List Keyword).length + (if ([] : List Keyword).isEmpty then 0 else 1) < 30)) = true := by rfl)
    (hl : (apos.endLine == pos.line) = true := by rfl) (hs : starEach [e] X.env = (false, eval e X.env) :: starEach [] X.env := by rfl) (hp : (backTo pos (starEach [] X.env)).any (·.1) = false := by rfl) : Xp X (.Call (.Attribute o "append" apos) [e] [] pos) ρ G Φ :=
  xp_of (pe_bm PySem.F.plainAttrs_list PySem.F.slot_list_append PySem.F.type_list_append mt_append pe_tw (pa_cons pe_tw pa_nil hs) hb hf hl hs hp) (r_append (ho G) hg he hq)
/-- xs.extend(t), t a tuple -/
theorem xp_extend {l : Addr} {ys : List PyData} {G1 G2 : Store} {xs : List PyData} (ho : Xd X o ρ (.a l)) (he : Xd X e ρ (.d (.tuple ys))) (hG : G = G1 ++ (l, .lst xs) :: G2) (hz : xs.length + ys.length ≤ 100000) (q : Φ (.d .none) (G1 ++ (l, .lst (xs ++ ys)) :: G2))
    (hb : attributeBase o "extend" X.env (eval o X.env) = eval o X.env := by rfl) (hf : ((backTo pos (starEach [e] X.env)).all (fun x => !x.1) && (backToKw pos (keywordEach [] X.env)).all (fun x => x.1.isSome) && decide (([e] : List Expr).length + ([] : List Keyword).length + (if ([] : List Keyword).isEmpty then 0 else 1) < 30)) = true := by rfl)
    (hl : (apos.endLine == pos.line) = true := by rfl) (hs : starEach [e] X.env = (false, eval e X.env) :: starEach [] X.env := by rfl) (hp : (backTo pos (starEach [] X.env)).any (·.1) = false := by rfl) : Xp X (.Call (.Attribute o "extend" apos) [e] [] pos) ρ G Φ :=
  xp_of (pe_bm PySem.F.plainAttrs_list PySem.F.slot_list_extend PySem.F.type_list_extend mr_extend pe_tw (pa_cons pe_tw pa_nil hs) hb hf hl hs hp) fun F σ B H Q c s k => ho G F σ B H _ c s fun v x G2' B2 H2 e2 c2 r2 q2 => by
    rw [q2.1] at r2
    rw [q2.2, hG] at c2
    have r2 : v = .ref l := r2
    subst r2
    have hm : (l, Cell.lst xs) ∈ G1 ++ (l, .lst xs) :: G2 := List.mem_append_right _ List.mem_cons_self
    obtain ⟨ws0, h0, _⟩ := c2.ce _ hm
    refine ⟨.inl ⟨rfl, ws0, .inl (.inl h0)⟩, he (G1 ++ (l, .lst xs) :: G2) F σ B2 H2 _ c2 (s.mono e2) fun u y G3 B3 H3 e3 c3 r3 q3 => ?_⟩
    rw [q3.1] at r3
    rw [q3.2] at c3
    obtain ⟨ws, h1, h2⟩ := c3.ce _ hm
    cases r3 with
    | rtup h4 h5 =>
      refine ⟨l, _, ws, _, rfl, rfl, h1, Evl.ex_t c3.ex h4, by rw [h2.len, h5.len]; exact Evl.sz_of hz, ?_⟩
      exact k .non (.d .none) _ B3 _ (e2.trans e3) (c3.set (x' := .lst (xs ++ ys)) ⟨_, upd_same, h2.app h5⟩) .rnon q
/-! ### f-strings -/
inductive Xj (X : Cx) (ρ : Env) : List Expr → List TE → List Str → Prop where
  | nil : Xj X ρ [] [] []
  | cons {e : Expr} {t : TE} {s : Str} {es : List Expr} {ts : List TE} {ss : List Str} (h : PE X e t) (r : ∀ G, R X.K t ρ G (Is (.d (.str s)) G)) (q : Xj X ρ es ts ss) : Xj X ρ (e :: es) (t :: ts) (s :: ss)
theorem Xj.pj {ts : List TE} {ss : List Str} : ∀ {es : List Expr} {ts : List TE} {ss : List Str}, Xj X ρ es ts ss → PJ X es ts
  | _, _, _, .nil => .nil
  | _, _, _, .cons h _ q => .cons h (q.pj (ts := ts) (ss := ss))
def joinAll (acc : Str) (ss : List Str) : Str := ss.foldl (· ++ ·) acc
theorem Xj.run : ∀ {es : List Expr} {ts : List TE} {ss : List Str}, Xj X ρ es ts ss → ∀ (acc : Str) F σ B H (Q : Str → Hp → Prop), acc.length + (ss.map (·.length)).sum ≤ sizeLine → Cfg X.K F G B H → Slots X.K B σ ρ → (∀ B2 H2, Ex B B2 → Cfg X.K F G B2 H2 → Q (joinAll acc ss) H2) → tJs ts acc σ H Q
  | _, _, _, .nil, acc, F, σ, B, H, Q, hz, c, s, k => k B H (Evl.Ex.refl B) c
  | _, _, _, .cons (s := s0) (ss := ss) h r q, acc, F, σ, B, H, Q, hz, c, s, k => by
    refine r G F σ B H _ c s fun v x G2 B2 H2 e2 c2 r2 q2 => ?_
    rw [q2.1] at r2
    rw [q2.2] at c2
    cases r2
    rw [List.map_cons, List.sum_cons] at hz
    have hl : (acc ++ s0).length = acc.length + s0.length := PySem.strLen_append _ _
    exact ⟨s0, rfl, by omega, q.run (acc ++ s0) F σ B2 H2 Q (by rw [hl]; omega) c2 (s.mono e2) fun B3 H3 e3 c3 => k B3 H3 (e2.trans e3) c3⟩
theorem xd_joined {v1 v2 : Expr} {rest : List Expr} {ts : List TE} {ss : List Str} (h : Xj X ρ (v1 :: v2 :: rest) ts ss) (hz : (ss.map (·.length)).sum ≤ 100000) : Xd X (.JoinedStr (v1 :: v2 :: rest) pos) ρ (.d (.str (joinAll Str.empty ss))) := fun G =>
  xp_of (pe_joined (h.pj (ts := ts) (ss := ss))) fun F σ B H Q c s k => h.run Str.empty F σ B H _ (by rw [show Str.empty.length = 0 from rfl]; exact Evl.sz_of (by omega)) c s fun B2 H2 e2 c2 => (k.mono e2).ret (x := .d (.str _)) c2 (.rstr _) ⟨rfl, rfl⟩
theorem r_fmtS {te : TE} {s : Str} (h : ∀ G, R K te ρ G (Is (.d (.str s)) G)) (hz : s.length ≤ 100000) : ∀ G, R K (tFmt te) ρ G (Is (.d (.str s)) G) := fun G F σ B H Q c sl k => h G F σ B H _ c sl fun v x G2 B2 H2 e2 c2 r2 q2 => by
  rw [q2.1] at r2
  cases r2
  exact .inl ⟨s, rfl, Evl.sz_of hz, (k.mono e2).ret (x := .d (.str s)) c2 (.rstr s) ⟨rfl, q2.2⟩⟩
theorem r_fmtI {te : TE} {i : Int} (h : ∀ G, R K te ρ G (Is (.d (.int i)) G)) (hz : i.natAbs.log2 < 1920) : ∀ G, R K (tFmt te) ρ G (Is (.d (.str (toString i : String))) G) := fun G F σ B H Q c sl k => h G F σ B H _ c sl fun v x G2 B2 H2 e2 c2 r2 q2 => by
  rw [q2.1] at r2
  cases r2
  exact .inr ⟨i, rfl, hz, (k.mono e2).ret (x := .d (.str _)) c2 (.rstr _) ⟨rfl, q2.2⟩⟩
end
end Fsh

set_option Elab.async false
set_option linter.all false
set_option maxRecDepth 100000
namespace Fsh
open PySem PySem.Spec PyProof.Rows L2

section
variable {X : Cx} {e a b c o : Expr} {es : List Expr} {ρ : Env} {G : Store} {Φ : Pst} {pos p p2 apos : Pos} {N : Env → Store → Prop}
/-! ### statements -/
theorem xss_nil (h : N ρ G) : Xss X [] ρ G N Φ := xss_of pss_nil (rs_nx h)
theorem xss_cons {st : Stmt} {rest : List Stmt} {M : Env → Store → Prop} (h1 : Xs X st ρ G M Φ) (h2 : ∀ ρ' G', M ρ' G' → Xss X rest ρ' G' N Φ) : Xss X (st :: rest) ρ G N Φ := xss_of (pss_cons ps_tw pss_tw) (rs_seq h1 h2)
theorem xss_one {st : Stmt} (h1 : Xs X st ρ G N Φ) : Xss X [st] ρ G N Φ := xss_of (pss_one ps_tw) h1
/-- where what stands behind a statement is told by one environment and store -/
abbrev At (ρ : Env) (G : Store) : Env → Store → Prop := fun ρ' G' => ρ' = ρ ∧ G' = G
theorem xss_at {st : Stmt} {rest : List Stmt} {ρ' : Env} {G' : Store} (h1 : Xs X st ρ G (At ρ' G') Φ) (h2 : Xss X rest ρ' G' N Φ) : Xss X (st :: rest) ρ G N Φ := xss_cons h1 fun r g q => by rw [q.1, q.2]; exact h2
theorem xs_ret (h : Xp X e ρ G Φ) : Xs X (.Return (some e) pos) ρ G N Φ := xs_of (ps_ret pe_tw) (rs_ret h)
theorem xs_expr {Φe : Pst} (h : Xp X e ρ G Φe) (q : ∀ x G2, Φe x G2 → N ρ G2) (hs : swapsWith e none pos.line X.env = pure false := by rfl) : Xs X (.Expr e pos) ρ G N Φ := xs_of (ps_expr pe_tw hs) (rs_drop h q)
theorem xs_if {sa sb : List Stmt} {Φc : Bool → Store → Prop} (hc : Xt X c ρ G Φc) (h1 : ∀ G1, Φc true G1 → Xss X sa ρ G1 N Φ) (h2 : ∀ G1, Φc false G1 → Xss X sb ρ G1 N Φ) : Xs X (.If c sa sb pos) ρ G N Φ := xs_of (ps_if pt_tw pss_tw pss_tw) (rs_if hc h1 h2)
theorem xs_ifD {sa sb : List Stmt} {t : Bool} (hc : Xb X c ρ t) (h1 : t = true → Xss X sa ρ G N Φ) (h2 : t = false → Xss X sb ρ G N Φ) : Xs X (.If c sa sb pos) ρ G N Φ :=
  xs_if (hc G) (fun G1 q => by rw [q.2]; exact h1 q.1.symm) fun G1 q => by rw [q.2]; exact h2 q.1.symm
theorem xs_set (i : Nat) {x : Str} {p' : Pos} {Φe : Pst} (h : Xp X e ρ G Φe) (q : ∀ y G2, Φe y G2 → N (ρ.set i (some y)) G2) (hN : X.N.Nodup) (hi : X.N[i]? = some x := by rfl) (hx : Loc X.env.scope x := by first | exact Or.inl rfl | exact Or.inr rfl)
    (hs : swapsWithSole [.Name x p'] e pos.line X.env = pure false := by rfl) (hw : swappedStores [.Name x p'] e X.env = pure none := by rfl) (hf : X.fn x = true ∨ X.env.scope.names.lookup x = some .local := by first | exact .inl rfl | exact .inr rfl) : Xs X (.Assign [.Name x p'] e pos) ρ G N Φ :=
  xs_of (ps_asg pe_tw (pg_name hN hi hx hf) hs hw) (rs_asg h fun y G2 z => ⟨_, rg_name, q y G2 z⟩)
theorem xs_setD (i : Nat) {x : Str} {p' : Pos} {y : DV} (h : Xd X e ρ y) (hN : X.N.Nodup) (hi : X.N[i]? = some x := by rfl) (hx : Loc X.env.scope x := by first | exact Or.inl rfl | exact Or.inr rfl)
    (hs : swapsWithSole [.Name x p'] e pos.line X.env = pure false := by rfl) (hw : swappedStores [.Name x p'] e X.env = pure none := by rfl) (hf : X.fn x = true ∨ X.env.scope.names.lookup x = some .local := by first | exact .inl rfl | exact .inr rfl) : Xs X (.Assign [.Name x p'] e pos) ρ G (At (ρ.set i (some y)) G) Φ :=
  xs_set i (h G) (fun z G2 q => ⟨by rw [q.1], q.2⟩) hN hi hx hs hw hf
/-- any target -/
theorem xs_asg {tg : Expr} {g : TG} {js : List Nat} {Φe : Pst} (h : Xp X e ρ G Φe) (hg : PG X tg g) (q : ∀ x G2, Φe x G2 → ∃ ρ', RG X.K g js x ρ ρ' ∧ N ρ' G2) (hs : swapsWithSole [tg] e pos.line X.env = pure false := by rfl) (hw : swappedStores [tg] e X.env = pure none := by rfl) (ha : (assignEach [tg] X.env).map (·.2) = [assign tg X.env] := by rfl) : Xs X (.Assign [tg] e pos) ρ G N Φ :=
  xs_of (ps_asg pe_tw hg hs hw ha) (rs_asg h q)
/-- loops -/
theorem xs_forL {tg : Expr} {body : List Stmt} {g : TG} {js : List Nat} {ds : List PyData} (I : Nat → Env → Store → Prop) (hp : PassesOwn (model X.prog X.w) X.A X.env X.xe) (hl : Xd X e ρ (.d (.list ds))) (hg : PG X tg g) (h0 : I 0 ρ G)
    (hs : ∀ i d ρ1 G1, ds[i]? = some d → I i ρ1 G1 → ∃ ρ2, RG X.K g js (.d d) ρ1 ρ2 ∧ Xss X body ρ2 G1 (I (i + 1)) Φ) (hd : ∀ ρ1 G1, I ds.length ρ1 G1 → N ρ1 G1) (hc : X.calm = true := by rfl) (hf : ∀ x, foldedSetIterable e X.env x = pure x := by intro _; rfl) : Xs X (.For tg e body [] pos) ρ G N Φ :=
  xs_of (ps_for hp hc (pi_list pe_tw) hg pss_tw hf) (rs_forL I (hl G) h0 hs hd)
theorem xs_forT {tg : Expr} {body : List Stmt} {g : TG} {js : List Nat} {ds : List PyData} (I : Nat → Env → Store → Prop) (hp : PassesOwn (model X.prog X.w) X.A X.env X.xe) (hl : Xd X e ρ (.d (.tuple ds))) (hg : PG X tg g) (h0 : I 0 ρ G)
    (hs : ∀ i d ρ1 G1, ds[i]? = some d → I i ρ1 G1 → ∃ ρ2, RG X.K g js (.d d) ρ1 ρ2 ∧ Xss X body ρ2 G1 (I (i + 1)) Φ) (hd : ∀ ρ1 G1, I ds.length ρ1 G1 → N ρ1 G1) (hc : X.calm = true := by rfl) (hf : ∀ x, foldedSetIterable e X.env x = pure x := by intro _; rfl) : Xs X (.For tg e body [] pos) ρ G N Φ :=
  xs_of (ps_for hp hc (pi_tup pe_tw) hg pss_tw hf) (rs_forT I (hl G) h0 hs hd)
theorem xs_forR {tg : Expr} {body : List Stmt} {g : TG} {js : List Nat} {Φl : List DV → Store → Prop} (I : Int → Nat → Env → Store → Prop) (hp : PassesOwn (model X.prog X.w) X.A X.env X.xe) (hm : X.mg "range" = none) (hl : Xa X [e] ρ G Φl) (hg : PG X tg g)
    (h0 : ∀ xs G1, Φl xs G1 → ∃ n : Int, xs = [.d (.int n)] ∧ n ≤ 100000 ∧ -100000 ≤ n ∧ I n 0 ρ G1) (hs : ∀ (n : Int) (i : Nat) ρ1 G1, (i : Int) < n → I n i ρ1 G1 → ∃ ρ2, RG X.K g js (.d (.int i)) ρ1 ρ2 ∧ Xss X body ρ2 G1 (I n (i + 1)) Φ) (hd : ∀ (n : Int) ρ1 G1, I n n.toNat ρ1 G1 → N ρ1 G1)
    (hgl : Gl X "range" := by rfl) (hc : X.calm = true := by rfl) (hst : starEach [e] X.env = [(false, eval e X.env)] := by rfl) (hf : ∀ x, foldedSetIterable (.Call (.Name "range" p) [e] [] p2) X.env x = pure x := by intro _; rfl) : Xs X (.For tg (.Call (.Name "range" p) [e] [] p2) body [] pos) ρ G N Φ :=
  xs_of (ps_for hp hc (pi_range1 hgl hm pa_tw hst) hg pss_tw hf) (rs_forR I hl h0 hs hd)
/-- the store's list is data from here on -/
theorem rs_give {K : PySem.W.Frag} {t : TS} {l : Addr} {xs : List PyData} (h : RS K t (thawE l xs ρ) G N Φ) : RS K t ρ ((l, .lst xs) :: G) N Φ := fun F σ B H D c s n k => by
  obtain ⟨vs, nB, rr, c3⟩ := c.freeze
  have e := ex_new nB (HO.lst vs)
  exact h F σ _ H D c3 (s.froze nB rr) (fun ρ' σ' G2 B2 H2 e2 => n ρ' σ' G2 B2 H2 (e.trans e2)) (k.mono e)
theorem xp_frozen {l : Addr} {xs : List PyData} (h : Xp X e (thawE l xs ρ) G fun y G2 => noLv y = true ∧ (∀ p ∈ G2, noLc p.2 = true) ∧ Φ y ((l, .lst xs) :: G2)) : Xp X e ρ ((l, .lst xs) :: G) Φ := R.frozen h
theorem xp_give (r : Xp X e ρ G fun y G2 => ∃ l xs G3, y = .a l ∧ G2 = (l, .lst xs) :: G3 ∧ Φ (.d (.list xs)) G3) : Xp X e ρ G Φ := R.give r
/-! ### comprehensions -/
/-- the frames that a comprehension may get -/
abbrev Fz := Shared × Hp × Addr × List (Str × Addr) × List Addr
abbrev bx (X : Cx) (scope : Scope) (z : Fz) : Cx := X.blk z.1 z.2.1 scope (compEnvC scope z.2.2.2.1 z.2.2.1 X.env) z.2.2.2.2
def blkE (X : Cx) (scope : Scope) (elt : Expr) : TE := fun σ H Q => ∀ z : Fz, tw (bx X scope z) elt σ H Q
def twTs (X : Cx) (ifs : List Expr) : TT := fun σ H Q => Say (∀ pins s, Inv X pins σ H s →
    wpAny (model X.prog X.w) X.A (forIn ifs true fun c r => if r = true then do let ok ← isTrue c X.env (eval c X.env); pure (ForInStep.yield ok) else pure (ForInStep.yield r)) (TP X pins σ Q) X.xe s)
def blkT (X : Cx) (scope : Scope) (ifs : List Expr) : TT := fun σ H Q => ∀ z : Fz, twTs (bx X scope z) ifs σ H Q
abbrev Xts (X : Cx) (ifs : List Expr) (ρ : Env) (G : Store) (Φt : Bool → Store → Prop) : Prop := RT X.K (twTs X ifs) ρ G Φt
theorem xts_nil {Φt : Bool → Store → Prop} (h : Φt true G) : Xts X [] ρ G Φt := fun F σ B H Q c s k => ⟨fun pins st I => pts_nil.run pins st σ H Q I (k true G B H (Evl.Ex.refl B) c h)⟩
theorem xts_one {Φt : Bool → Store → Prop} (h : Xt X c ρ G Φt) : Xts X [c] ρ G Φt := fun F σ B H Q c s k => ⟨fun pins st I => (pts_one pt_tw).run pins st σ H Q I (h F σ B H Q c s k)⟩
/-- what a turn of [elt for .. if ..] asks, in whatever frame -/
def Turn (X : Cx) (scope : Scope) (ifs : List Expr) (elt : Expr) (ρ : Env) (G : Store) (J : List PyData → Store → Prop) (acc : List PyData) : Prop :=
  ∃ Φt : Bool → Store → Prop, (∀ z : Fz, Xts (bx X scope z) ifs ρ G Φt) ∧ (∀ z : Fz, ∀ G2, Φt true G2 → Xp (bx X scope z) elt ρ G2 fun y G3 => ∃ d, y = .d d ∧ J (acc ++ [d]) G3) ∧ ∀ G2, Φt false G2 → J acc G2
theorem Turn.one {scope : Scope} {ifs : List Expr} {elt : Expr} {J : List PyData → Store → Prop} {acc : List PyData} (h : Turn X scope ifs elt ρ G J acc) : Turn1 X.K (blkT X scope ifs) (blkE X scope elt) ρ G J acc := by
  obtain ⟨Φt, ht, he, hn⟩ := h
  intro F σ B H Q c s k z
  refine ht z F σ B H Q c s fun t G2 B2 H2 e2 c2 q => k t G2 B2 H2 e2 c2 ?_
  cases t with
  | true =>
    rw [if_pos rfl]
    exact fun F' σ' B' H' Q' c' s' k' z' => he z' G2 q F' σ' B' H' Q' c' s' k'
  | false =>
    rw [if_neg Bool.false_ne_true]
    exact hn G2 q
/-- every item is taken; those that pass a test are taken -/
theorem turn_each {scope : Scope} {elt : Expr} {J : List PyData → Store → Prop} {acc : List PyData} (h : ∀ z : Fz, Xp (bx X scope z) elt ρ G fun y G3 => ∃ d, y = .d d ∧ J (acc ++ [d]) G3) : Turn X scope [] elt ρ G J acc :=
  ⟨fun t G2 => t = true ∧ G2 = G, fun z => xts_nil ⟨rfl, rfl⟩, fun z G2 q => by rw [q.2]; exact h z, fun G2 q => by cases q.1⟩
theorem turn_if {scope : Scope} {elt c : Expr} {J : List PyData → Store → Prop} {acc : List PyData} {t : Bool} (hc : ∀ z : Fz, Xb (bx X scope z) c ρ t) (h1 : t = true → ∀ z : Fz, Xp (bx X scope z) elt ρ G fun y G3 => ∃ d, y = .d d ∧ J (acc ++ [d]) G3) (h2 : t = false → J acc G) : Turn X scope [c] elt ρ G J acc :=
  ⟨IsT t G, fun z => xts_one (hc z G), fun z G2 q => by rw [q.2]; exact h1 q.1.symm z, fun G2 q => by rw [q.2]; exact h2 q.1.symm⟩
theorem x_lcL {tg elt : Expr} {ifs : List Expr} {scope : Scope} {own : List (Str × Nat)} {g : TG} {js : List Nat} {ds : List PyData} (I : Nat → List PyData → Store → Prop) (hN : X.N.Nodup) (hl : Xd X e ρ (.d (.list ds))) (ok : BlkOk X.N X.env.scope scope own)
    (hg : ∀ (s : Shared) (H : Hp) (C : Addr) (cl : List (Str × Addr)) (fp : List Addr), PG (X.blk s H scope (compEnvC scope cl C X.env) fp) tg g) (hj : ∀ j ∈ js, j ∈ own.map (·.2)) (hz : ds.length ≤ 100000) (h0 : I 0 [] G)
    (hs : ∀ i d, ds[i]? = some d → ∃ ρ2, RG X.K g js (.d d) (wipeE ρ (own.map (·.2))) ρ2 ∧ ∀ acc G1, I i acc G1 → Turn X scope ifs elt ρ2 G1 (I (i + 1)) acc) (hq : ∀ l acc G3, I ds.length acc G3 → Φ (.a l) ((l, .lst acc) :: G3))
    (hc : X.calm = true := by rfl) (hf : ∀ x, foldedSetIterable e X.env x = pure x := by intro _; rfl) : Xp X (.ListComp elt [⟨tg, e, ifs, 0⟩] scope pos) ρ G Φ :=
  xp_of (pe_lc (tt := blkT X scope ifs) (te := blkE X scope elt) hc hN (pi_list pe_tw) ok hg (fun s H C cl fp => ⟨fun pins st σ H' Q I h => (h (s, H, C, cl, fp)).run pins st I⟩) (fun s H C cl fp => ⟨fun pins st σ H' Q I h => (h (s, H, C, cl, fp)).run pins st I⟩) hf)
    ((r_lcL I (hl G) hj hz h0 fun i d hd => by
      obtain ⟨ρ2, g1, b1⟩ := hs i d hd
      exact ⟨ρ2, g1, fun acc G1 q => (b1 acc G1 q).one⟩).imp fun y G2 ⟨l, acc, G3, e1, e2, q⟩ => by rw [e1, e2]; exact hq l acc G3 q)
theorem x_lcT {tg elt : Expr} {ifs : List Expr} {scope : Scope} {own : List (Str × Nat)} {g : TG} {js : List Nat} {ds : List PyData} (I : Nat → List PyData → Store → Prop) (hN : X.N.Nodup) (hl : Xd X e ρ (.d (.tuple ds))) (ok : BlkOk X.N X.env.scope scope own)
    (hg : ∀ (s : Shared) (H : Hp) (C : Addr) (cl : List (Str × Addr)) (fp : List Addr), PG (X.blk s H scope (compEnvC scope cl C X.env) fp) tg g) (hj : ∀ j ∈ js, j ∈ own.map (·.2)) (hz : ds.length ≤ 100000) (h0 : I 0 [] G)
    (hs : ∀ i d, ds[i]? = some d → ∃ ρ2, RG X.K g js (.d d) (wipeE ρ (own.map (·.2))) ρ2 ∧ ∀ acc G1, I i acc G1 → Turn X scope ifs elt ρ2 G1 (I (i + 1)) acc) (hq : ∀ l acc G3, I ds.length acc G3 → Φ (.a l) ((l, .lst acc) :: G3))
    (hc : X.calm = true := by rfl) (hf : ∀ x, foldedSetIterable e X.env x = pure x := by intro _; rfl) : Xp X (.ListComp elt [⟨tg, e, ifs, 0⟩] scope pos) ρ G Φ :=
  xp_of (pe_lc (tt := blkT X scope ifs) (te := blkE X scope elt) hc hN (pi_tup pe_tw) ok hg (fun s H C cl fp => ⟨fun pins st σ H' Q I h => (h (s, H, C, cl, fp)).run pins st I⟩) (fun s H C cl fp => ⟨fun pins st σ H' Q I h => (h (s, H, C, cl, fp)).run pins st I⟩) hf)
    ((r_lcT I (hl G) hj hz h0 fun i d hd => by
      obtain ⟨ρ2, g1, b1⟩ := hs i d hd
      exact ⟨ρ2, g1, fun acc G1 q => (b1 acc G1 q).one⟩).imp fun y G2 ⟨l, acc, G3, e1, e2, q⟩ => by rw [e1, e2]; exact hq l acc G3 q)
theorem x_lcR {tg elt : Expr} {ifs : List Expr} {scope : Scope} {own : List (Str × Nat)} {g : TG} {js : List Nat} {Φl : List DV → Store → Prop} (I : Int → Nat → List PyData → Store → Prop) (hN : X.N.Nodup) (hm : X.mg "range" = none) (hl : Xa X [e] ρ G Φl) (ok : BlkOk X.N X.env.scope scope own)
    (hg : ∀ (s : Shared) (H : Hp) (C : Addr) (cl : List (Str × Addr)) (fp : List Addr), PG (X.blk s H scope (compEnvC scope cl C X.env) fp) tg g) (hj : ∀ j ∈ js, j ∈ own.map (·.2)) (h0 : ∀ xs G1, Φl xs G1 → ∃ n : Int, xs = [.d (.int n)] ∧ n ≤ 100000 ∧ -100000 ≤ n ∧ I n 0 [] G1)
    (hs : ∀ (n : Int) (i : Nat), (i : Int) < n → ∃ ρ2, RG X.K g js (.d (.int i)) (wipeE ρ (own.map (·.2))) ρ2 ∧ ∀ acc G1, I n i acc G1 → Turn X scope ifs elt ρ2 G1 (I n (i + 1)) acc) (hq : ∀ l (n : Int) acc G3, I n n.toNat acc G3 → Φ (.a l) ((l, .lst acc) :: G3))
    (hgl : Gl X "range" := by rfl) (hc : X.calm = true := by rfl) (hst : starEach [e] X.env = [(false, eval e X.env)] := by rfl) (hf : ∀ x, foldedSetIterable (.Call (.Name "range" p) [e] [] p2) X.env x = pure x := by intro _; rfl) : Xp X (.ListComp elt [⟨tg, .Call (.Name "range" p) [e] [] p2, ifs, 0⟩] scope pos) ρ G Φ :=
  xp_of (pe_lc (tt := blkT X scope ifs) (te := blkE X scope elt) hc hN (pi_range1 hgl hm pa_tw hst) ok hg (fun s H C cl fp => ⟨fun pins st σ H' Q I h => (h (s, H, C, cl, fp)).run pins st I⟩) (fun s H C cl fp => ⟨fun pins st σ H' Q I h => (h (s, H, C, cl, fp)).run pins st I⟩) hf)
    ((r_lcR I hl hj h0 fun n i hi => by
      obtain ⟨ρ2, g1, b1⟩ := hs n i hi
      exact ⟨ρ2, g1, fun acc G1 q => (b1 acc G1 q).one⟩).imp fun y G2 ⟨l, acc, G3, e1, e2, n, q⟩ => by rw [e1, e2]; exact hq l n acc G3 q)
end

/-! ### defs and their calls -/
abbrev Spec := List DV → Store → Pst → Prop
def spS (K : PySem.W.Frag) (Z : Spec) : Sp := fun vs H Q _ => ∃ F G B xs Φ, Cfg K F G B H ∧ Rvs K B vs xs ∧ Z xs G Φ ∧ Kp K F B Φ Q
structure Fn (P : Program) (w : World) (K : PySem.W.Frag) (mg : Str → Option Value) (base : Heap) (k : Nat) (x : Str) (ps : List Str) (Z : Spec) : Prop where
  ex : ∃ f fd, FnOk P w K mg base CX0 k f fd ps (spS K Z) ∧ mg x = some (.ref f) ∧ PySem.W.keepIn K (.ref f) = true ∧ Binds K fd ps []
section
variable {X : Cx} {e : Expr} {es : List Expr} {ρ : Env} {G : Store} {Φ : Pst} {pos p : Pos} {k : Nat} {x : Str} {ps : List Str} {Z : Spec}
theorem xp_call {Φl : List DV → Store → Prop} (Fx : Fn X.prog X.w X.K X.mg X.base k x ps Z) (hr : Room k X.A) (ha : Xa X (e :: es) ρ G Φl) (h : ∀ xs G', Φl xs G' → ∃ G1 G2, G' = G1 ++ G2 ∧ Z xs G2 fun y G3 => Φ y (G1 ++ G3)) (hg : Gl X x := by rfl) (hdb : (x == ("__debug__" : Str)) = false := by decide)
    (hst : starEach (e :: es) X.env = (false, eval e X.env) :: starEach es X.env := by rfl) (hpl : (backTo pos (starEach es X.env)).any (·.1) = false := by rfl) : Xp X (.Call (.Name x p) (e :: es) [] pos) ρ G Φ := by
  obtain ⟨f, fd, F1, hm, hk, hb⟩ := Fx.ex
  refine xp_of (pe_call F1 hr hg hm hk hb .nil pass0 pa_tw hdb hst hpl) fun F σ B H Q c s kk => ha F σ B H _ c s fun vs xs G2 B2 H2 e2 c2 r2 q => ?_
  obtain ⟨G3, G4, eG, z⟩ := h xs G2 q
  subst eG
  obtain ⟨F', c4, fr⟩ := c2.frame
  rw [List.append_nil]
  exact ⟨F', G4, B2, xs, _, c4, r2, z, fun v y G5 B5 H5 e5 c5 r5 q5 => kk v y _ B5 H5 (e2.trans e5) (fr G5 B5 H5 e5 c5) r5 q5⟩
/-- a def that changes nothing, told by its value -/
theorem xd_call {xs : List DV} {y : DV} (Fx : Fn X.prog X.w X.K X.mg X.base k x ps Z) (hr : Room k X.A) (ha : Xad X (e :: es) ρ xs) (h : ∀ G Φ, Φ y G → Z xs G Φ) (hg : Gl X x := by rfl) (hdb : (x == ("__debug__" : Str)) = false := by decide)
    (hst : starEach (e :: es) X.env = (false, eval e X.env) :: starEach es X.env := by rfl) (hpl : (backTo pos (starEach es X.env)).any (·.1) = false := by rfl) : Xd X (.Call (.Name x p) (e :: es) [] pos) ρ y := fun G =>
  xp_call Fx hr (ha G) (fun xs' G' q => ⟨[], G', rfl, by rw [q.1]; exact h _ _ ⟨rfl, q.2⟩⟩) hg hdb hst hpl
def start0 (N : List Str) (xs : List DV) : Env := xs.map some ++ List.replicate (N.length - xs.length) none
theorem slots_start {K : PySem.W.Frag} {B : Hp} {N : List Str} : ∀ {vs : List V} {xs : List DV}, Rvs K B vs xs → Slots K B (L2.start N vs) (start0 N xs) := by
  intro vs xs r
  have hl := r.len
  refine ⟨by unfold L2.start start0; rw [List.length_append, List.length_append, List.length_map, List.length_map, List.length_replicate, List.length_replicate, hl], fun i y h => ?_⟩
  unfold start0 at h
  unfold L2.start
  have hi : i < xs.length := by
    by_cases z : i < xs.length
    · exact z
    · rw [List.getElem?_append_right (by rw [List.length_map]; omega), List.getElem?_replicate] at h
      split at h <;> cases h
  rw [List.getElem?_append_left (by rw [List.length_map]; exact hi), List.getElem?_map] at h
  rw [List.getElem?_append_left (by rw [List.length_map, hl]; exact hi), List.getElem?_map]
  clear hl
  induction r generalizing i with
  | nil => cases hi
  | cons a b ih =>
    cases i with
    | zero =>
      cases h
      exact ⟨_, rfl, a⟩
    | succ i =>
      have hi' := Nat.lt_of_succ_lt_succ hi
      simp only [List.getElem?_cons_succ] at h ⊢
      exact ih i h hi'
theorem fn_rule {P : Program} {w : World} {K : PySem.W.Frag} {mg : Str → Option Value} {base : Heap} {st : Stmt} {f : Addr} {fd : FuncData} {N : List Str} (F1 : Fun K x x st f fd) (S : FnScope N ps (defScope st)) (hb : Binds K fd ps []) (hm : mg x = some (.ref f)) (len : ∀ xs G Φ, Z xs G Φ → xs.length = ps.length)
    (body : ∀ (cdv : Value) (A : Around) (outer : List PySem.Env) (s : Shared) (H : Hp) (E : XK), Room k (A.deeper (envOfC x (defScope st) s.heap.objs.size f cdv)) → ∀ xs G Φ, Z xs G Φ →
      Xss (cxOf CX0 P w K mg base N x (defScope st) f cdv A outer s H E).nox (defBody st) (start0 N xs) G (fun _ G2 => Φ (.d .none) G2) Φ) : Fn P w K mg base (k + 1) x ps Z := by
  refine ⟨f, fd, F1.ok S (fun vs H Q E h => ?_) (fun cdv A outer s H vs Q E hr h => ?_), hm, F1.kp, hb⟩
  · obtain ⟨F, G, B, xs, Φ, _, r, z, _⟩ := h
    exact r.len.trans (len xs G Φ z)
  · obtain ⟨F, G, B, xs, Φ, c, r, z, kk⟩ := h
    refine ⟨_, pss_tw, body cdv A outer s H E hr xs G Φ z F (L2.start N vs) B H _ c (slots_start r) (fun ρ' σ' G2 B2 H2 e2 c2 s2 q => ?_) kk⟩
    exact kk .non (.d .none) G2 B2 H2 e2 c2 .rnon q
end
end Fsh

set_option Elab.async false
set_option linter.all false
set_option maxRecDepth 100000
namespace Fsh
open PySem PySem.Spec PyProof.Rows L2
section
variable {X : Cx} {e a b c o : Expr} {es : List Expr} {ρ : Env} {G : Store} {Φ : Pst} {pos p p2 apos : Pos}
/-- a built-in's name is not taken by the module -/
structure Bn (mg : Str → Option Value) : Prop where
  len : mg "len" = none
  int : mg "int" = none
  str : mg "str" = none
  list : mg "list" = none
  tuple : mg "tuple" = none
  range : mg "range" = none
  min : mg "min" = none
  sum : mg "sum" = none
  repr : mg "repr" = none
theorem xd_lenL {ds : List PyData} (B : Bn X.mg) (ha : Xd X e ρ (.d (.list ds))) (hg : Gl X "len" := by rfl) (he : starEach [e] X.env = (false, eval e X.env) :: starEach [] X.env := by rfl) (hpl : (backTo pos (starEach [] X.env)).any (·.1) = false := by rfl) : Xd X (.Call (.Name "len" p) [e] [] pos) ρ (.d (.int ds.length)) := fun G =>
  x_callB call_len_seq B.len PySem.boot_len (xad_cons ha xa_nil he G) (fun xs G1 q => by rw [q.1, q.2]; exact co_lenL ⟨rfl, rfl⟩) hg (by decide) (by decide) he hpl
theorem xd_lenT {ds : List PyData} (B : Bn X.mg) (ha : Xd X e ρ (.d (.tuple ds))) (hg : Gl X "len" := by rfl) (he : starEach [e] X.env = (false, eval e X.env) :: starEach [] X.env := by rfl) (hpl : (backTo pos (starEach [] X.env)).any (·.1) = false := by rfl) : Xd X (.Call (.Name "len" p) [e] [] pos) ρ (.d (.int ds.length)) := fun G =>
  x_callB call_len_seq B.len PySem.boot_len (xad_cons ha xa_nil he G) (fun xs G1 q => by rw [q.1, q.2]; exact co_lenT ⟨rfl, rfl⟩) hg (by decide) (by decide) he hpl
theorem xp_lenC {l : Addr} {ds : List PyData} (B : Bn X.mg) (ha : Xd X e ρ (.a l)) (hm : (l, Cell.lst ds) ∈ G) (q : Φ (.d (.int ds.length)) G) (hg : Gl X "len" := by rfl) (he : starEach [e] X.env = (false, eval e X.env) :: starEach [] X.env := by rfl) (hpl : (backTo pos (starEach [] X.env)).any (·.1) = false := by rfl) : Xp X (.Call (.Name "len" p) [e] [] pos) ρ G Φ :=
  x_callB call_len_seq B.len PySem.boot_len (xad_cons ha xa_nil he G) (fun xs G1 z => by rw [z.1, z.2]; exact co_lenC hm q) hg (by decide) (by decide) he hpl
theorem xd_intc {i : Int} (B : Bn X.mg) (ha : Xd X e ρ (.d (.int i))) (hg : Gl X "int" := by rfl) (he : starEach [e] X.env = (false, eval e X.env) :: starEach [] X.env := by rfl) (hpl : (backTo pos (starEach [] X.env)).any (·.1) = false := by rfl) : Xd X (.Call (.Name "int" p) [e] [] pos) ρ (.d (.int i)) := fun G =>
  x_callTy call_int1 B.int (by decide +kernel) (xad_cons ha xa_nil he G) (fun xs G1 q => by rw [q.1, q.2]; exact co_int ⟨rfl, rfl⟩) hg (by decide) (by decide) he hpl
theorem xd_strI {i : Int} (B : Bn X.mg) (ha : Xd X e ρ (.d (.int i))) (hi : i.natAbs.log2 < 1920) (hg : Gl X "str" := by rfl) (he : starEach [e] X.env = (false, eval e X.env) :: starEach [] X.env := by rfl) (hpl : (backTo pos (starEach [] X.env)).any (·.1) = false := by rfl) : Xd X (.Call (.Name "str" p) [e] [] pos) ρ (.d (.str (toString i : String))) := fun G =>
  x_callTy cr_str B.str (by decide +kernel) (xad_cons ha xa_nil he G) (fun xs G1 q => by rw [q.1, q.2]; exact co_strI hi ⟨rfl, rfl⟩) hg (by decide) (by decide) he hpl
theorem xd_strS {s : Str} (B : Bn X.mg) (ha : Xd X e ρ (.d (.str s))) (hg : Gl X "str" := by rfl) (he : starEach [e] X.env = (false, eval e X.env) :: starEach [] X.env := by rfl) (hpl : (backTo pos (starEach [] X.env)).any (·.1) = false := by rfl) : Xd X (.Call (.Name "str" p) [e] [] pos) ρ (.d (.str s)) := fun G =>
  x_callTy cr_str B.str (by decide +kernel) (xad_cons ha xa_nil he G) (fun xs G1 q => by rw [q.1, q.2]; exact co_strS ⟨rfl, rfl⟩) hg (by decide) (by decide) he hpl
theorem xl_listT {ds : List PyData} (B : Bn X.mg) (ha : Xd X e ρ (.d (.tuple ds))) (hg : Gl X "list" := by rfl) (he : starEach [e] X.env = (false, eval e X.env) :: starEach [] X.env := by rfl) (hpl : (backTo pos (starEach [] X.env)).any (·.1) = false := by rfl) : Xl X (.Call (.Name "list" p) [e] [] pos) ρ ds := fun G =>
  x_callTy call_list_of B.list (by decide +kernel) (xad_cons ha xa_nil he G) (fun xs G1 q => by rw [q.1, q.2]; exact co_listT) hg (by decide) (by decide) he hpl
theorem xl_listL {ds : List PyData} (B : Bn X.mg) (ha : Xd X e ρ (.d (.list ds))) (hg : Gl X "list" := by rfl) (he : starEach [e] X.env = (false, eval e X.env) :: starEach [] X.env := by rfl) (hpl : (backTo pos (starEach [] X.env)).any (·.1) = false := by rfl) : Xl X (.Call (.Name "list" p) [e] [] pos) ρ ds := fun G =>
  x_callTy call_list_of B.list (by decide +kernel) (xad_cons ha xa_nil he G) (fun xs G1 q => by rw [q.1, q.2]; exact co_listL) hg (by decide) (by decide) he hpl
theorem xd_tupL {ds : List PyData} (B : Bn X.mg) (ha : Xd X e ρ (.d (.list ds))) (hg : Gl X "tuple" := by rfl) (he : starEach [e] X.env = (false, eval e X.env) :: starEach [] X.env := by rfl) (hpl : (backTo pos (starEach [] X.env)).any (·.1) = false := by rfl) : Xd X (.Call (.Name "tuple" p) [e] [] pos) ρ (.d (.tuple ds)) := fun G =>
  x_callTy call_tuple_of B.tuple (by decide +kernel) (xad_cons ha xa_nil he G) (fun xs G1 q => by rw [q.1, q.2]; exact co_tupL ⟨rfl, rfl⟩) hg (by decide) (by decide) he hpl
/-- tuple(a list that is made on the way) -/
theorem xp_tupL {Φe : Pst} (B : Bn X.mg) (ha : Xp X e ρ G Φe) (h : ∀ y G2, Φe y G2 → ∃ ds, y = .d (.list ds) ∧ Φ (.d (.tuple ds)) G2) (hg : Gl X "tuple" := by rfl) (he : starEach [e] X.env = (false, eval e X.env) :: starEach [] X.env := by rfl) (hpl : (backTo pos (starEach [] X.env)).any (·.1) = false := by rfl) : Xp X (.Call (.Name "tuple" p) [e] [] pos) ρ G Φ :=
  x_callTy call_tuple_of B.tuple (by decide +kernel) (xa_last (Φl := fun xs G2 => ∃ ds, xs = [.d (.list ds)] ∧ Φ (.d (.tuple ds)) G2) ha (fun y G2 q => by obtain ⟨ds, e1, q1⟩ := h y G2 q; exact ⟨ds, by rw [e1], q1⟩) he) (fun xs G1 q => by obtain ⟨ds, e1, q1⟩ := q; rw [e1]; exact co_tupL q1) hg (by decide) (by decide) he hpl
theorem xp_tupC {l : Addr} {ds : List PyData} (B : Bn X.mg) (ha : Xd X e ρ (.a l)) (hm : (l, Cell.lst ds) ∈ G) (q : Φ (.d (.tuple ds)) G) (hg : Gl X "tuple" := by rfl) (he : starEach [e] X.env = (false, eval e X.env) :: starEach [] X.env := by rfl) (hpl : (backTo pos (starEach [] X.env)).any (·.1) = false := by rfl) : Xp X (.Call (.Name "tuple" p) [e] [] pos) ρ G Φ :=
  x_callTy call_tuple_of B.tuple (by decide +kernel) (xad_cons ha xa_nil he G) (fun xs G1 z => by rw [z.1, z.2]; exact co_tupC hm q) hg (by decide) (by decide) he hpl
theorem xd_min {i j : Int} (B : Bn X.mg) (ha : Xd X a ρ (.d (.int i))) (hb : Xd X b ρ (.d (.int j))) (hg : Gl X "min" := by rfl) (hc : X.calm = true := by rfl) (he : starEach [a, b] X.env = (false, eval a X.env) :: starEach [b] X.env := by rfl) (he2 : starEach [b] X.env = (false, eval b X.env) :: starEach [] X.env := by rfl) (hpl : (backTo pos (starEach [b] X.env)).any (·.1) = false := by rfl) :
    Xd X (.Call (.Name "min" p) [a, b] [] pos) ρ (.d (.int (if j < i then j else i))) := fun G =>
  x_callB (call_min2 hc) B.min (by decide +kernel) (xad_cons ha (xad_cons hb xa_nil he2) he G) (fun xs G1 q => by rw [q.1, q.2]; exact co_min ⟨rfl, rfl⟩) hg (by decide) (by decide) he hpl
theorem xd_sum {ns : List Int} (B : Bn X.mg) (ha : Xd X e ρ (.d (.list (ns.map PyData.int)))) (hg : Gl X "sum" := by rfl) (hc : X.calm = true := by rfl) (he : starEach [e] X.env = (false, eval e X.env) :: starEach [] X.env := by rfl) (hpl : (backTo pos (starEach [] X.env)).any (·.1) = false := by rfl) : Xd X (.Call (.Name "sum" p) [e] [] pos) ρ (.d (.int ns.sum)) := fun G =>
  x_callB (cr_sum hc) B.sum (by decide +kernel) (xad_cons ha xa_nil he G) (fun xs G1 q => by rw [q.1, q.2]; exact co_sum ⟨rfl, rfl⟩) hg (by decide) (by decide) he hpl
theorem xd_reprS {s : Str} (B : Bn X.mg) (ha : Xd X e ρ (.d (.str s))) (hz : (reprText s).length ≤ sizeLine) (hg : Gl X "repr" := by rfl) (he : starEach [e] X.env = (false, eval e X.env) :: starEach [] X.env := by rfl) (hpl : (backTo pos (starEach [] X.env)).any (·.1) = false := by rfl) : Xd X (.Call (.Name "repr" p) [e] [] pos) ρ (.d (.str (reprText s))) := fun G =>
  x_callB cr_repr B.repr (by decide +kernel) (xad_cons ha xa_nil he G) (fun xs G1 q => by rw [q.1, q.2]; exact co_repr hz ⟨rfl, rfl⟩) hg (by decide) (by decide) he hpl
theorem xd_reprD {d : PyData} (B : Bn X.mg) (hgd : X.A.guards = some []) (hu : X.A.units + 200 < cLine) (ha : Xd X e ρ (.d d)) (h0 : ∃ ds, d = .tuple ds ∨ d = .list ds) (h1 : d.showable = true) (h2 : d.hasDict = false) (h3 : d.depth ≤ 64) (h4 : d.shown.length ≤ sizeLine) (hg : Gl X "repr" := by rfl) (he : starEach [e] X.env = (false, eval e X.env) :: starEach [] X.env := by rfl)
    (hpl : (backTo pos (starEach [] X.env)).any (·.1) = false := by rfl) : Xd X (.Call (.Name "repr" p) [e] [] pos) ρ (.d (.str d.shown)) := fun G =>
  x_callB (cr_reprD hgd hu) B.repr (by decide +kernel) (xad_cons ha xa_nil he G) (fun xs G1 q => by rw [q.1, q.2]; exact co_reprD h0 h1 h2 h3 h4 ⟨rfl, rfl⟩) hg (by decide) (by decide) he hpl
/-! tests told by one answer -/
theorem xb_eqs {s t : Str} {r : Bool} (ha : Xd X a ρ (.d (.str s))) (hb : Xd X b ρ (.d (.str t))) (h : decide (s = t) = r) : Xb X (.Compare a [.Eq] [b] pos) ρ r := h ▸ xt_cmpD op_eq ha hb (fun _ => op_eqs) (nomark _)
theorem xb_nes {s t : Str} {r : Bool} (ha : Xd X a ρ (.d (.str s))) (hb : Xd X b ρ (.d (.str t))) (h : (!decide (s = t)) = r) : Xb X (.Compare a [.NotEq] [b] pos) ρ r := h ▸ xt_cmpD op_ne ha hb (fun _ => op_nes) (nomark _)
theorem xb_eqi {s t : Int} {r : Bool} (ha : Xd X a ρ (.d (.int s))) (hb : Xd X b ρ (.d (.int t))) (h : (decide (s = t)) = r) : Xb X (.Compare a [.Eq] [b] pos) ρ r := h ▸ xt_cmpD op_eq ha hb (fun _ => op_eqi) (nomark _)
theorem xb_lt {s t : Int} {r : Bool} (ha : Xd X a ρ (.d (.int s))) (hb : Xd X b ρ (.d (.int t))) (h : (decide (s < t)) = r) : Xb X (.Compare a [.Lt] [b] pos) ρ r := h ▸ xt_cmpD op_lt ha hb (fun _ => op_ii0 (fun _ => .rbl _) ⟨rfl, rfl⟩) (nomark _)
theorem xb_le {s t : Int} {r : Bool} (ha : Xd X a ρ (.d (.int s))) (hb : Xd X b ρ (.d (.int t))) (h : (decide (s ≤ t)) = r) : Xb X (.Compare a [.LtE] [b] pos) ρ r := h ▸ xt_cmpD op_le ha hb (fun _ => op_ii0 (fun _ => .rbl _) ⟨rfl, rfl⟩) (nomark _)
theorem xb_gt {s t : Int} {r : Bool} (ha : Xd X a ρ (.d (.int s))) (hb : Xd X b ρ (.d (.int t))) (h : (decide (t < s)) = r) : Xb X (.Compare a [.Gt] [b] pos) ρ r := h ▸ xt_cmpD op_gt ha hb (fun _ => op_ii0 (fun _ => .rbl _) ⟨rfl, rfl⟩) (nomark _)
theorem xb_ge {s t : Int} {r : Bool} (ha : Xd X a ρ (.d (.int s))) (hb : Xd X b ρ (.d (.int t))) (h : (decide (t ≤ s)) = r) : Xb X (.Compare a [.GtE] [b] pos) ρ r := h ▸ xt_cmpD op_ge ha hb (fun _ => op_ii0 (fun _ => .rbl _) ⟨rfl, rfl⟩) (nomark _)
theorem xb_isn {d : PyData} {r : Bool} {j : Nat} (ha : Xd X a ρ (.d d)) (h : isNo d = r) : Xb X (.Compare a [.Is] [.Constant .none j p] pos) ρ r := h ▸ xt_cmpD op_isN ha xd_none (fun _ => op_isn) (nomark _)
theorem xb_notn {d : PyData} {r : Bool} {j : Nat} (ha : Xd X a ρ (.d d)) (h : (!isNo d) = r) : Xb X (.Compare a [.IsNot] [.Constant .none j p] pos) ρ r := h ▸ xt_cmpD op_notN ha xd_none (fun _ => op_notn) (nomark _)
theorem xb_eqd {d d2 : PyData} (hu : X.A.units + 64 < cLine) (ha : Xd X a ρ (.d d)) (hb : Xd X b ρ (.d d2)) {r : Bool} (h1 : SeqAt.shaped d = true) (h2 : SeqAt.shaped d2 = true) (h : PyData.eqv d d2 = r) : Xb X (.Compare a [.Eq] [b] pos) ρ r := h ▸ xt_cmpD (op_eqD hu) ha hb (fun _ => op_eqdd h1 h2) (nomark _)
theorem xb_ned {d d2 : PyData} (hu : X.A.units + 64 < cLine) (ha : Xd X a ρ (.d d)) (hb : Xd X b ρ (.d d2)) {r : Bool} (h1 : SeqAt.shaped d = true) (h2 : SeqAt.shaped d2 = true) (h : (!PyData.eqv d d2) = r) : Xb X (.Compare a [.NotEq] [b] pos) ρ r := h ▸ xt_cmpD (op_neD hu) ha hb (fun _ => op_nedd h1 h2) (nomark _)
/-- the same as values -/
theorem xv_eqs {s t : Str} {r : Bool} (ha : Xd X a ρ (.d (.str s))) (hb : Xd X b ρ (.d (.str t))) (h : decide (s = t) = r) : Xd X (.Compare a [.Eq] [b] pos) ρ (.d (.bool r)) := h ▸ fun G => x_cmpD op_eq ha hb op_eqs (nomark _)
theorem xv_gt {s t : Int} {r : Bool} (ha : Xd X a ρ (.d (.int s))) (hb : Xd X b ρ (.d (.int t))) (h : decide (t < s) = r) : Xd X (.Compare a [.Gt] [b] pos) ρ (.d (.bool r)) := h ▸ fun G => x_cmpD op_gt ha hb (op_ii0 (fun _ => .rbl _) ⟨rfl, rfl⟩) (nomark _)
theorem xv_eqd {d d2 : PyData} (hu : X.A.units + 64 < cLine) (ha : Xd X a ρ (.d d)) (hb : Xd X b ρ (.d d2)) {r : Bool} (h1 : SeqAt.shaped d = true) (h2 : SeqAt.shaped d2 = true) (h : PyData.eqv d d2 = r) : Xd X (.Compare a [.Eq] [b] pos) ρ (.d (.bool r)) := h ▸ fun G => x_cmpD (op_eqD hu) ha hb (op_eqdd h1 h2) (nomark _)
theorem xd_if {t : Bool} {y : DV} (hc : Xb X c ρ t) (h1 : t = true → Xd X a ρ y) (h2 : t = false → Xd X b ρ y) : Xd X (.IfExp c a b pos) ρ y := fun G => xp_ifD hc (fun z => h1 z G) fun z => h2 z G
theorem Xd.g {y : DV} (h : Xd X e ρ y) : Xp X e ρ G (Is y G) := h G
theorem Xl.g {ds : List PyData} (h : Xl X e ρ ds) : Xp X e ρ G (New ds G) := h G
theorem xd_strR {x : Str} : ∀ G, R X.K (tC (.str x)) ρ G (Is (.d (.str x)) G) := fun G F σ B H Q c s k => k.ret (x := .d (.str x)) c (.rstr x) ⟨rfl, rfl⟩
theorem Xd.cast {y z : DV} (h : Xd X e ρ y) (q : y = z) : Xd X e ρ z := q ▸ h
theorem Xb.cast {y z : Bool} (h : Xb X e ρ y) (q : y = z) : Xb X e ρ z := q ▸ h
theorem Xl.cast {y z : List PyData} (h : Xl X e ρ y) (q : y = z) : Xl X e ρ z := q ▸ h
end
end Fsh

set_option Elab.async false
set_option linter.all false
set_option maxRecDepth 100000
namespace Fsh
open PySem PySem.Spec PyProof.Rows L2
section
variable {X : Cx} {e a b c o elt tg : Expr} {es : List Expr} {ρ : Env} {G : Store} {Φ : Pst} {pos p p2 apos : Pos} {scope : Scope} {own : List (Str × Nat)} {g : TG} {js : List Nat} {α : Type}
theorem take_map_snoc {xs : List α} {i : Nat} {x : α} {β : Type} (f : α → β) (h : xs[i]? = some x) : (xs.take (i + 1)).map f = (xs.take i).map f ++ [f x] := by
  rw [List.take_add_one, h, List.map_append]
  rfl
theorem take_fil_yes {xs : List α} {i : Nat} {x : α} {β : Type} (t : α → Bool) (f : α → β) (h : xs[i]? = some x) (ht : t x = true) : ((xs.take (i + 1)).filter t).map f = ((xs.take i).filter t).map f ++ [f x] := by
  rw [List.take_add_one, h, List.filter_append, List.map_append]
  simp [ht]
theorem take_fil_no {xs : List α} {i : Nat} {x : α} {β : Type} (t : α → Bool) (f : α → β) (h : xs[i]? = some x) (ht : t x = false) : ((xs.take (i + 1)).filter t).map f = ((xs.take i).filter t).map f := by
  rw [List.take_add_one, h, List.filter_append, List.map_append]
  simp [ht]
theorem of_map_at {xs : List α} {i : Nat} {enc : α → PyData} {d : PyData} (h : (xs.map enc)[i]? = some d) : ∃ x, xs[i]? = some x ∧ d = enc x := by
  rw [List.getElem?_map] at h
  cases z : xs[i]? with
  | none =>
    rw [z] at h
    cases h
  | some x =>
    rw [z] at h
    exact ⟨x, rfl, (Option.some.inj h).symm⟩
/-- [elt for x in a tuple] where every element is told -/
theorem xl_mapT (xs : List α) (enc out : α → PyData) (ρ' : α → Env) (hN : X.N.Nodup) (hl : Xd X e ρ (.d (.tuple (xs.map enc)))) (ok : BlkOk X.N X.env.scope scope own) (hg : ∀ (s : Shared) (H : Hp) (C : Addr) (cl : List (Str × Addr)) (fp : List Addr), PG (X.blk s H scope (compEnvC scope cl C X.env) fp) tg g) (hj : ∀ j ∈ js, j ∈ own.map (·.2)) (hz : xs.length ≤ 100000)
    (hr : ∀ x ∈ xs, RG X.K g js (.d (enc x)) (wipeE ρ (own.map (·.2))) (ρ' x)) (he : ∀ x ∈ xs, ∀ z : Fz, Xd (bx X scope z) elt (ρ' x) (.d (out x))) (hc : X.calm = true := by rfl) (hf : ∀ x, foldedSetIterable e X.env x = pure x := by intro _; rfl) : Xl X (.ListComp elt [⟨tg, e, [], 0⟩] scope pos) ρ (xs.map out) := fun G =>
  x_lcT (fun i acc G' => acc = (xs.take i).map out ∧ G' = G) hN hl ok hg hj (by rw [List.length_map]; exact hz) ⟨rfl, rfl⟩ (fun i d hd => by
    obtain ⟨x, hx, ed⟩ := of_map_at hd
    subst ed
    have hm := List.mem_of_getElem? hx
    exact ⟨ρ' x, hr x hm, fun acc G1 q => turn_each fun z => (he x hm z).to ⟨out x, rfl, by rw [q.1, take_map_snoc out hx], q.2⟩⟩)
    (fun l acc G3 q => ⟨l, rfl, by rw [q.1, q.2, List.length_map, List.take_length]⟩) hc hf
theorem xl_mapL (xs : List α) (enc out : α → PyData) (ρ' : α → Env) (hN : X.N.Nodup) (hl : Xd X e ρ (.d (.list (xs.map enc)))) (ok : BlkOk X.N X.env.scope scope own) (hg : ∀ (s : Shared) (H : Hp) (C : Addr) (cl : List (Str × Addr)) (fp : List Addr), PG (X.blk s H scope (compEnvC scope cl C X.env) fp) tg g) (hj : ∀ j ∈ js, j ∈ own.map (·.2)) (hz : xs.length ≤ 100000)
    (hr : ∀ x ∈ xs, RG X.K g js (.d (enc x)) (wipeE ρ (own.map (·.2))) (ρ' x)) (he : ∀ x ∈ xs, ∀ z : Fz, Xd (bx X scope z) elt (ρ' x) (.d (out x))) (hc : X.calm = true := by rfl) (hf : ∀ x, foldedSetIterable e X.env x = pure x := by intro _; rfl) : Xl X (.ListComp elt [⟨tg, e, [], 0⟩] scope pos) ρ (xs.map out) := fun G =>
  x_lcL (fun i acc G' => acc = (xs.take i).map out ∧ G' = G) hN hl ok hg hj (by rw [List.length_map]; exact hz) ⟨rfl, rfl⟩ (fun i d hd => by
    obtain ⟨x, hx, ed⟩ := of_map_at hd
    subst ed
    have hm := List.mem_of_getElem? hx
    exact ⟨ρ' x, hr x hm, fun acc G1 q => turn_each fun z => (he x hm z).to ⟨out x, rfl, by rw [q.1, take_map_snoc out hx], q.2⟩⟩)
    (fun l acc G3 q => ⟨l, rfl, by rw [q.1, q.2, List.length_map, List.take_length]⟩) hc hf
/-- [elt for x in xs if t] -/
theorem xl_filL (xs : List α) (enc out : α → PyData) (t : α → Bool) (ρ' : α → Env) (hN : X.N.Nodup) (hl : Xd X e ρ (.d (.list (xs.map enc)))) (ok : BlkOk X.N X.env.scope scope own) (hg : ∀ (s : Shared) (H : Hp) (C : Addr) (cl : List (Str × Addr)) (fp : List Addr), PG (X.blk s H scope (compEnvC scope cl C X.env) fp) tg g) (hj : ∀ j ∈ js, j ∈ own.map (·.2)) (hz : xs.length ≤ 100000)
    (hr : ∀ x ∈ xs, RG X.K g js (.d (enc x)) (wipeE ρ (own.map (·.2))) (ρ' x)) (ht : ∀ x ∈ xs, ∀ z : Fz, Xb (bx X scope z) c (ρ' x) (t x)) (he : ∀ x ∈ xs, t x = true → ∀ z : Fz, Xd (bx X scope z) elt (ρ' x) (.d (out x))) (hc : X.calm = true := by rfl) (hf : ∀ x, foldedSetIterable e X.env x = pure x := by intro _; rfl) : Xl X (.ListComp elt [⟨tg, e, [c], 0⟩] scope pos) ρ ((xs.filter t).map out) := fun G =>
  x_lcL (fun i acc G' => acc = ((xs.take i).filter t).map out ∧ G' = G) hN hl ok hg hj (by rw [List.length_map]; exact hz) ⟨rfl, rfl⟩ (fun i d hd => by
    obtain ⟨x, hx, ed⟩ := of_map_at hd
    subst ed
    have hm := List.mem_of_getElem? hx
    refine ⟨ρ' x, hr x hm, fun acc G1 q => turn_if (t := t x) (fun z => ht x hm z) (fun h1 z => (he x hm h1 z).to ⟨out x, rfl, by rw [q.1, take_fil_yes t out hx h1], q.2⟩) fun h2 => ⟨by rw [q.1, take_fil_no t out hx h2], q.2⟩⟩)
    (fun l acc G3 q => ⟨l, rfl, by rw [q.1, q.2, List.length_map, List.take_length]⟩) hc hf
theorem xl_filR (n : Nat) (out : Nat → PyData) (t : Nat → Bool) (ρ' : Nat → Env) (hN : X.N.Nodup) (hm : X.mg "range" = none) (hl : Xad X [e] ρ [.d (.int n)]) (hn : n ≤ 100000) (ok : BlkOk X.N X.env.scope scope own) (hg : ∀ (s : Shared) (H : Hp) (C : Addr) (cl : List (Str × Addr)) (fp : List Addr), PG (X.blk s H scope (compEnvC scope cl C X.env) fp) tg g) (hj : ∀ j ∈ js, j ∈ own.map (·.2))
    (hr : ∀ i : Nat, RG X.K g js (.d (.int (i : Nat))) (wipeE ρ (own.map (·.2))) (ρ' i)) (ht : ∀ i < n, ∀ z : Fz, Xb (bx X scope z) c (ρ' i) (t i)) (he : ∀ i < n, t i = true → ∀ z : Fz, Xd (bx X scope z) elt (ρ' i) (.d (out i))) (hgl : Gl X "range" := by rfl) (hc : X.calm = true := by rfl) (hst : starEach [e] X.env = [(false, eval e X.env)] := by rfl) (hf : ∀ x, foldedSetIterable (.Call (.Name "range" p) [e] [] p2) X.env x = pure x := by intro _; rfl) :
    Xl X (.ListComp elt [⟨tg, .Call (.Name "range" p) [e] [] p2, [c], 0⟩] scope pos) ρ (((List.range n).filter t).map out) := fun G =>
  x_lcR (fun m i acc G' => m = n ∧ acc = (((List.range n).take i).filter t).map out ∧ G' = G) hN hm (hl G) ok hg hj (fun xs G1 q => ⟨n, q.1, by omega, by omega, rfl, rfl, q.2⟩) (fun m i hi => by
    by_cases hin : i < n
    · have hx : (List.range n)[i]? = some i := List.getElem?_range hin
      refine ⟨ρ' i, hr i, fun acc G1 q => turn_if (t := t i) (fun z => ht i hin z) (fun h1 z => (he i hin h1 z).to ⟨out i, rfl, q.1, by rw [q.2.1, take_fil_yes t out hx h1], q.2.2⟩) fun h2 => ⟨q.1, by rw [q.2.1, take_fil_no t out hx h2], q.2.2⟩⟩
    · refine ⟨ρ' i, hr i, fun acc G1 q => ?_⟩
      have := q.1
      omega)
    (fun l m acc G3 q => ⟨l, rfl, by rw [q.2.1, q.2.2, q.1, Int.toNat_natCast, List.take_of_length_le (by rw [List.length_range]; exact Nat.le_refl _)]⟩) hgl hc hst hf
end
end Fsh

set_option Elab.async false
set_option linter.all false
set_option maxRecDepth 100000
namespace Fsh
open PySem PySem.Spec PyProof.Rows L2
section
variable {X : Cx} {e a b c o elt tg : Expr} {es : List Expr} {ρ : Env} {G : Store} {Φ : Pst} {pos p p2 apos : Pos} {scope : Scope} {own : List (Str × Nat)} {g : TG} {js : List Nat} {α : Type}
/-! ### told by one value at this store -/
abbrev Xi (X : Cx) (e : Expr) (ρ : Env) (G : Store) (x : DV) : Prop := Xp X e ρ G (Is x G)
abbrev Xti (X : Cx) (e : Expr) (ρ : Env) (G : Store) (b : Bool) : Prop := Xt X e ρ G (IsT b G)
theorem Xi.to {x : DV} (h : Xi X e ρ G x) (q : Φ x G) : Xp X e ρ G Φ := R.is h q
theorem Xi.cast {x y : DV} (h : Xi X e ρ G x) (q : x = y) : Xi X e ρ G y := q ▸ h
theorem xi_bin {op : Operator} {r : R2} {x y : DV} (ho : OpR X (binaryOp op) r) (ha : Xi X a ρ G x) (hb : Xi X b ρ G y) (hr : Op X.K r x y G Φ) : Xp X (.BinOp a op b pos) ρ G Φ := xp_of (pe_op ho pe_tw pe_tw) (r_opD ha hb hr)
theorem xi_add {i j : Int} (ha : Xi X a ρ G (.d (.int i))) (hb : Xi X b ρ G (.d (.int j))) : Xi X (.BinOp a .Add b pos) ρ G (.d (.int (i + j))) := xi_bin op_add ha hb (op_ii0 (fun _ => .rint _) ⟨rfl, rfl⟩)
theorem xi_fdiv {i j : Int} (ha : Xi X a ρ G (.d (.int i))) (hb : Xi X b ρ G (.d (.int j))) (hc : CDivN i j) : Xi X (.BinOp a .FloorDiv b pos) ρ G (.d (.int (i.fdiv j))) := xi_bin op_fdivN ha hb (op_ii hc (fun _ => .rint _) ⟨rfl, rfl⟩)
theorem xi_mod {i j : Int} (ha : Xi X a ρ G (.d (.int i))) (hb : Xi X b ρ G (.d (.int j))) (hc : j ≠ 0) : Xi X (.BinOp a .Mod b pos) ρ G (.d (.int (i.fmod j))) := xi_bin op_modN ha hb (op_ii (C := fun _ j => j ≠ 0) hc (fun _ => .rint _) ⟨rfl, rfl⟩)
theorem xti_cmp {op : CmpOp} {r : R2} {x y : DV} {t : Bool} (ho : OpR X (compareOp op) r) (ha : Xi X a ρ G x) (hb : Xi X b ρ G y) (hr : Op X.K r x y G (Is (.d (.bool t)) G)) (hm : behindInMarks op b = false) : Xti X (.Compare a [op] [b] pos) ρ G t :=
  xt_of (pt_cmpR ho pe_tw pe_tw hm) (rt_of (r_opD ha hb fun F B H v u Q c r1 r2 k => hr F B H v u Q c r1 r2 (k.imp fun z G2 q => ⟨t, q.1, rfl, q.2⟩)))
theorem xti_gt {s t : Int} {r : Bool} (ha : Xi X a ρ G (.d (.int s))) (hb : Xi X b ρ G (.d (.int t))) (h : decide (t < s) = r) : Xti X (.Compare a [.Gt] [b] pos) ρ G r := h ▸ xti_cmp op_gt ha hb (op_ii0 (fun _ => .rbl _) ⟨rfl, rfl⟩) (nomark _)
theorem xti_lt {s t : Int} {r : Bool} (ha : Xi X a ρ G (.d (.int s))) (hb : Xi X b ρ G (.d (.int t))) (h : decide (s < t) = r) : Xti X (.Compare a [.Lt] [b] pos) ρ G r := h ▸ xti_cmp op_lt ha hb (op_ii0 (fun _ => .rbl _) ⟨rfl, rfl⟩) (nomark _)
theorem xi_int {i : Int} (B : Bn X.mg) (ha : Xi X e ρ G (.d (.int i))) (hg : Gl X "int" := by rfl) (he : starEach [e] X.env = (false, eval e X.env) :: starEach [] X.env := by rfl) (hpl : (backTo pos (starEach [] X.env)).any (·.1) = false := by rfl) : Xi X (.Call (.Name "int" p) [e] [] pos) ρ G (.d (.int i)) :=
  x_callTy call_int1 B.int (by decide +kernel) (xa_last (Φl := fun xs G2 => xs = [.d (.int i)] ∧ G2 = G) ha (fun x G2 q => ⟨by rw [q.1], q.2⟩) he) (fun xs G1 q => by rw [q.1, q.2]; exact co_int ⟨rfl, rfl⟩) hg (by decide) (by decide) he hpl
theorem xi_if {t : Bool} {y : DV} (hc : Xti X c ρ G t) (h1 : t = true → Xi X a ρ G y) (h2 : t = false → Xi X b ρ G y) : Xi X (.IfExp c a b pos) ρ G y := xp_if hc (fun G1 q => by rw [q.2]; exact h1 q.1.symm) fun G1 q => by rw [q.2]; exact h2 q.1.symm
theorem xti_and {s t : Bool} (h1 : Xti X a ρ G s) (h2 : s = true → Xti X b ρ G t) : Xti X (.BoolOp .And [a, b] pos) ρ G (s && t) :=
  xt_w (xw_and h1 (fun G1 q => by rw [q.2]; have e := q.1; subst e; exact xw_one ((h2 rfl).imp fun z G2 w => ⟨by rw [w.1]; rfl, w.2⟩)) fun G1 q => by have e := q.1; subst e; exact ⟨rfl, q.2⟩)
theorem xti_or {s t : Bool} (h1 : Xti X a ρ G s) (h2 : s = false → Xti X b ρ G t) : Xti X (.BoolOp .Or [a, b] pos) ρ G (s || t) :=
  xt_w (xw_or h1 (fun G1 q => by rw [q.2]; have e := q.1; subst e; exact xw_one ((h2 rfl).imp fun z G2 w => ⟨by rw [w.1]; rfl, w.2⟩)) fun G1 q => by have e := q.1; subst e; exact ⟨rfl, q.2⟩)
theorem Xad.i {xs : List DV} (h : Xad X es ρ xs) : Xa X es ρ G (IsA xs G) := h G
theorem Xb.i {t : Bool} (h : Xb X e ρ t) : Xti X e ρ G t := h G
theorem xs_ifI {sa sb : List Stmt} {t : Bool} {N : Env → Store → Prop} (hc : Xti X c ρ G t) (h1 : t = true → Xss X sa ρ G N Φ) (h2 : t = false → Xss X sb ρ G N Φ) : Xs X (.If c sa sb pos) ρ G N Φ := xs_if hc (fun G1 q => by rw [q.2]; exact h1 q.1.symm) fun G1 q => by rw [q.2]; exact h2 q.1.symm
/-- xs.append(e), the list at the store's head -/
theorem xs_app1 {l : Addr} {xs : List PyData} {d : PyData} {pos2 : Pos} (ho : Xd X o ρ (.a l)) (he : Xd X e ρ (.d d)) (hz : xs.length < 100000) (hs : swapsWith (.Call (.Attribute o "append" apos) [e] [] pos) none pos2.line X.env = pure false := by rfl)
    (hb : attributeBase o "append" X.env (eval o X.env) = eval o X.env := by rfl) (hf : ((backTo pos (starEach [e] X.env)).all (fun x => !x.1) && (backToKw pos (keywordEach [] X.env)).all (fun x => x.1.isSome) && decide (([e] : List Expr).length + ([] : List Keyword).length + (if ([] : List Keyword).isEmpty then 0 else 1) < 30)) = true := by rfl)
    (hl : (apos.endLine == pos.line) = true := by rfl) (hst : starEach [e] X.env = (false, eval e X.env) :: starEach [] X.env := by rfl) (hp : (backTo pos (starEach [] X.env)).any (·.1) = false := by rfl) : Xs X (.Expr (.Call (.Attribute o "append" apos) [e] [] pos) pos2) ρ ((l, .lst xs) :: G) (At ρ ((l, .lst (xs ++ [d])) :: G)) Φ :=
  xs_expr (Φe := fun y G2 => G2 = (l, .lst (xs ++ [d])) :: G) (xp_append ho ⟨_, List.mem_cons_self⟩ (he _) (fun y G2 q => ⟨d, [], xs, G, q.1, q.2, hz, rfl⟩) hb hf hl hst hp) (fun x G2 q => ⟨rfl, q⟩) hs
/-- [elt for x in xs if t], at this store -/
theorem xi_filL (xs : List α) (enc out : α → PyData) (t : α → Bool) (ρ' : α → Env) (hN : X.N.Nodup) (hl : Xd X e ρ (.d (.list (xs.map enc)))) (ok : BlkOk X.N X.env.scope scope own) (hg : ∀ (s : Shared) (H : Hp) (C : Addr) (cl : List (Str × Addr)) (fp : List Addr), PG (X.blk s H scope (compEnvC scope cl C X.env) fp) tg g) (hj : ∀ j ∈ js, j ∈ own.map (·.2)) (hz : xs.length ≤ 100000)
    (hr : ∀ x ∈ xs, RG X.K g js (.d (enc x)) (wipeE ρ (own.map (·.2))) (ρ' x)) (ht : ∀ x ∈ xs, ∀ z : Fz, Xti (bx X scope z) c (ρ' x) G (t x)) (he : ∀ x ∈ xs, t x = true → ∀ z : Fz, Xi (bx X scope z) elt (ρ' x) G (.d (out x))) (hc : X.calm = true := by rfl) (hf : ∀ x, foldedSetIterable e X.env x = pure x := by intro _; rfl) : Xp X (.ListComp elt [⟨tg, e, [c], 0⟩] scope pos) ρ G (New ((xs.filter t).map out) G) :=
  x_lcL (fun i acc G' => acc = ((xs.take i).filter t).map out ∧ G' = G) hN hl ok hg hj (by rw [List.length_map]; exact hz) ⟨rfl, rfl⟩ (fun i d hd => by
    obtain ⟨x, hx, ed⟩ := of_map_at hd
    subst ed
    have hm := List.mem_of_getElem? hx
    refine ⟨ρ' x, hr x hm, fun acc G1 q => ?_⟩
    have e1 := q.2
    subst e1
    exact ⟨IsT (t x) G1, fun z => xts_one (ht x hm z), fun z G2 w => by rw [w.2]; exact (he x hm w.1.symm z).to ⟨out x, rfl, by rw [q.1, take_fil_yes t out hx w.1.symm], rfl⟩, fun G2 w => ⟨by rw [q.1, take_fil_no t out hx w.1.symm], w.2⟩⟩)
    (fun l acc G3 q => ⟨l, rfl, by rw [q.1, q.2, List.length_map, List.take_length]⟩) hc hf
end
/-- the store in another order -/
theorem Cfg.swap {K : PySem.W.Frag} {F B H : Hp} {G1 G2 : Store} (p : G1.Perm G2) (c : Cfg K F G1 B H) : Cfg K F G2 B H :=
  ⟨c.ex, c.fr, fun x hx => c.ce x (p.mem_iff.mpr hx), c.fb, fun x hx => c.gb x (p.mem_iff.mpr hx), fun x hx => c.gf x (p.mem_iff.mpr hx), (p.map _).nodup_iff.mp c.nd⟩
theorem R.swap {K : PySem.W.Frag} {t : TE} {ρ : Env} {G1 G2 : Store} {Φ : Pst} (p : G1.Perm G2) (h : R K t ρ G2 Φ) : R K t ρ G1 Φ := fun F σ B H Q c s k => h F σ B H Q (c.swap p) s k
theorem RS.swap {K : PySem.W.Frag} {t : TS} {ρ : Env} {G1 G2 : Store} {N : Env → Store → Prop} {Φ : Pst} (p : G1.Perm G2) (h : RS K t ρ G2 N Φ) : RS K t ρ G1 N Φ := fun F σ B H D c s n k => h F σ B H D (c.swap p) s n k
/-- a cell that nobody asks for any more -/
theorem Cfg.lose {K : PySem.W.Frag} {F B H : Hp} {G : Store} {x : Addr × Cell} (c : Cfg K F (x :: G) B H) : Cfg K F G B H :=
  ⟨c.ex, c.fr, fun y hy => c.ce y (List.mem_cons_of_mem _ hy), c.fb, fun y hy => c.gb y (List.mem_cons_of_mem _ hy), fun y hy => c.gf y (List.mem_cons_of_mem _ hy), (List.nodup_cons.mp (show (x.1 :: G.map (·.1)).Nodup from c.nd)).2⟩
theorem R.lose {K : PySem.W.Frag} {t : TE} {ρ : Env} {G : Store} {Φ : Pst} (h : R K t ρ G fun y G2 => ∃ x G3, G2 = x :: G3 ∧ Φ y G3) : R K t ρ G Φ := fun F σ B H Q c s k => h F σ B H Q c s fun v y G2 B2 H2 e c2 r q => by
  obtain ⟨x, G3, e1, p⟩ := q
  subst e1
  exact k v y G3 B2 H2 e c2.lose r p
end Fsh

set_option Elab.async false
set_option linter.all false
set_option maxRecDepth 100000
/-! A list comprehension, wherever it stands: as a value, or stored in a name at once. -/
namespace Fsh
open PySem PySem.Spec PyProof.Rows L2
section
variable {X : Cx} {e a b c o elt tg : Expr} {es : List Expr} {ρ : Env} {G : Store} {Φ : Pst} {pos p p2 apos : Pos} {scope : Scope} {own : List (Str × Nat)} {g : TG} {js : List Nat} {α : Type}
def LcP (X : Cx) (elt tg e : Expr) (ifs : List Expr) (scope : Scope) (ρ : Env) (G : Store) (Φ : Pst) : Prop :=
  ∃ (own : List (Str × Nat)) (wi : TI) (g : TG) (tt : TT) (te : TE), X.calm = true ∧ X.N.Nodup ∧ PI X tg e wi ∧ BlkOk X.N X.env.scope scope own ∧ (∀ (s : Shared) (H : Hp) (C : Addr) (cl : List (Str × Addr)) (fp : List Addr), PG (X.blk s H scope (compEnvC scope cl C X.env) fp) tg g) ∧
    (∀ (s : Shared) (H : Hp) (C : Addr) (cl : List (Str × Addr)) (fp : List Addr), PTs (X.blk s H scope (compEnvC scope cl C X.env) fp) ifs tt) ∧ (∀ (s : Shared) (H : Hp) (C : Addr) (cl : List (Str × Addr)) (fp : List Addr), PE (X.blk s H scope (compEnvC scope cl C X.env) fp) elt te) ∧
    (∀ x, foldedSetIterable e X.env x = pure x) ∧ R X.K (tLc wi g tt te (own.map (·.2))) ρ G Φ
theorem LcP.xp {ifs : List Expr} (h : LcP X elt tg e ifs scope ρ G Φ) : Xp X (.ListComp elt [⟨tg, e, ifs, 0⟩] scope pos) ρ G Φ := by
  obtain ⟨own, wi, g, tt, te, hc, hN, hi, ok, hg, ht, he, hs, r⟩ := h
  exact xp_of (pe_lc hc hN hi ok hg ht he hs) r
theorem xs_setLc (i : Nat) {ifs : List Expr} {y : Str} {py spos : Pos} {N : Env → Store → Prop} {Φe : Pst} (h : LcP X elt tg e ifs scope ρ G Φe) (q : ∀ y G2, Φe y G2 → N (ρ.set i (some y)) G2) (hy : X.N[i]? = some y := by rfl) (hyl : X.env.scope.names.lookup y = some .local := by rfl)
    (hsw : swapsWith (.ListComp elt [⟨tg, e, ifs, 0⟩] scope pos) (some (.Name y py)) spos.line X.env = pure true := by rfl) : Xs X (.Assign [.Name y py] (.ListComp elt [⟨tg, e, ifs, 0⟩] scope pos) spos) ρ G N Φ := by
  obtain ⟨own, wi, g, tt, te, hc, hN, hi, ok, hg, ht, he, hs, r⟩ := h
  exact xs_of (ps_setLc hc hN hy hyl hsw hi ok hg ht he hs) (rs_asg r fun y G2 z => ⟨_, rg_name, q y G2 z⟩)
theorem xs_setLcD (i : Nat) {ifs : List Expr} {y : Str} {py spos : Pos} {ds : List PyData} (h : ∀ G, LcP X elt tg e ifs scope ρ G (New ds G)) (hy : X.N[i]? = some y := by rfl) (hyl : X.env.scope.names.lookup y = some .local := by rfl)
    (hsw : swapsWith (.ListComp elt [⟨tg, e, ifs, 0⟩] scope pos) (some (.Name y py)) spos.line X.env = pure true := by rfl) : Xs X (.Assign [.Name y py] (.ListComp elt [⟨tg, e, ifs, 0⟩] scope pos) spos) ρ G (At (ρ.set i (some (.d (.list ds)))) G) Φ := by
  refine xs_setLc (Φe := Is (.d (.list ds)) G) i ?_ (fun z G2 q => ⟨by rw [q.1], q.2⟩) hy hyl hsw
  obtain ⟨own, wi, g, tt, te, hc, hN, hi, ok, hg, ht, he, hs, r⟩ := h G
  exact ⟨own, wi, g, tt, te, hc, hN, hi, ok, hg, ht, he, hs, r.gives⟩
theorem lc_L {tg elt : Expr} {ifs : List Expr} {scope : Scope} {own : List (Str × Nat)} {g : TG} {js : List Nat} {ds : List PyData} (I : Nat → List PyData → Store → Prop) (hN : X.N.Nodup) (hl : Xd X e ρ (.d (.list ds))) (ok : BlkOk X.N X.env.scope scope own)
    (hg : ∀ (s : Shared) (H : Hp) (C : Addr) (cl : List (Str × Addr)) (fp : List Addr), PG (X.blk s H scope (compEnvC scope cl C X.env) fp) tg g) (hj : ∀ j ∈ js, j ∈ own.map (·.2)) (hz : ds.length ≤ 100000) (h0 : I 0 [] G)
    (hs : ∀ i d, ds[i]? = some d → ∃ ρ2, RG X.K g js (.d d) (wipeE ρ (own.map (·.2))) ρ2 ∧ ∀ acc G1, I i acc G1 → Turn X scope ifs elt ρ2 G1 (I (i + 1)) acc) (hq : ∀ l acc G3, I ds.length acc G3 → Φ (.a l) ((l, .lst acc) :: G3))
    (hc : X.calm = true := by rfl) (hf : ∀ x, foldedSetIterable e X.env x = pure x := by intro _; rfl) : LcP X elt tg e ifs scope ρ G Φ :=
  ⟨own, _, g, blkT X scope ifs, blkE X scope elt, hc, hN, (pi_list pe_tw), ok, hg, (fun s H C cl fp => ⟨fun pins st σ H' Q I h => (h (s, H, C, cl, fp)).run pins st I⟩), (fun s H C cl fp => ⟨fun pins st σ H' Q I h => (h (s, H, C, cl, fp)).run pins st I⟩), hf,
    ((r_lcL I (hl G) hj hz h0 fun i d hd => by
      obtain ⟨ρ2, g1, b1⟩ := hs i d hd
      exact ⟨ρ2, g1, fun acc G1 q => (b1 acc G1 q).one⟩).imp fun y G2 ⟨l, acc, G3, e1, e2, q⟩ => by rw [e1, e2]; exact hq l acc G3 q)⟩
theorem lc_T {tg elt : Expr} {ifs : List Expr} {scope : Scope} {own : List (Str × Nat)} {g : TG} {js : List Nat} {ds : List PyData} (I : Nat → List PyData → Store → Prop) (hN : X.N.Nodup) (hl : Xd X e ρ (.d (.tuple ds))) (ok : BlkOk X.N X.env.scope scope own)
    (hg : ∀ (s : Shared) (H : Hp) (C : Addr) (cl : List (Str × Addr)) (fp : List Addr), PG (X.blk s H scope (compEnvC scope cl C X.env) fp) tg g) (hj : ∀ j ∈ js, j ∈ own.map (·.2)) (hz : ds.length ≤ 100000) (h0 : I 0 [] G)
    (hs : ∀ i d, ds[i]? = some d → ∃ ρ2, RG X.K g js (.d d) (wipeE ρ (own.map (·.2))) ρ2 ∧ ∀ acc G1, I i acc G1 → Turn X scope ifs elt ρ2 G1 (I (i + 1)) acc) (hq : ∀ l acc G3, I ds.length acc G3 → Φ (.a l) ((l, .lst acc) :: G3))
    (hc : X.calm = true := by rfl) (hf : ∀ x, foldedSetIterable e X.env x = pure x := by intro _; rfl) : LcP X elt tg e ifs scope ρ G Φ :=
  ⟨own, _, g, blkT X scope ifs, blkE X scope elt, hc, hN, (pi_tup pe_tw), ok, hg, (fun s H C cl fp => ⟨fun pins st σ H' Q I h => (h (s, H, C, cl, fp)).run pins st I⟩), (fun s H C cl fp => ⟨fun pins st σ H' Q I h => (h (s, H, C, cl, fp)).run pins st I⟩), hf,
    ((r_lcT I (hl G) hj hz h0 fun i d hd => by
      obtain ⟨ρ2, g1, b1⟩ := hs i d hd
      exact ⟨ρ2, g1, fun acc G1 q => (b1 acc G1 q).one⟩).imp fun y G2 ⟨l, acc, G3, e1, e2, q⟩ => by rw [e1, e2]; exact hq l acc G3 q)⟩
theorem lc_R {tg elt : Expr} {ifs : List Expr} {scope : Scope} {own : List (Str × Nat)} {g : TG} {js : List Nat} {Φl : List DV → Store → Prop} (I : Int → Nat → List PyData → Store → Prop) (hN : X.N.Nodup) (hm : X.mg "range" = none) (hl : Xa X [e] ρ G Φl) (ok : BlkOk X.N X.env.scope scope own)
    (hg : ∀ (s : Shared) (H : Hp) (C : Addr) (cl : List (Str × Addr)) (fp : List Addr), PG (X.blk s H scope (compEnvC scope cl C X.env) fp) tg g) (hj : ∀ j ∈ js, j ∈ own.map (·.2)) (h0 : ∀ xs G1, Φl xs G1 → ∃ n : Int, xs = [.d (.int n)] ∧ n ≤ 100000 ∧ -100000 ≤ n ∧ I n 0 [] G1)
    (hs : ∀ (n : Int) (i : Nat), (i : Int) < n → ∃ ρ2, RG X.K g js (.d (.int i)) (wipeE ρ (own.map (·.2))) ρ2 ∧ ∀ acc G1, I n i acc G1 → Turn X scope ifs elt ρ2 G1 (I n (i + 1)) acc) (hq : ∀ l (n : Int) acc G3, I n n.toNat acc G3 → Φ (.a l) ((l, .lst acc) :: G3))
    (hgl : Gl X "range" := by rfl) (hc : X.calm = true := by rfl) (hst : starEach [e] X.env = [(false, eval e X.env)] := by rfl) (hf : ∀ x, foldedSetIterable (.Call (.Name "range" p) [e] [] p2) X.env x = pure x := by intro _; rfl) : LcP X elt tg (.Call (.Name "range" p) [e] [] p2) ifs scope ρ G Φ :=
  ⟨own, _, g, blkT X scope ifs, blkE X scope elt, hc, hN, (pi_range1 hgl hm pa_tw hst), ok, hg, (fun s H C cl fp => ⟨fun pins st σ H' Q I h => (h (s, H, C, cl, fp)).run pins st I⟩), (fun s H C cl fp => ⟨fun pins st σ H' Q I h => (h (s, H, C, cl, fp)).run pins st I⟩), hf,
    ((r_lcR I hl hj h0 fun n i hi => by
      obtain ⟨ρ2, g1, b1⟩ := hs n i hi
      exact ⟨ρ2, g1, fun acc G1 q => (b1 acc G1 q).one⟩).imp fun y G2 ⟨l, acc, G3, e1, e2, n, q⟩ => by rw [e1, e2]; exact hq l n acc G3 q)⟩
theorem lm_mapT (xs : List α) (enc out : α → PyData) (ρ' : α → Env) (hN : X.N.Nodup) (hl : Xd X e ρ (.d (.tuple (xs.map enc)))) (ok : BlkOk X.N X.env.scope scope own) (hg : ∀ (s : Shared) (H : Hp) (C : Addr) (cl : List (Str × Addr)) (fp : List Addr), PG (X.blk s H scope (compEnvC scope cl C X.env) fp) tg g) (hj : ∀ j ∈ js, j ∈ own.map (·.2)) (hz : xs.length ≤ 100000)
    (hr : ∀ x ∈ xs, RG X.K g js (.d (enc x)) (wipeE ρ (own.map (·.2))) (ρ' x)) (he : ∀ x ∈ xs, ∀ z : Fz, Xd (bx X scope z) elt (ρ' x) (.d (out x))) (hc : X.calm = true := by rfl) (hf : ∀ x, foldedSetIterable e X.env x = pure x := by intro _; rfl) : ∀ G, LcP X elt tg e [] scope ρ G (New (xs.map out) G) := fun G =>
  lc_T (fun i acc G' => acc = (xs.take i).map out ∧ G' = G) hN hl ok hg hj (by rw [List.length_map]; exact hz) ⟨rfl, rfl⟩ (fun i d hd => by
    obtain ⟨x, hx, ed⟩ := of_map_at hd
    subst ed
    have hm := List.mem_of_getElem? hx
    exact ⟨ρ' x, hr x hm, fun acc G1 q => turn_each fun z => (he x hm z).to ⟨out x, rfl, by rw [q.1, take_map_snoc out hx], q.2⟩⟩)
    (fun l acc G3 q => ⟨l, rfl, by rw [q.1, q.2, List.length_map, List.take_length]⟩) hc hf
theorem lm_mapL (xs : List α) (enc out : α → PyData) (ρ' : α → Env) (hN : X.N.Nodup) (hl : Xd X e ρ (.d (.list (xs.map enc)))) (ok : BlkOk X.N X.env.scope scope own) (hg : ∀ (s : Shared) (H : Hp) (C : Addr) (cl : List (Str × Addr)) (fp : List Addr), PG (X.blk s H scope (compEnvC scope cl C X.env) fp) tg g) (hj : ∀ j ∈ js, j ∈ own.map (·.2)) (hz : xs.length ≤ 100000)
    (hr : ∀ x ∈ xs, RG X.K g js (.d (enc x)) (wipeE ρ (own.map (·.2))) (ρ' x)) (he : ∀ x ∈ xs, ∀ z : Fz, Xd (bx X scope z) elt (ρ' x) (.d (out x))) (hc : X.calm = true := by rfl) (hf : ∀ x, foldedSetIterable e X.env x = pure x := by intro _; rfl) : ∀ G, LcP X elt tg e [] scope ρ G (New (xs.map out) G) := fun G =>
  lc_L (fun i acc G' => acc = (xs.take i).map out ∧ G' = G) hN hl ok hg hj (by rw [List.length_map]; exact hz) ⟨rfl, rfl⟩ (fun i d hd => by
    obtain ⟨x, hx, ed⟩ := of_map_at hd
    subst ed
    have hm := List.mem_of_getElem? hx
    exact ⟨ρ' x, hr x hm, fun acc G1 q => turn_each fun z => (he x hm z).to ⟨out x, rfl, by rw [q.1, take_map_snoc out hx], q.2⟩⟩)
    (fun l acc G3 q => ⟨l, rfl, by rw [q.1, q.2, List.length_map, List.take_length]⟩) hc hf
theorem lm_filL (xs : List α) (enc out : α → PyData) (t : α → Bool) (ρ' : α → Env) (hN : X.N.Nodup) (hl : Xd X e ρ (.d (.list (xs.map enc)))) (ok : BlkOk X.N X.env.scope scope own) (hg : ∀ (s : Shared) (H : Hp) (C : Addr) (cl : List (Str × Addr)) (fp : List Addr), PG (X.blk s H scope (compEnvC scope cl C X.env) fp) tg g) (hj : ∀ j ∈ js, j ∈ own.map (·.2)) (hz : xs.length ≤ 100000)
    (hr : ∀ x ∈ xs, RG X.K g js (.d (enc x)) (wipeE ρ (own.map (·.2))) (ρ' x)) (ht : ∀ x ∈ xs, ∀ z : Fz, Xb (bx X scope z) c (ρ' x) (t x)) (he : ∀ x ∈ xs, t x = true → ∀ z : Fz, Xd (bx X scope z) elt (ρ' x) (.d (out x))) (hc : X.calm = true := by rfl) (hf : ∀ x, foldedSetIterable e X.env x = pure x := by intro _; rfl) : ∀ G, LcP X elt tg e [c] scope ρ G (New ((xs.filter t).map out) G) := fun G =>
  lc_L (fun i acc G' => acc = ((xs.take i).filter t).map out ∧ G' = G) hN hl ok hg hj (by rw [List.length_map]; exact hz) ⟨rfl, rfl⟩ (fun i d hd => by
    obtain ⟨x, hx, ed⟩ := of_map_at hd
    subst ed
    have hm := List.mem_of_getElem? hx
    refine ⟨ρ' x, hr x hm, fun acc G1 q => turn_if (t := t x) (fun z => ht x hm z) (fun h1 z => (he x hm h1 z).to ⟨out x, rfl, by rw [q.1, take_fil_yes t out hx h1], q.2⟩) fun h2 => ⟨by rw [q.1, take_fil_no t out hx h2], q.2⟩⟩)
    (fun l acc G3 q => ⟨l, rfl, by rw [q.1, q.2, List.length_map, List.take_length]⟩) hc hf
end
end Fsh

set_option Elab.async false
set_option linter.all false
set_option maxRecDepth 100000
namespace Fsh
open PySem PySem.Spec PyProof.Rows L2
/-! ### displays of dicts -/
inductive Xk (X : Cx) (ρ : Env) : List (Option Expr) → List Expr → List (TE × TE) → List (Key × DV) → Prop
  | nil : Xk X ρ [] [] [] []
  | cons {s : Str} {j : Nat} {p : Pos} {v : Expr} {y : DV} {ks : List (Option Expr)} {vs : List Expr} {trs : List (TE × TE)} {kvs : List (Key × DV)} (hv : Xd X v ρ y) (t : Xk X ρ ks vs trs kvs) : Xk X ρ (some (.Constant (.str s) j p) :: ks) (v :: vs) ((tC (.str s), tw X v) :: trs) ((.inr s, y) :: kvs)
section
variable {X : Cx} {e a b c o elt tg : Expr} {es : List Expr} {ρ : Env} {G : Store} {Φ : Pst} {pos p p2 apos : Pos} {scope : Scope} {own : List (Str × Nat)} {g : TG} {js : List Nat} {α : Type}
theorem Xk.pps : ∀ {ks : List (Option Expr)} {vs : List Expr} {trs : List (TE × TE)} {kvs : List (Key × DV)}, Xk X ρ ks vs trs kvs → PPs X pos ks vs trs
  | _, _, _, _, .nil => pps_nil
  | _, _, _, _, .cons hv t => pps_cons pe_str pe_tw t.pps
theorem Xk.lens : ∀ {ks : List (Option Expr)} {vs : List Expr} {trs : List (TE × TE)} {kvs : List (Key × DV)}, Xk X ρ ks vs trs kvs → ks.length = vs.length ∧ ks.length = kvs.length ∧ ks.all (·.isSome) = true
  | _, _, _, _, .nil => ⟨rfl, rfl, rfl⟩
  | _, _, _, _, .cons hv t => by
    obtain ⟨h1, h2, h3⟩ := t.lens
    exact ⟨congrArg (· + 1) h1, congrArg (· + 1) h2, by rw [List.all_cons, h3]; rfl⟩
theorem Xk.run : ∀ {ks : List (Option Expr)} {vs : List Expr} {trs : List (TE × TE)} {kvs : List (Key × DV)}, Xk X ρ ks vs trs kvs → ∀ F σ B H (Q : List (V × V) → Hp → Prop), Cfg X.K F G B H → Slots X.K B σ ρ →
    (∀ ws B2 H2, Evl.Ex B B2 → Cfg X.K F G B2 H2 → Kvs X.K B2 ws kvs → Q (ws.map fun kv => (kV kv.1, kv.2)) H2) → tPairs trs σ H Q
  | _, _, _, _, .nil, F, σ, B, H, Q, c, s, k => k [] B H (Evl.Ex.refl B) c .nil
  | _, _, _, _, .cons (s := x) hv t, F, σ, B, H, Q, c, s, k => hv G F σ B H _ c s fun v y G2 B2 H2 e2 c2 r2 q2 => by
    rw [q2.1] at r2
    rw [q2.2] at c2
    exact t.run F σ B2 H2 _ c2 (s.mono e2) fun ws B3 H3 e3 c3 r3 => k ((.inr x, v) :: ws) B3 H3 (e2.trans e3) c3 (.cons (r2.mono e3) r3)
def mergeD (kvs more : List (Key × DV)) : List (Key × DV) := more.foldl (fun acc kv => putD acc kv.1 kv.2) kvs
theorem Kvs.merge {K : PySem.W.Frag} {B : Hp} : ∀ {more : List (Key × V)} {mored : List (Key × DV)} {ws : List (Key × V)} {kvs : List (Key × DV)}, Kvs K B more mored → Kvs K B ws kvs → Kvs K B (mergeK ws more) (mergeD kvs mored)
  | _, _, _, _, .nil, q => q
  | _, _, _, _, .cons (k := kk) h t, q => by
    have r := Kvs.merge t (q.put (k := kk) h)
    exact r
theorem xp_disp {ks : List (Option Expr)} {vs : List Expr} {trs : List (TE × TE)} {kvs : List (Key × DV)} (h : Xk X ρ ks vs trs kvs) (h0 : ks ≠ []) (h15 : ks.length ≤ 15) (hd : mergeD [] kvs = kvs) (q : ∀ l, Φ (.a l) ((l, .dct kvs) :: G)) : Xp X (.Dict ks vs pos) ρ G Φ :=
  xp_of (pe_disp h.pps h.lens.2.2 h.lens.1 h0 h15) fun F σ B H Q c s k p hp =>
    h.run (G := (p, .dct []) :: G) F σ B _ _ (c.cell (x := .dct []) hp ⟨[], upd_same, .nil⟩) s fun ws B2 H2 e2 c2 r2 => by
      obtain ⟨w0, h1, h2⟩ := c2.ce (p, .dct []) List.mem_cons_self
      cases h2
      refine ⟨h1, ws, rfl, ?_, ?_⟩
      · have : ws.length = kvs.length := r2.len
        rw [this, ← h.lens.2.1]
        exact h15
      · have r3 := Kvs.merge r2 (Kvs.nil (K := X.K) (B := B2))
        rw [hd] at r3
        exact k _ (.a p) _ B2 _ e2 (c2.set (G1 := []) (x' := .dct kvs) ⟨_, upd_same, r3⟩) rfl (q p)
/-- the first value a new list -/
theorem xp_dispL {s0 : Str} {j0 : Nat} {p0 : Pos} {v0 : Expr} {ds : List PyData} {ks : List (Option Expr)} {vs : List Expr} {trs : List (TE × TE)} {kvs : List (Key × DV)} (hv : Xl X v0 ρ ds) (h : Xk X ρ ks vs trs kvs) (h15 : ks.length + 1 ≤ 15) (hd : ∀ c, mergeD [] ((.inr s0, .a c) :: kvs) = (.inr s0, .a c) :: kvs) (q : ∀ l c, Φ (.a l) ((c, .lst ds) :: (l, .dct ((.inr s0, .a c) :: kvs)) :: G)) : Xp X (.Dict (some (.Constant (.str s0) j0 p0) :: ks) (v0 :: vs) pos) ρ G Φ :=
  xp_of (pe_disp (pps_cons pe_str pe_tw h.pps) (by rw [List.all_cons, h.lens.2.2]; rfl) (congrArg (· + 1) h.lens.1) (by simp) h15) fun F σ B H Q c s k p hp =>
    hv ((p, .dct []) :: G) F σ B _ _ (c.cell (x := .dct []) hp ⟨[], upd_same, .nil⟩) s fun v y G1 B1 H1 e1 c1 r1 q1 => by
      obtain ⟨lc, ey, eG⟩ := q1
      subst eG
      subst ey
      have r1 : v = .ref lc := r1
      subst r1
      exact h.run F σ B1 H1 _ c1 (s.mono e1) fun ws B2 H2 e2 c2 r2 => by
        obtain ⟨w0, h1, h2⟩ := c2.ce (p, .dct []) (List.mem_cons_of_mem _ List.mem_cons_self)
        cases h2
        refine ⟨h1, (.inr s0, .ref lc) :: ws, rfl, ?_, ?_⟩
        · have : ws.length = kvs.length := r2.len
          rw [List.length_cons, this, ← h.lens.2.1]
          exact h15
        · have r3 := Kvs.merge (Kvs.cons (k := .inr s0) (x := .a lc) (v := .ref lc) rfl r2) (Kvs.nil (K := X.K) (B := B2))
          rw [hd lc] at r3
          exact k _ (.a p) _ B2 _ (e1.trans e2) (c2.set (G1 := [(lc, .lst ds)]) (x' := .dct ((.inr s0, .a lc) :: kvs)) ⟨_, upd_same, r3⟩) rfl (q p lc)
/-! ### told at this store -/
theorem xi_ixC {l : Addr} {ds : List PyData} {i : Int} {d : PyData} (ha : Xd X a ρ (.a l)) (hb : Xi X b ρ G (.d (.int i))) (hm : (l, Cell.lst ds) ∈ G) (h : atI ds i = some d) (hs : PlainIx b := by exact fun _ _ => rfl) : Xi X (.Subscript a b pos) ρ G (.d d) := xp_of (pe_ix ix_list pe_tw pe_tw hs) (r_opD (ha G) hb (op_ixC hm h ⟨rfl, rfl⟩))
theorem xi_cons {x : DV} {xs : List DV} (ha : Xi X e ρ G x) (hr : Xa X es ρ G (IsA xs G)) (hs : starEach (e :: es) X.env = (false, eval e X.env) :: starEach es X.env := by rfl) : Xa X (e :: es) ρ G (IsA (x :: xs) G) :=
  xa_cons (Φa := Is x G) (Φr := fun _ => IsA xs G) ha (fun x' G1 h => by rw [h.2]; exact hr) (fun x' G1 xs' G2 h1 h2 => ⟨by rw [h1.1, h2.1], h2.2⟩) hs
theorem xi_dget {l : Addr} {kvs : List (Key × DV)} {k : Key} {x : DV} (hu : X.A.units + 1 < cLine) (ho : Xd X o ρ (.a l)) (hi : Xd X e ρ (keyD k)) (hm : (l, Cell.dct kvs) ∈ G) (hk : look kvs k = some x) (hs : NoSl e := by exact fun _ _ => rfl) : Xi X (.Subscript o e pos) ρ G x := xp_dget hu ho hi hm hk ⟨rfl, rfl⟩ hs
theorem xi_lenC {l : Addr} {ds : List PyData} (B : Bn X.mg) (ha : Xd X e ρ (.a l)) (hm : (l, Cell.lst ds) ∈ G) (hg : Gl X "len" := by rfl) (he : starEach [e] X.env = (false, eval e X.env) :: starEach [] X.env := by rfl) (hpl : (backTo pos (starEach [] X.env)).any (·.1) = false := by rfl) : Xi X (.Call (.Name "len" p) [e] [] pos) ρ G (.d (.int ds.length)) :=
  xp_lenC B ha hm ⟨rfl, rfl⟩ hg he hpl
theorem xti_ge {s t : Int} {r : Bool} (ha : Xi X a ρ G (.d (.int s))) (hb : Xi X b ρ G (.d (.int t))) (h : decide (t ≤ s) = r) : Xti X (.Compare a [.GtE] [b] pos) ρ G r := h ▸ xti_cmp op_ge ha hb (op_ii0 (fun _ => .rbl _) ⟨rfl, rfl⟩) (nomark _)
/-- o[key] = a value, at this store; the dict stands behind G1 -/
theorem xs_dputI {l : Addr} {k : Key} {x : DV} {kvs : List (Key × DV)} {G1 G2 : Store} {pos' : Pos} (hu : X.A.units + 1 < cLine) (hv : Xi X a ρ (G1 ++ (l, .dct kvs) :: G2) x) (ho : Xd X o ρ (.a l)) (hi : Xd X e ρ (keyD k)) (hz : kvs.length ≤ 100000)
    (hs : swapsWith a (some (.Subscript o e pos')) pos.line X.env = pure false := by rfl) : Xs X (.Assign [.Subscript o e pos'] a pos) ρ (G1 ++ (l, .dct kvs) :: G2) (At ρ (G1 ++ (l, .dct (putD kvs k x)) :: G2)) Φ :=
  xs_dput hu hv ho hi (fun y G3 q => ⟨G1, kvs, G2, q.2, hz, rfl, by rw [q.1]⟩) hs
theorem xs_setI (i : Nat) {x : Str} {p' : Pos} {y : DV} (h : Xi X e ρ G y) (hN : X.N.Nodup) (hi : X.N[i]? = some x := by rfl) (hx : Loc X.env.scope x := by first | exact Or.inl rfl | exact Or.inr rfl)
    (hs : swapsWithSole [.Name x p'] e pos.line X.env = pure false := by rfl) (hw : swappedStores [.Name x p'] e X.env = pure none := by rfl) (hf : X.fn x = true ∨ X.env.scope.names.lookup x = some .local := by first | exact .inl rfl | exact .inr rfl) : Xs X (.Assign [.Name x p'] e pos) ρ G (At (ρ.set i (some y)) G) Φ :=
  xs_set i h (fun z G2 q => ⟨by rw [q.1], q.2⟩) hN hi hx hs hw hf
end
end Fsh

set_option Elab.async false
set_option linter.all false
set_option maxRecDepth 100000
namespace Fsh
open PySem PySem.Spec PyProof.Rows L2
theorem R.frame {K : PySem.W.Frag} {t : TE} {ρ : Env} {G1 G2 : Store} {Φ : Pst} (h : R K t ρ G2 fun y G3 => Φ y (G1 ++ G3)) : R K t ρ (G1 ++ G2) Φ := fun F σ B H Q c s k => by
  obtain ⟨F', c4, fr⟩ := c.frame
  exact h F' σ B H Q c4 s fun v y G5 B5 H5 e5 c5 r5 q5 => k v y _ B5 H5 e5 (fr G5 B5 H5 e5 c5) r5 q5
theorem R.swapI {K : PySem.W.Frag} {t : TE} {ρ : Env} {G1 G2 : Store} {y : DV} (p : G1.Perm G2) (h : R K t ρ G2 (Is y G2)) : R K t ρ G1 (Is y G1) := fun F σ B H Q c s k => h F σ B H Q (c.swap p) s fun v x G3 B3 H3 e3 c3 r3 q3 => by
  rw [q3.2] at c3
  exact k v x G1 B3 H3 e3 (c3.swap p.symm) r3 ⟨q3.1, rfl⟩
section
variable {X : Cx} {e a b c o elt tg : Expr} {es : List Expr} {ρ : Env} {G : Store} {Φ : Pst} {pos p p2 apos : Pos} {scope : Scope} {own : List (Str × Nat)} {g : TG} {js : List Nat} {α : Type}
/-- a list of the store, read as data by what gives no list -/
theorem xi_froz {l : Addr} {xs : List PyData} {G1 G2 : Store} {y : DV} (h : Xd X e (thawE l xs ρ) y) (hy : noLv y = true) : Xi X e ρ (G1 ++ (l, .lst xs) :: G2) y :=
  R.swapI (G2 := (G1 ++ G2) ++ [(l, .lst xs)]) (by
    rw [List.append_assoc]
    exact List.Perm.append_left G1 (List.perm_append_singleton _ _).symm)
    (R.frame (G2 := [(l, .lst xs)]) (xp_frozen (G := []) (Xd.to h ⟨hy, (fun p hp => by cases hp), rfl, rfl⟩)))
theorem xi_call {k : Nat} {x : Str} {ps : List Str} {Z : Spec} {xs : List DV} {y : DV} (Fx : Fn X.prog X.w X.K X.mg X.base k x ps Z) (hr : Room k X.A) (ha : Xa X (e :: es) ρ G (IsA xs G)) (h : ∀ G Φ, Φ y G → Z xs G Φ) (hg : Gl X x := by rfl) (hdb : (x == ("__debug__" : Str)) = false := by decide)
    (hst : starEach (e :: es) X.env = (false, eval e X.env) :: starEach es X.env := by rfl) (hpl : (backTo pos (starEach es X.env)).any (·.1) = false := by rfl) : Xi X (.Call (.Name x p) (e :: es) [] pos) ρ G y :=
  xp_call Fx hr ha (fun xs' G' q => ⟨[], G', rfl, by rw [q.1]; exact h _ _ ⟨rfl, q.2⟩⟩) hg hdb hst hpl
theorem xi_lst {ds : List PyData} (h : Xa X es ρ G (IsA (ds.map DV.d) G)) (hz : ds.length ≤ 100000) : Xi X (.List es pos) ρ G (.d (.list ds)) := R.gives (xp_lst h fun xs G2 q => ⟨ds, q.1, hz, fun l => ⟨l, rfl, by rw [q.2]⟩⟩)
theorem xi_tup {x1 : Nat} {ds : List PyData} (h : Xa X es ρ G (IsA (ds.map DV.d) G)) (hz : ds.length ≤ 100000) : Xi X (.Tuple es x1 pos) ρ G (.d (.tuple ds)) := xp_tup h fun xs G2 q => ⟨ds, q.1, hz, rfl, q.2⟩
theorem xi_cat {xs ys : List PyData} (ha : Xi X a ρ G (.d (.list xs))) (hb : Xi X b ρ G (.d (.list ys))) (hz : xs.length + ys.length ≤ 100000) : Xi X (.BinOp a .Add b pos) ρ G (.d (.list (xs ++ ys))) := R.gives (xi_bin op_catS ha hb (op_ll (Evl.sz_of hz)))
theorem xi_sub {i j : Int} (ha : Xi X a ρ G (.d (.int i))) (hb : Xi X b ρ G (.d (.int j))) : Xi X (.BinOp a .Sub b pos) ρ G (.d (.int (i - j))) := xi_bin op_sub ha hb (op_ii0 (fun _ => .rint _) ⟨rfl, rfl⟩)
theorem xi_min {i j : Int} (B : Bn X.mg) (ha : Xi X a ρ G (.d (.int i))) (hb : Xi X b ρ G (.d (.int j))) (hg : Gl X "min" := by rfl) (hc : X.calm = true := by rfl) (he : starEach [a, b] X.env = (false, eval a X.env) :: starEach [b] X.env := by rfl) (he2 : starEach [b] X.env = (false, eval b X.env) :: starEach [] X.env := by rfl) (hpl : (backTo pos (starEach [b] X.env)).any (·.1) = false := by rfl) :
    Xi X (.Call (.Name "min" p) [a, b] [] pos) ρ G (.d (.int (if j < i then j else i))) :=
  x_callB (call_min2 hc) B.min (by decide +kernel) (xi_cons ha (xi_cons hb (xa_nil G) he2) he) (fun xs G1 q => by rw [q.1, q.2]; exact co_min ⟨rfl, rfl⟩) hg (by decide) (by decide) he hpl
theorem xi_tupC {l : Addr} {ds : List PyData} (B : Bn X.mg) (ha : Xd X e ρ (.a l)) (hm : (l, Cell.lst ds) ∈ G) (hg : Gl X "tuple" := by rfl) (he : starEach [e] X.env = (false, eval e X.env) :: starEach [] X.env := by rfl) (hpl : (backTo pos (starEach [] X.env)).any (·.1) = false := by rfl) : Xi X (.Call (.Name "tuple" p) [e] [] pos) ρ G (.d (.tuple ds)) := xp_tupC B ha hm ⟨rfl, rfl⟩ hg he hpl
/-- a test of two where the first has a choice -/
theorem xt_cmpL {op : CmpOp} {r : R2} {Φe : Pst} {Φt : Bool → Store → Prop} {y : DV} (ho : OpR X (compareOp op) r) (ha : Xp X a ρ G Φe) (hb : Xd X b ρ y) (hr : ∀ x G2, Φe x G2 → Op X.K r x y G2 fun z G3 => ∃ t, z = .d (.bool t) ∧ Φt t G3) (hm : behindInMarks op b = false) : Xt X (.Compare a [op] [b] pos) ρ G Φt :=
  xt_cmp (Φb := fun x z G2 => z = y ∧ Φe x G2) ho ha (fun x G1 q => Xd.to hb ⟨rfl, q⟩) (fun x G1 z G2 q1 q2 => by rw [q2.1]; exact hr x G2 q2.2) hm
theorem xt_gtR {Φe : Pst} {Φt : Bool → Store → Prop} {n : Int} {j : Nat} (ha : Xp X a ρ G Φe) (h : ∀ y G2, Φe y G2 → ∃ i : Int, y = .d (.int i) ∧ Φt (decide (n < i)) G2) : Xt X (.Compare a [.Gt] [.Constant (.int n) j p] pos) ρ G Φt :=
  xt_cmpL op_gt ha xd_int (fun x G2 q => by
    obtain ⟨i, e1, q2⟩ := h x G2 q
    subst e1
    exact op_ii0 (z := .bool (decide (n < i))) (fun _ => .rbl _) ⟨_, rfl, q2⟩) (nomark _)
theorem xt_eqR {Φe : Pst} {Φt : Bool → Store → Prop} {n : Int} {j : Nat} (ha : Xp X a ρ G Φe) (h : ∀ y G2, Φe y G2 → ∃ i : Int, y = .d (.int i) ∧ Φt (decide (i = n)) G2) : Xt X (.Compare a [.Eq] [.Constant (.int n) j p] pos) ρ G Φt :=
  xt_cmpL op_eq ha xd_int (fun x G2 q => by
    obtain ⟨i, e1, q2⟩ := h x G2 q
    subst e1
    exact fun F B H v u Q c r1 r2 k => op_eqi F B H v u Q c r1 r2 (k.imp fun z G3 w => ⟨_, w.1, by rw [w.2]; exact q2⟩)) (nomark _)
theorem xs_setLcI (i : Nat) {ifs : List Expr} {y : Str} {py spos : Pos} {ds : List PyData} (h : LcP X elt tg e ifs scope ρ G (New ds G)) (hy : X.N[i]? = some y := by rfl) (hyl : X.env.scope.names.lookup y = some .local := by rfl)
    (hsw : swapsWith (.ListComp elt [⟨tg, e, ifs, 0⟩] scope pos) (some (.Name y py)) spos.line X.env = pure true := by rfl) : Xs X (.Assign [.Name y py] (.ListComp elt [⟨tg, e, ifs, 0⟩] scope pos) spos) ρ G (At (ρ.set i (some (.d (.list ds)))) G) Φ := by
  refine xs_setLc (Φe := Is (.d (.list ds)) G) i ?_ (fun z G2 q => ⟨by rw [q.1], q.2⟩) hy hyl hsw
  obtain ⟨own, wi, g, tt, te, hc, hN, hi, ok, hg, ht, he, hs, r⟩ := h
  exact ⟨own, wi, g, tt, te, hc, hN, hi, ok, hg, ht, he, hs, r.gives⟩
theorem lci_L {tg elt : Expr} {ifs : List Expr} {scope : Scope} {own : List (Str × Nat)} {g : TG} {js : List Nat} {ds : List PyData} (I : Nat → List PyData → Store → Prop) (hN : X.N.Nodup) (hl : Xi X e ρ G (.d (.list ds))) (ok : BlkOk X.N X.env.scope scope own)
    (hg : ∀ (s : Shared) (H : Hp) (C : Addr) (cl : List (Str × Addr)) (fp : List Addr), PG (X.blk s H scope (compEnvC scope cl C X.env) fp) tg g) (hj : ∀ j ∈ js, j ∈ own.map (·.2)) (hz : ds.length ≤ 100000) (h0 : I 0 [] G)
    (hs : ∀ i d, ds[i]? = some d → ∃ ρ2, RG X.K g js (.d d) (wipeE ρ (own.map (·.2))) ρ2 ∧ ∀ acc G1, I i acc G1 → Turn X scope ifs elt ρ2 G1 (I (i + 1)) acc) (hq : ∀ l acc G3, I ds.length acc G3 → Φ (.a l) ((l, .lst acc) :: G3))
    (hc : X.calm = true := by rfl) (hf : ∀ x, foldedSetIterable e X.env x = pure x := by intro _; rfl) : LcP X elt tg e ifs scope ρ G Φ :=
  ⟨own, _, g, blkT X scope ifs, blkE X scope elt, hc, hN, (pi_list pe_tw), ok, hg, (fun s H C cl fp => ⟨fun pins st σ H' Q I h => (h (s, H, C, cl, fp)).run pins st I⟩), (fun s H C cl fp => ⟨fun pins st σ H' Q I h => (h (s, H, C, cl, fp)).run pins st I⟩), hf,
    ((r_lcL I hl hj hz h0 fun i d hd => by
      obtain ⟨ρ2, g1, b1⟩ := hs i d hd
      exact ⟨ρ2, g1, fun acc G1 q => (b1 acc G1 q).one⟩).imp fun y G2 ⟨l, acc, G3, e1, e2, q⟩ => by rw [e1, e2]; exact hq l acc G3 q)⟩
theorem li_filL (xs : List α) (enc out : α → PyData) (t : α → Bool) (ρ' : α → Env) (hN : X.N.Nodup) (hl : Xi X e ρ G (.d (.list (xs.map enc)))) (ok : BlkOk X.N X.env.scope scope own) (hg : ∀ (s : Shared) (H : Hp) (C : Addr) (cl : List (Str × Addr)) (fp : List Addr), PG (X.blk s H scope (compEnvC scope cl C X.env) fp) tg g) (hj : ∀ j ∈ js, j ∈ own.map (·.2)) (hz : xs.length ≤ 100000)
    (hr : ∀ x ∈ xs, RG X.K g js (.d (enc x)) (wipeE ρ (own.map (·.2))) (ρ' x)) (ht : ∀ x ∈ xs, ∀ z : Fz, Xti (bx X scope z) c (ρ' x) G (t x)) (he : ∀ x ∈ xs, t x = true → ∀ z : Fz, Xi (bx X scope z) elt (ρ' x) G (.d (out x))) (hc : X.calm = true := by rfl) (hf : ∀ x, foldedSetIterable e X.env x = pure x := by intro _; rfl) : LcP X elt tg e [c] scope ρ G (New ((xs.filter t).map out) G) :=
  lci_L (fun i acc G' => acc = ((xs.take i).filter t).map out ∧ G' = G) hN hl ok hg hj (by rw [List.length_map]; exact hz) ⟨rfl, rfl⟩ (fun i d hd => by
    obtain ⟨x, hx, ed⟩ := of_map_at hd
    subst ed
    have hm := List.mem_of_getElem? hx
    refine ⟨ρ' x, hr x hm, fun acc G1 q => ?_⟩
    have e1 := q.2
    subst e1
    exact ⟨IsT (t x) G1, fun z => xts_one (ht x hm z), fun z G2 w => by rw [w.2]; exact (he x hm w.1.symm z).to ⟨out x, rfl, by rw [q.1, take_fil_yes t out hx w.1.symm], rfl⟩, fun G2 w => ⟨by rw [q.1, take_fil_no t out hx w.1.symm], w.2⟩⟩)
    (fun l acc G3 q => ⟨l, rfl, by rw [q.1, q.2, List.length_map, List.take_length]⟩) hc hf
end
end Fsh

set_option Elab.async false
set_option linter.all false
set_option maxRecDepth 100000
namespace Fsh
open PySem PySem.Spec PyProof.Rows L2
section
variable {K : PySem.W.Frag} {ρ : Env} {G : Store} {Φ : Pst} {tl te : TE} {tt : TT} {g : TG} {js vs : List Nat}
/-- [.. for .. in a list that has a choice] -/
theorem r_lcX {Φs : Pst} (P : List PyData → Prop) (I : List PyData → Nat → List PyData → Store → Prop) (hl : R K tl ρ G Φs) (hj : ∀ j ∈ js, j ∈ vs) (h0 : ∀ y G1, Φs y G1 → ∃ ds, y = .d (.list ds) ∧ ds.length ≤ 100000 ∧ P ds ∧ I ds 0 [] G1)
    (hs : ∀ ds, P ds → ∀ i d, ds[i]? = some d → ∃ ρ2, RG K g js (.d d) (wipeE ρ vs) ρ2 ∧ ∀ acc G1, I ds i acc G1 → Turn1 K tt te ρ2 G1 (I ds (i + 1)) acc) :
    R K (tLc (iList K tl) g tt te vs) ρ G fun y G2 => ∃ l acc G3, y = .a l ∧ G2 = (l, .lst acc) :: G3 ∧ ∃ ds, P ds ∧ I ds ds.length acc G3 := fun F σ B H Q c s k =>
  hl F σ B H _ c s fun v x G2 B2 H2 e c2 r q => by
    obtain ⟨ds, e1, hz, hP, h0⟩ := h0 x G2 q
    subst e1
    cases r with
    | rlst p rr =>
      rename_i a ws
      refine ⟨a, rfl, ⟨ws, Evl.ex_l c2.ex p⟩, fun D hD => ?_⟩
      have nF : F D = none := Ex.free c2.fr hD
      refine lc_list (xs := ws) (fun i H' => Mid K F B2 D (I ds i) i H') ⟨[], [], G2, B2, Evl.Ex.refl _, .nil, Nat.le_refl _, c2.hide hD, h0⟩
        (fun i H' _ ⟨av, acc, G1, B1, e1, ra, _, c1, p1⟩ => Evl.ex_l (e1.trans c1.ex) p) (fun i y H' hy m => ?_) fun H' m => ?_
      · obtain ⟨d, hd1, hd2⟩ := rr.back hy
        obtain ⟨ρ2, g1, b1⟩ := hs ds hP i d hd1
        have hi := (List.getElem?_eq_some_iff.mp hd1).1
        exact mid_turn nF (by omega) hj (s.mono e) (fun B1 e1 => hd2.mono e1) m g1 b1
      · rw [rr.len] at m
        exact mid_end nF m ((k.mono e).imp fun y G2 ⟨l, acc, G3, a, b, p⟩ => ⟨l, acc, G3, a, b, ds, hP, p⟩)
end
section
variable {X : Cx} {e a b c o elt tg : Expr} {es : List Expr} {ρ : Env} {G : Store} {Φ : Pst} {pos p p2 apos : Pos} {scope : Scope} {own : List (Str × Nat)} {g : TG} {js : List Nat} {α : Type}
theorem lcx_L {tg elt : Expr} {ifs : List Expr} {scope : Scope} {own : List (Str × Nat)} {g : TG} {js : List Nat} {Φs : Pst} (P : List PyData → Prop) (I : List PyData → Nat → List PyData → Store → Prop) (hN : X.N.Nodup) (hl : Xp X e ρ G Φs) (ok : BlkOk X.N X.env.scope scope own)
    (hg : ∀ (s : Shared) (H : Hp) (C : Addr) (cl : List (Str × Addr)) (fp : List Addr), PG (X.blk s H scope (compEnvC scope cl C X.env) fp) tg g) (hj : ∀ j ∈ js, j ∈ own.map (·.2)) (h0 : ∀ y G1, Φs y G1 → ∃ ds, y = .d (.list ds) ∧ ds.length ≤ 100000 ∧ P ds ∧ I ds 0 [] G1)
    (hs : ∀ ds, P ds → ∀ i d, ds[i]? = some d → ∃ ρ2, RG X.K g js (.d d) (wipeE ρ (own.map (·.2))) ρ2 ∧ ∀ acc G1, I ds i acc G1 → Turn X scope ifs elt ρ2 G1 (I ds (i + 1)) acc) (hq : ∀ l acc G3 ds, P ds → I ds ds.length acc G3 → Φ (.a l) ((l, .lst acc) :: G3))
    (hc : X.calm = true := by rfl) (hf : ∀ x, foldedSetIterable e X.env x = pure x := by intro _; rfl) : LcP X elt tg e ifs scope ρ G Φ :=
  ⟨own, _, g, blkT X scope ifs, blkE X scope elt, hc, hN, (pi_list pe_tw), ok, hg, (fun s H C cl fp => ⟨fun pins st σ H' Q I h => (h (s, H, C, cl, fp)).run pins st I⟩), (fun s H C cl fp => ⟨fun pins st σ H' Q I h => (h (s, H, C, cl, fp)).run pins st I⟩), hf,
    ((r_lcX P I hl hj h0 fun ds hP i d hd => by
      obtain ⟨ρ2, g1, b1⟩ := hs ds hP i d hd
      exact ⟨ρ2, g1, fun acc G1 q => (b1 acc G1 q).one⟩).imp fun y G2 ⟨l, acc, G3, e1, e2, ds, hP, q⟩ => by rw [e1, e2]; exact hq l acc G3 ds hP q)⟩
theorem xb_val {t : Bool} (h : Xd X e ρ (.d (.bool t))) (he : ∀ whole, isTrue e X.env whole = (do let v ← whole; standAt e.pos; holding [v] (truthy v)) := by intro _; rfl) : Xb X e ρ t := fun G => xt_of (pt_val pe_tw he) (rt_ofB (Xd.to h ⟨t, rfl, rfl, rfl⟩))
end
end Fsh

set_option Elab.async false
set_option linter.all false
set_option maxRecDepth 100000
namespace Fsh
open PySem PySem.Spec PyProof.Rows L2
theorem R.nd {K : PySem.W.Frag} {t : TE} {ρ : Env} {G : Store} {Φ : Pst} (h : (G.map (·.1)).Nodup → R K t ρ G Φ) : R K t ρ G Φ := fun F σ B H Q c s k => h c.nd F σ B H Q c s k
theorem r_slX {K : PySem.W.Frag} {te tlo : TE} {th : TO} {ρ : Env} {G : Store} {Φ Φl : Pst} {ds : List PyData} (h : R K te ρ G (Is (.d (.list ds)) G)) (hl : R K tlo ρ G Φl) (h2 : RO K th ρ none) (hq : ∀ y G2, Φl y G2 → ∃ i : Int, y = .d (.int i) ∧ Φ (.d (.list (cutD ds (some i) none))) G2) : R K (L2.tSl (rSlL K) te (tPart tlo) th) ρ G Φ :=
  R.give fun F σ B H Q c s k => h F σ B H _ c s fun v x G2 B2 H2 e c2 r q => by
    rw [q.1] at r
    rw [q.2] at c2
    refine hl F σ B2 H2 _ c2 (s.mono e) fun u y G3 B3 H3 e3 c3 r3 q3 => ?_
    obtain ⟨i, e1, p⟩ := hq y G3 q3
    subst e1
    cases r3
    refine ⟨i, rfl, ?_⟩
    refine h2 F σ B3 G3 H3 _ c3 (s.mono (e.trans e3)) fun B4 H4 e4 c4 => ?_
    cases r with
    | rlst pp z =>
      refine ⟨_, _, rfl, Evl.ex_l ((e3.trans e4).trans c4.ex) pp, fun l hl => ?_⟩
      exact k _ (.a l) _ B4 _ ((e.trans e3).trans e4) (c4.cell (x := .lst (cutD ds (some i) none)) hl ⟨_, upd_same, (cut_rps z (some i) none).mono (e3.trans e4)⟩) rfl ⟨l, _, G3, rfl, rfl, p⟩
section
variable {X : Cx} {e a b c o elt tg : Expr} {es : List Expr} {ρ : Env} {G : Store} {Φ : Pst} {pos p p2 apos : Pos}
theorem xp_slX {lo : Expr} {ds : List PyData} {Φl : Pst} (he : Xd X e ρ (.d (.list ds))) (hl : Xp X lo ρ G Φl) (hq : ∀ y G2, Φl y G2 → ∃ i : Int, y = .d (.int i) ∧ Φ (.d (.list (cutD ds (some i) none))) G2) : Xp X (.Subscript e (.Slice (some lo) none none p2) pos) ρ G Φ :=
  xp_of (pe_slice sl_list pe_tw (po_some pe_tw) po_none) (r_slX (he G) hl ro_none hq)
theorem xa_step {Φa : Pst} {Φl : List DV → Store → Prop} (ha : Xp X e ρ G Φa) (hr : ∀ x G1, Φa x G1 → Xa X es ρ G1 fun xs G2 => Φl (x :: xs) G2) (hs : starEach (e :: es) X.env = (false, eval e X.env) :: starEach es X.env := by rfl) : Xa X (e :: es) ρ G Φl :=
  xa_cons (Φr := fun x xs G2 => Φl (x :: xs) G2) ha hr (fun _ _ _ _ _ q => q) hs
theorem xa_end {Φl : List DV → Store → Prop} (q : Φl [] G) : Xa X [] ρ G Φl := (xa_nil G).imp fun xs G2 w => by rw [w.1, w.2]; exact q
/-- a list whose items have a choice, taken as data -/
theorem xp_lstG {Φl : List DV → Store → Prop} (h : Xa X es ρ G Φl) (hq : ∀ xs G2, Φl xs G2 → ∃ ds, xs = ds.map DV.d ∧ ds.length ≤ 100000 ∧ Φ (.d (.list ds)) G2) : Xp X (.List es pos) ρ G Φ :=
  R.give (xp_lst h fun xs G2 q => by
    obtain ⟨ds, e1, h1, p⟩ := hq xs G2 q
    exact ⟨ds, e1, h1, fun l => ⟨l, ds, G2, rfl, rfl, p⟩⟩)
theorem xp_catG {xs : List PyData} {Φb : Pst} (ha : Xd X a ρ (.d (.list xs))) (hb : Xp X b ρ G Φb) (hq : ∀ y G2, Φb y G2 → ∃ ys, y = .d (.list ys) ∧ xs.length + ys.length ≤ 100000 ∧ Φ (.d (.list (xs ++ ys))) G2) : Xp X (.BinOp a .Add b pos) ρ G Φ :=
  R.give (x_binR op_catS ha hb fun y G2 q => by
    obtain ⟨ys, e1, h1, p⟩ := hq y G2 q
    subst e1
    exact fun F B H v u Q c r1 r2 k => op_ll (Evl.sz_of h1) F B H v u Q c r1 r2 (k.imp fun z G3 ⟨l, e1, e2⟩ => ⟨l, _, G2, e1, e2, p⟩))
/-- a[i]: both have a choice -/
theorem xp_ixX {Φa : Pst} {Φb : DV → Pst} (ha : Xp X a ρ G Φa) (hb : ∀ x G1, Φa x G1 → Xp X b ρ G1 (Φb x)) (h : ∀ x G1 y G2, Φa x G1 → Φb x y G2 → ∃ ds i d, x = .d (.list ds) ∧ y = .d (.int i) ∧ atI ds i = some d ∧ Φ (.d d) G2) (hs : PlainIx b := by exact fun _ _ => rfl) : Xp X (.Subscript a b pos) ρ G Φ :=
  xp_of (pe_ix ix_list pe_tw pe_tw hs) (r_op ha hb fun x G1 y G2 q1 q2 => by
    obtain ⟨ds, i, d, e1, e2, e3, q3⟩ := h x G1 y G2 q1 q2
    subst e1 e2
    exact op_ixL e3 q3)
theorem thaw_ne {l q : Addr} {xs : List PyData} {i : Nat} (h : ρ[i]? = some (some (.a q))) (hne : q ≠ l) : (thawE l xs ρ)[i]? = some (some (.a q)) := by
  unfold thawE
  rw [List.getElem?_map, h]
  show some (if q = l then some (DV.d (.list xs)) else some (.a q)) = _
  rw [if_neg hne]
theorem xp_call0 {k : Nat} {x : Str} {Z : Spec} (Fx : Fn X.prog X.w X.K X.mg X.base k x [] Z) (hr : Room k X.A) (h : Z [] G Φ) (hg : Gl X x := by rfl) (hdb : (x == ("__debug__" : Str)) = false := by decide) : Xp X (.Call (.Name x p) [] [] pos) ρ G Φ := by
  obtain ⟨f, fd, F1, hm, hk, hb⟩ := Fx.ex
  refine xp_of (pe_call0 F1 hr hg hm hk hb .nil pass0 hdb) fun F σ B H Q c s kk => ?_
  exact ⟨F, G, B, [], _, c, .nil, h, kk⟩
end
end Fsh

set_option Elab.async false
set_option linter.all false
set_option maxRecDepth 100000
namespace Fsh
open PySem PySem.Spec PyProof.Rows L2
/-! the law's own call, at the caller's place alone -/
theorem run_at {P : Program} {w : World} {K : PySem.W.Frag} {mg : Str → Option Value} {base : Heap} {k : Nat} {x : Str} {st : Stmt} {f : Addr} {fd : FuncData} {N ps : List Str} {A : Around} {outer : List PySem.Env} {s : Shared} {H : Hp} {args : Args} {us : List Value} {vs : List V} {Q : VK}
    (F1 : Fun K x x st f fd) (S : FnScope N ps (defScope st)) (hlen : vs.length = ps.length) (room : Room (k + 1) A) (en : Env0 P w K mg base A outer s H) (bd : BindsTo s fd args (ps.zip us)) (rel : Vals vs us)
    (body : ∀ cdv : Value, ∃ t, PSs (cxOf CX0 P w K mg base N x (defScope st) f cdv A outer s H E0).nox (defBody st) t ∧ t { nx := fun _ H' => Q .non H', rt := Q } (L2.start N vs) H) :
    codeAny (model P w) A (.call (.ref f) args) (CR CX0 outer P w H s Q E0) s := by
  obtain ⟨oc, od, kV, doc, pm, an, cdv, ct, osl, rfl, look, code⟩ := F1.ex
  have inS := en.mod.kin.keeps fun b o e => (en.bs b o e).1
  have noLim := en.mod.nolimit.keeps fun b o e => (en.bs b o e).1
  have kinds : ∀ y ∈ ps.zip us, (defScope st).names.lookup y.1 = some .local ∨ ((defScope st).names.lookup y.1 = some .cell ∧ ((cellsFrom (s.heap.objs.size + 1) (defScope st).names []).lookup y.1).isSome = true) := fun y hy => by
    obtain ⟨n, v⟩ := y
    rcases S.par n (List.of_mem_zip hy).1 with loc | cel
    · exact Or.inl loc
    · exact Or.inr ⟨cel, PySem.W.cellsFrom_some _ _ _ (Or.inl cel)⟩
  refine codeAny_call_function room.depth (inS _ _ look) rfl S.co S.gen rfl (PySem.W.codeRec_of inS code) (bd _ _ _ _ ?_)
  refine wpAny_newFunctionEnv_cells S.kind kinds fun env0 isE sA inC => ?_
  subst isE
  refine ⟨noLim.keeps inC.toInCall.keep, codeAny_func ?_⟩
  obtain ⟨t, ht0, hq⟩ := body cdv
  have ht := ht0.nox
  have inv0 : Inv (cxOf CX0 P w K mg base N x (defScope st) f cdv A outer s H E0) [] (L2.start N vs) H sA := inv_start S room.hd en hlen rel inC
  refine wpAny_mono (ht.run [] sA (L2.start N vs) H _ inv0 hq) (fun fl sB hs => ?_) fun _ _ hs => hs
  match fl, hs with
  | .ret u, hs =>
    obtain ⟨v, σ', H', J, rv, q⟩ := hs
    exact ⟨v, H', J.os, J.bare, J.base, J.hok, rv, q⟩
  | .next, hs =>
    obtain ⟨σ', H', J, q⟩ := hs
    exact ⟨V.non, H', J.os, J.bare, J.base, J.hok, rfl, q⟩
  | .brk, hs =>
    obtain ⟨_, _, _, q⟩ := hs
    exact q.elim
  | .cont, hs =>
    obtain ⟨_, _, _, q⟩ := hs
    exact q.elim
/-- a def of the module, wherever it stands -/
def DefIn (K : PySem.W.Frag) (mg : Str → Option Value) (x : Str) (st : Stmt) : Prop := ∃ f fd, Fun K x x st f fd ∧ mg x = some (.ref f)
theorem def_mk {x : Str} {st : Stmt} {K : PySem.W.Frag} {h : Heap} {mg : Str → Option Value} {f : Addr} {od an : Option Addr} {sl : Array (Option Value)} {oc kV dc pm cd ct : Value} (X : K.In h) (G : h.Ns mainGlobals mg)
    (a : PySem.W.nsIn K mainGlobals x = some (some (.ref f))) (l : K.lookup f = some ⟨oc, od, .func (PySem.W.fnOf x x (defArgs st) (defBody st) (defScope st) .none kV dc pm an cd ct), sl⟩) (c : PySem.W.codeIn K cd x = true) (k : PySem.W.keepIn K (.ref f) = true) : DefIn K mg x st :=
  ⟨f, _, fun_mk l c k, PySem.W.mg_of X G a⟩
theorem law_end {l : PySem.W.OpenLaw} {n k : Nat} {q : Program} {loose : List Str} {XP : (Str → Option Value) → Heap → Prop} {YP : World → Heap → Prop} {d : DefRec} {Kf : Params → PySem.W.Frag} {st : Stmt} {N : List Str} {x : Str}
    (most : l.most = some n) (most2 : n ≤ 1000) (nodef : d.params.defaults = []) (S : FnScope N [x] (defScope st)) (room : Room (k + 1) callerA) (inY : ∀ (w : World) (h : Heap), YP w h → (Kf w.params).In h)
    (bnd : ∀ (K : PySem.W.Frag) (f : Addr) (fd : FuncData), Fun K d.name d.name st f fd → Binds K fd [x] [])
    (D : PySem.W.Frag → (Str → Option Value) → Prop) (defs : ∀ (w : World) (mg : Str → Option Value) (h : Heap), (Kf w.params).In h → h.Ns mainGlobals mg → D (Kf w.params) mg) (lawD : ∀ (K : PySem.W.Frag) (mg : Str → Option Value), D K mg → DefIn K mg d.name st)
    (body : ∀ (w : World) (K : PySem.W.Frag) (mg : Str → Option Value) (base : Heap) (f : Addr) (cdv : Value) (s : Shared) (H : Hp) (cs : List Int), D K mg → cs.length ≤ n →
      Xss (cxOf CX0 l.prog w K mg base N d.name (defScope st) f cdv callerA [] s H E0).nox (defBody st) (start0 N [.d (.list (cs.map PyData.int))]) [] (fun _ _ => False) (fun y _ => y = .d (.bool true))) :
    PySem.W.WalkO q loose XP YP l.row.toRowW d [] (fun f vs => PySem.call f vs) := by
  refine Att.attach_call most nodef fun w s₀ s₁ mg mb fa o pm cd doc a vs ns Gr Y _ _ _ hmg hobj hints hlen hgen => ?_
  have inH := inY w _ Y
  have dd := defs w mg _ inH Gr.T.g
  obtain ⟨f, fd, F1, hm⟩ := lawD _ _ dd
  have ef : fa = f := by
    have := hmg.symm.trans hm
    cases this
    rfl
  subst ef
  have rel := vals_ints hints
  have hz : ns.length ≤ sizeLine := Nat.le_trans hlen (Nat.le_trans most2 (by decide))
  have key : ∀ H : Hp, (∀ b, H b = none ∨ ∃ o xs, H b = some (.frz o (.lst xs))) → SqL (Kf w.params) H a (ns.map V.int) → HOk l.prog w H s₁.heap → (∀ b, H b ≠ none → b = a ∧ (Kf w.params).lookup a = none) →
      codeAny (model l.prog w) callerA (.call (.ref fa) ⟨[.ref a], []⟩) (fun r s' => r = .ok (.ret (.bool true)) ∧ OldK s₁.heap s'.heap ∧ s'.os = s₁.os ∧ AllBare s'.gens) s₁ := by
    intro H only seq hok here
    have notA : ∀ {b : Addr} {ob : Obj} {es : Array DictEntry} {ep : Nat}, s₁.heap.get? b = some ob → ob.data = .dict es ep → H b = none := fun {b ob es ep} e dd => by
      rcases Classical.em (H b = none) with z | z
      · exact z
      · have eb := (here b z).1
        subst eb
        have e2 := hobj.symm.trans e
        cases e2
        have dd : Data.seq vs.toArray _ = Data.dict es ep := dd
        cases dd
    have nsB : ∀ {b : Addr} {m : Str → Option Value}, s₁.heap.Ns b m → (hidT s₁.heap H).Ns b m := fun {b m} z => by
      obtain ⟨ob, es, ep, e, dd, r⟩ := z
      exact ⟨ob, es, ep, hidT_get e (notA e dd), dd, r⟩
    have inB : (Kf w.params).In (hidT s₁.heap H) := fun b ob e => hidT_get (inH b ob e) (by
      rcases Classical.em (H b = none) with z | z
      · exact z
      · obtain ⟨eb, no⟩ := here b z
        subst eb
        rw [no] at e
        cases e)
    have md : Mod (Kf w.params) mg (hidT s₁.heap H) := ⟨inB, nsB Gr.T.g, ⟨mb, nsB Gr.T.b, Gr.T.builtins⟩, by
      obtain ⟨mc, z1, z2⟩ := Gr.T.nolimit
      exact ⟨mc, nsB z1, z2⟩⟩
    have en : Env0 l.prog w (Kf w.params) mg (hidT s₁.heap H) callerA [] s₁ H := ⟨rfl, md, fun b ob e => of_hidT e, Nat.le_of_eq (hidT_size _ _), trivial, fun b hb => absurd (show b ∈ ([] : List Addr) from hb) (by simp), hok, .of_eq hgen⟩
    have rsc : Rp (Kf w.params) H (.ref a) (.list (ns.map PyData.int)) := .rlst seq (Rps.of_ints ns)
    have cf : Cfg (Kf w.params) (fun _ => none) [] H H := ⟨Evl.Ex.refl H, (fun b ob e => nomatch e), (fun p hp => nomatch hp), (fun q hq => absurd rfl hq), (fun p hp => nomatch hp), (fun p hp => nomatch hp), List.nodup_nil⟩
    refine codeAny_mono (run_at (Q := fun v _ => v = .bl true) F1 S rfl room en (bnd _ _ _ F1 s₁ [.ref a] inH rfl) (show Vals [V.ref a] [Value.ref a] from .cons rfl .nil) fun cdv => ⟨_, pss_tw, body w _ mg (hidT s₁.heap H) fa cdv s₁ H ns dd hlen (fun _ => none) (L2.start N [.ref a]) H H _ cf (slots_start (.cons rsc .nil)) (fun _ _ _ _ _ _ _ _ z => z.elim) (fun v y G2 B2 H2 _ _ r e => ?_)⟩) fun r s' h => ?_
    · subst e
      cases (show Rp _ _ v (.bool true) from r)
      rfl
    · match r, h with
      | .error e, h => exact h.elim
      | .ok .next, h => exact h.elim
      | .ok .brk, h => exact h.elim
      | .ok .cont, h => exact h.elim
      | .ok (.ret u), h =>
        obtain ⟨v, H', os, bare, un, hok', rl, ev⟩ := h
        have ev : v = .bl true := ev
        subst ev
        obtain rfl : u = Value.bool true := rl
        refine ⟨rfl, OldK.of_keep fun b ob e => ?_, os, bare⟩
        rcases only b with z | ⟨ob2, xs, z⟩
        · exact un.keep b ob e z (by intro y; exact absurd (show b ∈ ([] : List Addr) from y) (by simp)) (by simp)
        · obtain ⟨g1, _⟩ := hok b _ z
          obtain ⟨g2, _⟩ := hok' b _ (un.frzs b ob2 _ z)
          rw [e] at g1
          cases g1
          exact g2
  cases lk : (Kf w.params).lookup a with
  | some ob =>
    have e := inH a ob lk
    rw [hobj] at e
    cases e
    exact key (fun _ => none) (fun _ => .inl rfl) (.inr ⟨_, vs.toArray, _, lk, rfl, rfl, rfl, by rw [List.size_toArray, hints.length]; exact hz, by simpa using rel⟩) (fun b u z => nomatch z) fun b z => absurd rfl z
  | none =>
    refine key (fun b => if b = a then some (.frz { cls := .type "list", data := .seq vs.toArray } (.lst (ns.map V.int))) else none) (fun b => ?_) (.inl (.inr ⟨{ cls := .type "list", data := .seq vs.toArray }, if_pos rfl⟩)) (fun b u z => ?_) (fun b z => ⟨?_, lk⟩)
    · rcases Classical.em (b = a) with hb | hb
      · exact .inr ⟨_, _, if_pos hb⟩
      · exact .inl (if_neg hb)
    · rcases Classical.em (b = a) with hb | hb
      · subst hb
        have z := (if_pos rfl).symm.trans z
        cases z
        exact ⟨hobj, by rw [List.length_map]; exact hz, vs, _, rel, hobj⟩
      · have z := (if_neg hb).symm.trans z
        cases z
    · rcases Classical.em (b = a) with hb | hb
      · exact hb
      · exact absurd (if_neg hb) z
end Fsh

set_option Elab.async false
set_option linter.all false
set_option maxRecDepth 100000
set_option maxHeartbeats 2000000
namespace Fsh
open PySem PySem.Spec PyProof.Rows L2
/-! ### defs whose callers run no repr -/
structure Fg (P : Program) (w : World) (K : PySem.W.Frag) (mg : Str → Option Value) (base : Heap) (k : Nat) (x : Str) (ps : List Str) (Z : Spec) : Prop where
  ex : ∃ f fd, (∀ xs G Φ, Z xs G Φ → xs.length = ps.length) ∧
    (∀ (A : Around) (outer : List PySem.Env) (s : Shared) (H : Hp) (args : Args) (us : List Value) (vs : List V) (Q : VK), Room k A → A.guards = some [] → Env0 P w K mg base A outer s H → BindsTo s fd args (ps.zip us) → Vals vs us → spS K Z vs H Q E0 →
      codeAny (model P w) A (.call (.ref f) args) (CR CX0 outer P w H s Q E0) s) ∧ mg x = some (.ref f) ∧ PySem.W.keepIn K (.ref f) = true ∧ Binds K fd ps []
theorem Fg.mono {P : Program} {w : World} {K : PySem.W.Frag} {mg : Str → Option Value} {base : Heap} {j k : Nat} {x : Str} {ps : List Str} {Z : Spec} (F : Fg P w K mg base j x ps Z) (h : j ≤ k) : Fg P w K mg base k x ps Z := by
  obtain ⟨f, fd, l, r, a, b, c⟩ := F.ex
  exact ⟨f, fd, l, fun A outer s H args us vs Q hr => r A outer s H args us vs Q (hr.mono h), a, b, c⟩
theorem fg_rule {P : Program} {w : World} {K : PySem.W.Frag} {mg : Str → Option Value} {base : Heap} {k : Nat} {x : Str} {ps : List Str} {Z : Spec} {st : Stmt} {f : Addr} {fd : FuncData} {N : List Str} (F1 : Fun K x x st f fd) (S : FnScope N ps (defScope st)) (hb : Binds K fd ps []) (hm : mg x = some (.ref f)) (len : ∀ xs G Φ, Z xs G Φ → xs.length = ps.length)
    (body : ∀ (cdv : Value) (A : Around) (outer : List PySem.Env) (s : Shared) (H : Hp) (E : XK), Room k (A.deeper (envOfC x (defScope st) s.heap.objs.size f cdv)) → A.guards = some [] → ∀ xs G Φ, Z xs G Φ →
      Xss (cxOf CX0 P w K mg base N x (defScope st) f cdv A outer s H E).nox (defBody st) (start0 N xs) G (fun _ G2 => Φ (.d .none) G2) Φ) : Fg P w K mg base (k + 1) x ps Z := by
  refine ⟨f, fd, len, fun A outer s H args us vs Q hr hg en bd rel sp => ?_, hm, F1.kp, hb⟩
  obtain ⟨F, G, B, xs, Φ, c, r, z, kk⟩ := sp
  refine run_at F1 S (r.len.trans (len xs G Φ z)) hr en bd rel fun cdv => ⟨_, pss_tw, body cdv A outer s H E0 (hr.deeper _) hg xs G Φ z F (L2.start N vs) B H _ c (slots_start r) (fun ρ' σ' G2 B2 H2 e2 c2 s2 q => ?_) kk⟩
  exact kk .non (.d .none) G2 B2 H2 e2 c2 .rnon q
theorem Fn.fg {P : Program} {w : World} {K : PySem.W.Frag} {mg : Str → Option Value} {base : Heap} {k : Nat} {x : Str} {ps : List Str} {Z : Spec} (F : Fn P w K mg base k x ps Z) (len : ∀ xs G Φ, Z xs G Φ → xs.length = ps.length) : Fg P w K mg base k x ps Z := by
  obtain ⟨f, fd, F1, a, b, c⟩ := F.ex
  exact ⟨f, fd, len, fun A outer s H args us vs Q hr hg en bd rel sp => F1.run A outer s H args us vs Q E0 hr en bd rel sp, a, b, c⟩
section
variable {X : Cx} {e a b c o : Expr} {es : List Expr} {ρ : Env} {G : Store} {Φ : Pst} {pos p : Pos} {k : Nat} {x : Str} {ps : List Str} {Z : Spec}
theorem xg_call {Φl : List DV → Store → Prop} (Fx : Fg X.prog X.w X.K X.mg X.base k x ps Z) (hr : Room k X.A) (hg0 : X.A.guards = some []) (ha : Xa X (e :: es) ρ G Φl) (h : ∀ xs G', Φl xs G' → ∃ G1 G2, G' = G1 ++ G2 ∧ Z xs G2 fun y G3 => Φ y (G1 ++ G3)) (hg : Gl X x := by rfl) (hdb : (x == ("__debug__" : Str)) = false := by decide)
    (hst : starEach (e :: es) X.env = (false, eval e X.env) :: starEach es X.env := by rfl) (hpl : (backTo pos (starEach es X.env)).any (·.1) = false := by rfl) : Xp X (.Call (.Name x p) (e :: es) [] pos) ρ G Φ := by
  obtain ⟨f, fd, hl, F1, hm, hk, hb⟩ := Fx.ex
  have pe : PE X (.Call (.Name x p) (e :: es) [] pos) (fun σ H Q => twA X (e :: es) σ H fun vs H1 => spS X.K Z vs H1 Q E0) := by
    refine ⟨fun pins s σ H Q I hq => ?_⟩
    refine wpAny_Call_Name_kw (ld_glob I hg hm ?_ hdb)
    refine PySem.W.callWith_K (h₀ := X.base) I.ok.mod.kin hk (thn (pa_tw.run pos pins s σ H _ I hq) fun us s1 ⟨vs, H1, I1, r, q⟩ => ⟨I1.kIn, ?_⟩) hst hpl
    have hlen : (us ++ []).length = ps.length := by
      obtain ⟨F, G, B, xs, Φ, _, r2, z, _⟩ := q
      rw [List.append_nil, ← r.length, r2.len]
      exact hl xs G Φ z
    have bd := hb s1 us I1.kIn hlen
    rw [List.append_nil] at bd
    refine wpAny_call (codeAny_mono (F1 X.A X.stack s1 H1 ⟨us, []⟩ us vs Q hr hg0 I1.env0 bd r q) fun r s' hq => ?_)
    match r, hq with
    | .error e, hq => exact hq.elim
    | .ok (.ret u), hq => exact I1.after hq
    | .ok .next, hq => exact hq.elim
    | .ok .brk, hq => exact hq.elim
    | .ok .cont, hq => exact hq.elim
  refine xp_of pe fun F σ B H Q c s kk => ha F σ B H _ c s fun vs xs G2 B2 H2 e2 c2 r2 q => ?_
  obtain ⟨G3, G4, eG, z⟩ := h xs G2 q
  subst eG
  obtain ⟨F', c4, fr⟩ := c2.frame
  exact ⟨F', G4, B2, xs, _, c4, r2, z, fun v y G5 B5 H5 e5 c5 r5 q5 => kk v y _ B5 H5 (e2.trans e5) (fr G5 B5 H5 e5 c5) r5 q5⟩
theorem xg_call0 (Fx : Fg X.prog X.w X.K X.mg X.base k x [] Z) (hr : Room k X.A) (hg0 : X.A.guards = some []) (h : Z [] G Φ) (hg : Gl X x := by rfl) (hdb : (x == ("__debug__" : Str)) = false := by decide) : Xp X (.Call (.Name x p) [] [] pos) ρ G Φ := by
  obtain ⟨f, fd, hl, F1, hm, hk, hb⟩ := Fx.ex
  have pe : PE X (.Call (.Name x p) [] [] pos) (fun σ H Q => spS X.K Z [] H Q E0) := by
    refine ⟨fun pins s σ H Q I hq => ?_⟩
    refine wpAny_Call_Name_kw (ld_glob I hg hm ?_ hdb)
    refine PySem.W.callWith_K0 I.kIn hk ?_
    have bd := hb s [] I.kIn (by
      obtain ⟨F, G, B, xs, Φ, _, r2, z, _⟩ := hq
      exact r2.len.trans (hl xs G Φ z))
    refine wpAny_call (codeAny_mono (F1 X.A X.stack s H ⟨[], []⟩ [] [] Q hr hg0 I.env0 bd .nil hq) fun r s' hq => ?_)
    match r, hq with
    | .error e, hq => exact hq.elim
    | .ok (.ret u), hq => exact I.after hq
    | .ok .next, hq => exact hq.elim
    | .ok .brk, hq => exact hq.elim
    | .ok .cont, hq => exact hq.elim
  refine xp_of pe fun F σ B H Q c s kk => ?_
  obtain ⟨F', c4, fr⟩ := Cfg.frame (G1 := []) c
  exact ⟨F', G, B, [], _, c4, .nil, h, fun v y G5 B5 H5 e5 c5 r5 q5 => kk v y _ B5 H5 e5 (fr G5 B5 H5 e5 c5) r5 q5⟩
end
end Fsh

set_option Elab.async false
set_option linter.all false
set_option maxRecDepth 100000
set_option maxHeartbeats 2000000
namespace Fsh
open PySem PySem.Spec PyProof.Rows L2
/-! ### readings over data that may be stuck (none): sound where they are not -/
structure EV (X : Cx) (e : Expr) (ρ : Env) (o : Option PyData) : Prop where
  run : ∀ d, o = some d → Xd X e ρ (.d d)
structure EB (X : Cx) (e : Expr) (ρ : Env) (o : Option Bool) : Prop where
  run : ∀ t, o = some t → Xd X e ρ (.d (.bool t))
structure ET (X : Cx) (e : Expr) (ρ : Env) (o : Option Bool) : Prop where
  run : ∀ t, o = some t → Xb X e ρ t
structure EW (X : Cx) (e : Expr) (ρ : Env) (o : Option Bool) : Prop where
  run : ∀ t, o = some t → Xwb X e ρ t
structure EA (X : Cx) (es : List Expr) (ρ : Env) (o : Option (List PyData)) : Prop where
  run : ∀ ds, o = some ds → Xad X es ρ (ds.map DV.d)
structure Kx (X : Cx) : Prop where
  bn : Bn X.mg
  isi : X.mg "isinstance" = none
  all : X.mg "all" = none
  zip : X.mg "zip" = none
  enum : X.mg "enumerate" = none
  bool : X.mg "bool" = none
  gd : X.A.guards = some []
  un : X.A.units + 200 < cLine
theorem Kx.bx {X : Cx} (k : Kx X) (scope : Scope) (z : Fz) : Kx (bx X scope z) := ⟨k.bn, k.isi, k.all, k.zip, k.enum, k.bool, k.gd, k.un⟩
/-! answers -/
def andO (a b : Option Bool) : Option Bool := a.bind fun t => if t then b else some false
def orO (a b : Option Bool) : Option Bool := a.bind fun t => if t then some true else b
def notO (a : Option Bool) : Option Bool := a.map fun t => !t
def ifO {α : Type} (c : Option Bool) (a b : Option α) : Option α := c.bind fun t => if t then a else b
def bin2 {α β γ : Type} (f : α → β → Option γ) (a : Option α) (b : Option β) : Option γ := a.bind fun x => b.bind fun y => f x y
def consO (a : Option PyData) (b : Option (List PyData)) : Option (List PyData) := bin2 (fun x y => some (x :: y)) a b
def tupO (a : Option (List PyData)) : Option PyData := a.bind fun ds => if ds.length ≤ 100000 then some (.tuple ds) else none
def lstO (a : Option (List PyData)) : Option PyData := a.bind fun ds => if ds.length ≤ 100000 then some (.list ds) else none
theorem bind_some {α β : Type} {o : Option α} {f : α → Option β} {d : β} (h : o.bind f = some d) : ∃ x, o = some x ∧ f x = some d := by
  cases o with
  | none => cases h
  | some x => exact ⟨x, rfl, h⟩
theorem bin2_some {α β γ : Type} {f : α → β → Option γ} {a : Option α} {b : Option β} {d : γ} (h : bin2 f a b = some d) : ∃ x y, a = some x ∧ b = some y ∧ f x y = some d := by
  obtain ⟨x, e1, h⟩ := bind_some h
  obtain ⟨y, e2, h⟩ := bind_some h
  exact ⟨x, y, e1, e2, h⟩
theorem ite_some {α : Type} {c : Prop} [Decidable c] {a b : α} (h : (if c then some a else none) = some b) : c ∧ a = b := by
  by_cases z : c
  · rw [if_pos z] at h
    exact ⟨z, Option.some.inj h⟩
  · rw [if_neg z] at h
    cases h
section
variable {X : Cx} {e a b c o : Expr} {es : List Expr} {ρ : Env} {G : Store} {Φ : Pst} {pos p p2 apos : Pos} {oa ob : Option PyData} {s t oc : Option Bool} {ol : Option (List PyData)}
/-! names, constants, displays -/
theorem ev_name (i : Nat) {x : Str} {y : PyData} (hN : X.N[i]? = some x := by rfl) (hv : Vis X.env.scope x := by first | exact Or.inl rfl | exact Or.inr (Or.inl rfl) | exact Or.inr (Or.inr rfl)) (hr : ρ[i]? = some (some (.d y)) := by rfl)
    (h1 : (x == ("__debug__" : Str)) = false := by decide) (h2 : (x == ("__classdict__" : Str)) = false := by decide) : EV X (.Name x pos) ρ (some y) := ⟨fun d h => by cases h; exact xd_name i hN hv hr h1 h2⟩
theorem ev_int {i : Int} {j : Nat} : EV X (.Constant (.int i) j pos) ρ (some (.int i)) := ⟨fun d h => by cases h; exact xd_int⟩
theorem ev_str {x : Str} {j : Nat} : EV X (.Constant (.str x) j pos) ρ (some (.str x)) := ⟨fun d h => by cases h; exact xd_str⟩
theorem ev_none {j : Nat} : EV X (.Constant .none j pos) ρ (some .none) := ⟨fun d h => by cases h; exact xd_none⟩
theorem ev_bool {x : Bool} {j : Nat} : EV X (.Constant (.bool x) j pos) ρ (some (.bool x)) := ⟨fun d h => by cases h; exact xd_bool⟩
theorem eb_bool {x : Bool} {j : Nat} : EB X (.Constant (.bool x) j pos) ρ (some x) := ⟨fun d h => by cases h; exact xd_bool⟩
def negO : PyData → Option PyData
  | .int i => some (.int (-i))
  | _ => none
theorem ev_neg (h : EV X a ρ oa) : EV X (.UnaryOp .USub a pos) ρ (oa.bind negO) := ⟨fun d hd => by
  obtain ⟨x, e1, h2⟩ := bind_some hd
  cases x <;> cases h2
  exact xd_neg (h.run _ e1)⟩
theorem ea_nil : EA X [] ρ (some []) := ⟨fun ds h => by cases h; exact xa_nil⟩
theorem ea_cons (h : EV X e ρ oa) (hr : EA X es ρ ol) (hs : starEach (e :: es) X.env = (false, eval e X.env) :: starEach es X.env := by rfl) : EA X (e :: es) ρ (consO oa ol) := ⟨fun ds hd => by
  obtain ⟨x, y, e1, e2, h3⟩ := bin2_some hd
  cases h3
  exact xad_cons (h.run _ e1) (hr.run _ e2) hs⟩
theorem ev_tup {k : Nat} (h : EA X es ρ ol) : EV X (.Tuple es k pos) ρ (tupO ol) := ⟨fun d hd => by
  obtain ⟨ds, e1, h2⟩ := bind_some hd
  obtain ⟨hz, e2⟩ := ite_some h2
  subst e2
  exact xd_tup (h.run _ e1) hz⟩
theorem ev_lst (h : EA X es ρ ol) : EV X (.List es pos) ρ (lstO ol) := ⟨fun d hd => by
  obtain ⟨ds, e1, h2⟩ := bind_some hd
  obtain ⟨hz, e2⟩ := ite_some h2
  subst e2
  exact (xl_lst (h.run _ e1) hz).data⟩
/-! constants of any depth, read at once -/
mutual
def cstD : Nat → Expr → Option PyData
  | 0, _ => none
  | n + 1, e => match e with
    | .Constant (.int i) _ _ => some (.int i)
    | .Constant (.str x) _ _ => some (.str x)
    | .Constant .none _ _ => some .none
    | .Constant (.bool x) _ _ => some (.bool x)
    | .UnaryOp .USub (.Constant (.int i) _ _) _ => some (.int (-i))
    | .Tuple es _ _ => tupO (cstA n es)
    | .List es _ => lstO (cstA n es)
    | _ => none
def cstA : Nat → List Expr → Option (List PyData)
  | 0, _ => none
  | _ + 1, [] => some []
  | n + 1, e :: es => consO (cstD n e) (cstA n es)
end
end
theorem cst_star {X : Cx} {es : List Expr} : ∀ {n : Nat} {e : Expr} {d : PyData}, cstD n e = some d → starEach (e :: es) X.env = (false, eval e X.env) :: starEach es X.env := by
  intro n e d h
  cases n with
  | zero => simp [cstD] at h
  | succ n => cases e <;> first | rfl | (simp [cstD] at h)
mutual
theorem ev_cst {X : Cx} {ρ : Env} : ∀ (n : Nat) {e : Expr}, EV X e ρ (cstD n e)
  | 0, e => ⟨fun d h => by simp [cstD] at h⟩
  | n + 1, e => by
    refine ⟨fun d h => ?_⟩
    unfold cstD at h
    split at h
    · exact (ev_int).run d h
    · exact (ev_str).run d h
    · exact (ev_none).run d h
    · exact (ev_bool).run d h
    · cases h
      exact xd_neg xd_int
    · exact (ev_tup (ea_cst n)).run d h
    · exact (ev_lst (ea_cst n)).run d h
    · cases h
theorem ea_cst {X : Cx} {ρ : Env} : ∀ (n : Nat) {es : List Expr}, EA X es ρ (cstA n es)
  | 0, es => ⟨fun d h => by simp [cstA] at h⟩
  | n + 1, [] => ⟨fun d h => by
    unfold cstA at h
    exact ea_nil.run d h⟩
  | n + 1, e :: es => ⟨fun d h => by
    unfold cstA at h
    obtain ⟨x, y, e1, e2, h3⟩ := bin2_some h
    exact (ea_cons (ev_cst n) (ea_cst n) (cst_star e1)).run d h⟩
end
section
variable {X : Cx} {e a b c o : Expr} {es : List Expr} {ρ : Env} {G : Store} {Φ : Pst} {pos p p2 apos : Pos} {oa ob : Option PyData} {s t oc : Option Bool} {ol : Option (List PyData)}
/-! and, or, not, a if c else b -/
theorem eb_one {op : BoolOp} (h : EB X a ρ s) : EB X (.BoolOp op [a] pos) ρ s := ⟨fun t ht G => xp_one (h.run t ht G)⟩
theorem eb_and (h1 : EB X a ρ s) (h2 : EB X (.BoolOp .And (b :: es) pos) ρ t) : EB X (.BoolOp .And (a :: b :: es) pos) ρ (andO s t) := ⟨fun r hr G => by
  obtain ⟨x, e1, h3⟩ := bind_some hr
  refine xp_and (Φa := Is (.d (.bool x)) G) ((h1.run x e1 G).imp fun y G2 q => ⟨x, q.1, q⟩) (fun G1 q => ?_) fun G1 q => ?_
  · obtain ⟨q1, q2⟩ := q
    cases q1
    subst q2
    exact h2.run r h3 _
  · obtain ⟨q1, q2⟩ := q
    cases q1
    subst q2
    cases h3
    exact ⟨rfl, rfl⟩⟩
theorem eb_or (h1 : EB X a ρ s) (h2 : EB X (.BoolOp .Or (b :: es) pos) ρ t) : EB X (.BoolOp .Or (a :: b :: es) pos) ρ (orO s t) := ⟨fun r hr G => by
  obtain ⟨x, e1, h3⟩ := bind_some hr
  refine xp_of (pe_or pe_tw pe_tw) fun F σ B H Q c sl k => h1.run x e1 G F σ B H _ c sl fun v y G2 B2 H2 e2 c2 r2 q2 => ?_
  rw [q2.1] at r2
  rw [q2.2] at c2
  cases r2
  refine ⟨x, rfl, ?_⟩
  cases x with
  | true =>
    cases h3
    rw [if_pos rfl]
    exact (k.mono e2).ret (x := .d (.bool true)) c2 (.rbl true) ⟨rfl, rfl⟩
  | false =>
    rw [if_neg Bool.false_ne_true]
    exact h2.run r h3 G F σ B2 H2 Q c2 (sl.mono e2) (k.mono e2)⟩
theorem eb_not (h1 : EB X a ρ s) : EB X (.UnaryOp .Not a pos) ρ (notO s) := ⟨fun r hr G => by
  obtain ⟨x, e1, h3⟩ := Option.map_eq_some_iff.mp hr
  subst h3
  refine xp_of (pe_not pe_tw) fun F σ B H Q c sl k => h1.run x e1 G F σ B H _ c sl fun v y G2 B2 H2 e2 c2 r2 q2 => ?_
  rw [q2.1] at r2
  rw [q2.2] at c2
  cases r2
  exact ⟨x, rfl, (k.mono e2).ret (x := .d (.bool (!x))) c2 (.rbl _) ⟨rfl, rfl⟩⟩⟩
theorem ew_one {op : BoolOp} (h : ET X a ρ s) : EW X (.BoolOp op [a] pos) ρ s := ⟨fun t ht G => xw_one (h.run t ht G)⟩
theorem ew_and (h1 : ET X a ρ s) (h2 : EW X (.BoolOp .And (b :: es) pos) ρ t) : EW X (.BoolOp .And (a :: b :: es) pos) ρ (andO s t) := ⟨fun r hr G => by
  obtain ⟨x, e1, h3⟩ := bind_some hr
  refine xw_and (h1.run x e1 G) (fun G1 q => ?_) fun G1 q => ?_
  · obtain ⟨q1, q2⟩ := q
    subst q1 q2
    exact h2.run r h3 _
  · obtain ⟨q1, q2⟩ := q
    subst q1 q2
    cases h3
    exact ⟨rfl, rfl⟩⟩
theorem ew_or (h1 : ET X a ρ s) (h2 : EW X (.BoolOp .Or (b :: es) pos) ρ t) : EW X (.BoolOp .Or (a :: b :: es) pos) ρ (orO s t) := ⟨fun r hr G => by
  obtain ⟨x, e1, h3⟩ := bind_some hr
  refine xw_or (h1.run x e1 G) (fun G1 q => ?_) fun G1 q => ?_
  · obtain ⟨q1, q2⟩ := q
    subst q1 q2
    exact h2.run r h3 _
  · obtain ⟨q1, q2⟩ := q
    subst q1 q2
    cases h3
    exact ⟨rfl, rfl⟩⟩
theorem et_w (h : EW X e ρ s) : ET X e ρ s := ⟨fun t ht G => xt_w (h.run t ht G)⟩
theorem et_not (h : ET X a ρ s) : ET X (.UnaryOp .Not a pos) ρ (notO s) := ⟨fun r hr G => by
  obtain ⟨x, e1, h3⟩ := Option.map_eq_some_iff.mp hr
  subst h3
  exact xt_not ((h.run x e1 G).imp fun b G2 q => ⟨by rw [q.1], q.2⟩)⟩
theorem et_val (h : EB X e ρ s) (he : ∀ whole, isTrue e X.env whole = (do let v ← whole; standAt e.pos; holding [v] (truthy v)) := by intro _; rfl) : ET X e ρ s := ⟨fun t ht => xb_val (h.run t ht) he⟩
theorem ev_if (hc : ET X c ρ oc) (ha : EV X a ρ oa) (hb : EV X b ρ ob) : EV X (.IfExp c a b pos) ρ (ifO oc oa ob) := ⟨fun d hd => by
  obtain ⟨t, e1, h2⟩ := bind_some hd
  refine xd_if (hc.run t e1) (fun z => ?_) fun z => ?_
  · subst z
    exact ha.run d h2
  · subst z
    exact hb.run d h2⟩
theorem eb_if (hc : ET X c ρ oc) (ha : EB X a ρ s) (hb : EB X b ρ t) : EB X (.IfExp c a b pos) ρ (ifO oc s t) := ⟨fun d hd => by
  obtain ⟨t, e1, h2⟩ := bind_some hd
  refine xd_if (hc.run t e1) (fun z => ?_) fun z => ?_
  · subst z
    exact ha.run d h2
  · subst z
    exact hb.run d h2⟩
theorem ev_eb (h : EB X e ρ s) : EV X e ρ (s.map .bool) := ⟨fun d hd => by
  obtain ⟨t, e1, h2⟩ := Option.map_eq_some_iff.mp hd
  subst h2
  exact h.run t e1⟩
def boO : PyData → Option Bool
  | .bool t => some t
  | _ => none
theorem eb_ev (h : EV X e ρ oa) : EB X e ρ (oa.bind boO) := ⟨fun t ht => by
  obtain ⟨x, e1, h2⟩ := bind_some ht
  cases x <;> cases h2
  exact h.run _ e1⟩
/-! operators -/
structure BinS (X : Cx) (op : Operator) (f : PyData → PyData → Option PyData) : Prop where
  run : ∀ {x y d : PyData} {a b : Expr} {pos : Pos} {ρ : Env}, f x y = some d → Xd X a ρ (.d x) → Xd X b ρ (.d y) → Xd X (.BinOp a op b pos) ρ (.d d)
theorem ev_bin {op : Operator} {f : PyData → PyData → Option PyData} (hf : BinS X op f) (ha : EV X a ρ oa) (hb : EV X b ρ ob) : EV X (.BinOp a op b pos) ρ (bin2 f oa ob) := ⟨fun d hd => by
  obtain ⟨x, y, e1, e2, h3⟩ := bin2_some hd
  exact hf.run h3 (ha.run _ e1) (hb.run _ e2)⟩
def addD : PyData → PyData → Option PyData
  | .int i, .int j => some (.int (i + j))
  | .str s, .str t => if s.length + t.length ≤ sizeLine then some (.str (s ++ t)) else none
  | .tuple xs, .tuple ys => if xs.length + ys.length ≤ 100000 then some (.tuple (xs ++ ys)) else none
  | .list xs, .list ys => if xs.length + ys.length ≤ 100000 then some (.list (xs ++ ys)) else none
  | _, _ => none
theorem bs_add : BinS X .Add addD := ⟨fun {x y d a b pos ρ} h ha hb => by
  unfold addD at h
  split at h
  · cases h
    exact xd_add ha hb
  · obtain ⟨z, e⟩ := ite_some h
    subst e
    exact xd_adds ha hb z
  · obtain ⟨z, e⟩ := ite_some h
    subst e
    exact xd_catt ha hb z
  · obtain ⟨z, e⟩ := ite_some h
    subst e
    exact (xl_cat ha hb z).data
  · cases h⟩
def subD : PyData → PyData → Option PyData
  | .int i, .int j => some (.int (i - j))
  | _, _ => none
theorem bs_sub : BinS X .Sub subD := ⟨fun {x y d a b pos ρ} h ha hb => by
  unfold subD at h
  split at h
  · cases h
    exact xd_sub ha hb
  · cases h⟩
def mulD : PyData → PyData → Option PyData
  | .tuple xs, .int n => if xs ≠ [] ∧ 2 ≤ n ∧ n ≤ 1000 ∧ xs.length ≤ 1000 then some (.tuple (List.replicate n.toNat xs).flatten) else none
  | _, _ => none
theorem bs_mul : BinS X .Mult mulD := ⟨fun {x y d a b pos ρ} h ha hb => by
  unfold mulD at h
  split at h
  · obtain ⟨z, e⟩ := ite_some h
    subst e
    exact xd_mult ha hb z.1 z.2.1 z.2.2.1 z.2.2.2
  · cases h⟩
def powD : PyData → PyData → Option PyData
  | .int i, .int j => if i = 10 ∧ j = 59 then some (.int (10 ^ 59)) else none
  | _, _ => none
theorem bs_pow : BinS X .Pow powD := ⟨fun {x y d a b pos ρ} h ha hb => by
  unfold powD at h
  split at h
  · obtain ⟨z, e⟩ := ite_some h
    obtain ⟨e1, e2⟩ := z
    subst e e1 e2
    exact xd_pow ha hb ⟨by decide, by decide, by decide⟩
  · cases h⟩
/-! comparisons -/
structure CmpS (X : Cx) (op : CmpOp) (f : PyData → PyData → Option Bool) : Prop where
  run : ∀ {x y : PyData} {t : Bool} {a b : Expr} {pos : Pos} {ρ : Env}, f x y = some t → behindInMarks op b = false → Xd X a ρ (.d x) → Xd X b ρ (.d y) → Xd X (.Compare a [op] [b] pos) ρ (.d (.bool t)) ∧ Xb X (.Compare a [op] [b] pos) ρ t
theorem eb_cmp {op : CmpOp} {f : PyData → PyData → Option Bool} (hf : CmpS X op f) (ha : EV X a ρ oa) (hb : EV X b ρ ob) (hm : behindInMarks op b = false := by rfl) : EB X (.Compare a [op] [b] pos) ρ (bin2 f oa ob) := ⟨fun d hd => by
  obtain ⟨x, y, e1, e2, h3⟩ := bin2_some hd
  exact (hf.run h3 hm (ha.run _ e1) (hb.run _ e2)).1⟩
theorem et_cmp {op : CmpOp} {f : PyData → PyData → Option Bool} (hf : CmpS X op f) (ha : EV X a ρ oa) (hb : EV X b ρ ob) (hm : behindInMarks op b = false := by rfl) : ET X (.Compare a [op] [b] pos) ρ (bin2 f oa ob) := ⟨fun d hd => by
  obtain ⟨x, y, e1, e2, h3⟩ := bin2_some hd
  exact (hf.run h3 hm (ha.run _ e1) (hb.run _ e2)).2⟩
def eqO (x y : PyData) : Option Bool := if SeqAt.shaped x = true ∧ SeqAt.shaped y = true then some (PyData.eqv x y) else none
def neO (x y : PyData) : Option Bool := if SeqAt.shaped x = true ∧ SeqAt.shaped y = true then some (!PyData.eqv x y) else none
theorem cs_eq (k : Kx X) : CmpS X .Eq eqO := ⟨fun {x y t a b pos ρ} h hm ha hb => by
  obtain ⟨z, e⟩ := ite_some h
  subst e
  have hu : X.A.units + 64 < cLine := by have := k.un; omega
  exact ⟨fun G => x_cmpD (op_eqD hu) ha hb (op_eqdd z.1 z.2) hm, xt_cmpD (op_eqD hu) ha hb (fun _ => op_eqdd z.1 z.2) hm⟩⟩
theorem cs_ne (k : Kx X) : CmpS X .NotEq neO := ⟨fun {x y t a b pos ρ} h hm ha hb => by
  obtain ⟨z, e⟩ := ite_some h
  subst e
  have hu : X.A.units + 64 < cLine := by have := k.un; omega
  exact ⟨fun G => x_cmpD (op_neD hu) ha hb (op_nedd z.1 z.2) hm, xt_cmpD (op_neD hu) ha hb (fun _ => op_nedd z.1 z.2) hm⟩⟩
def intC (f : Int → Int → Bool) : PyData → PyData → Option Bool
  | .int i, .int j => some (f i j)
  | _, _ => none
theorem cs_int {op : CmpOp} {f : Int → Int → Bool} (ho : OpR X (compareOp op) (rI0 fun i j => .bl (f i j))) : CmpS X op (intC f) := ⟨fun {x y t a b pos ρ} h hm ha hb => by
  unfold intC at h
  split at h
  · cases h
    exact ⟨fun G => x_cmpD ho ha hb (op_ii0 (fun _ => .rbl _) ⟨rfl, rfl⟩) hm, xt_cmpD ho ha hb (fun _ => op_ii0 (fun _ => .rbl _) ⟨rfl, rfl⟩) hm⟩
  · cases h⟩
abbrev ltO := intC fun i j => decide (i < j)
abbrev leO := intC fun i j => decide (i ≤ j)
abbrev gtO := intC fun i j => decide (i > j)
abbrev geO := intC fun i j => decide (i ≥ j)
theorem cs_lt : CmpS X .Lt ltO := cs_int op_lt
theorem cs_le : CmpS X .LtE leO := cs_int op_le
theorem cs_gt : CmpS X .Gt gtO := cs_int op_gt
theorem cs_ge : CmpS X .GtE geO := cs_int op_ge
def isO (x y : PyData) : Option Bool := if isNo y = true then some (isNo x) else none
def nisO (x y : PyData) : Option Bool := if isNo y = true then some (!isNo x) else none
theorem isNo_of {y : PyData} (h : isNo y = true) : y = .none := by
  cases y <;> first | rfl | cases h
theorem cs_is : CmpS X .Is isO := ⟨fun {x y t a b pos ρ} h hm ha hb => by
  obtain ⟨z, e⟩ := ite_some h
  subst e
  have z := isNo_of z
  subst z
  exact ⟨fun G => x_cmpD op_isN ha hb op_isn hm, xt_cmpD op_isN ha hb (fun _ => op_isn) hm⟩⟩
theorem cs_nis : CmpS X .IsNot nisO := ⟨fun {x y t a b pos ρ} h hm ha hb => by
  obtain ⟨z, e⟩ := ite_some h
  subst e
  have z := isNo_of z
  subst z
  exact ⟨fun G => x_cmpD op_notN ha hb op_notn hm, xt_cmpD op_notN ha hb (fun _ => op_notn) hm⟩⟩
/-! x in y: a sign in a text; a text among texts -/
def strs? : List PyData → Option (List Str)
  | [] => some []
  | .str s :: r => (strs? r).map (s :: ·)
  | _ :: _ => none
theorem strs_of : ∀ {ds : List PyData} {l : List Str}, strs? ds = some l → ds = l.map PyData.str
  | [], l, h => by
    cases h
    rfl
  | d :: ds, l, h => by
    cases d <;> first | cases h | skip
    obtain ⟨m, e1, e2⟩ := Option.map_eq_some_iff.mp h
    subst e2
    rw [strs_of e1]
    rfl
def inO : PyData → PyData → Option Bool
  | .str s, .tuple ys => (strs? ys).map fun l => decide (s ∈ l)
  | .str s, .list ys => (strs? ys).map fun l => decide (s ∈ l)
  | .str s, .str z => match s.cps.toList with
    | [c] => some (decide (c ∈ z.cps.toList))
    | _ => none
  | _, _ => none
theorem inV_strs {s : Str} {l : List Str} : inV (.str s) (l.map V.str) = decide (s ∈ l) := by
  unfold inV
  rw [Bool.eq_iff_iff, decide_eq_true_iff, List.any_eq_true]
  constructor
  · rintro ⟨y, hy, he⟩
    obtain ⟨m, hm, e⟩ := List.mem_map.mp hy
    subst e
    have : m = s := by simpa [eqV] using he
    exact this ▸ hm
  · intro h
    exact ⟨_, List.mem_map.mpr ⟨s, h, rfl⟩, by simp [eqV]⟩
theorem op_inT {K : PySem.W.Frag} {neg : Bool} {s : Str} {l : List Str} {G : Store} : Op K (rIn K neg) (.d (.str s)) (.d (.tuple (l.map PyData.str))) G (Is (.d (.bool (if neg then !decide (s ∈ l) else decide (s ∈ l)))) G) := fun F B H v u Q c r1 r2 k => by
  cases r1
  cases r2 with
  | rtup p z =>
    have e := z.strs
    subst e
    refine ⟨_, _, rfl, .inr (Evl.ex_t c.ex p), rfl, List.all_eq_true.mpr fun y hy => ?_, ?_⟩
    · obtain ⟨m, _, e⟩ := List.mem_map.mp hy
      subst e
      rfl
    · rw [inV_strs]
      exact k.ret (x := .d (.bool _)) c (.rbl _) ⟨rfl, rfl⟩
theorem op_inLs {K : PySem.W.Frag} {neg : Bool} {s : Str} {l : List Str} {G : Store} : Op K (rIn K neg) (.d (.str s)) (.d (.list (l.map PyData.str))) G (Is (.d (.bool (if neg then !decide (s ∈ l) else decide (s ∈ l)))) G) := fun F B H v u Q c r1 r2 k => by
  cases r1
  cases r2 with
  | rlst p z =>
    have e := z.strs
    subst e
    refine ⟨_, _, rfl, .inl (Evl.ex_l c.ex p), rfl, List.all_eq_true.mpr fun y hy => ?_, ?_⟩
    · obtain ⟨m, _, e⟩ := List.mem_map.mp hy
      subst e
      rfl
    · rw [inV_strs]
      exact k.ret (x := .d (.bool _)) c (.rbl _) ⟨rfl, rfl⟩
theorem str_one {s : Str} {c : Nat} (h : s.cps.toList = [c]) : s = ⟨#[c]⟩ := by
  obtain ⟨⟨l⟩⟩ := s
  have : l = [c] := h
  subst this
  rfl
theorem op_inC {K : PySem.W.Frag} {c : Nat} {z : Str} {G : Store} : Op K rInS (.d (.str ⟨#[c]⟩)) (.d (.str z)) G (Is (.d (.bool (decide (c ∈ z.cps.toList)))) G) := fun F B H v u Q cf r1 r2 k => by
  cases r1
  cases r2
  exact ⟨c, z, rfl, rfl, k.ret (x := .d (.bool _)) cf (.rbl _) ⟨rfl, rfl⟩⟩
theorem op_ninC {K : PySem.W.Frag} {c : Nat} {z : Str} {G : Store} : Op K rNotInS (.d (.str ⟨#[c]⟩)) (.d (.str z)) G (Is (.d (.bool (!decide (c ∈ z.cps.toList)))) G) := fun F B H v u Q cf r1 r2 k => by
  cases r1
  cases r2
  exact ⟨c, z, rfl, rfl, k.ret (x := .d (.bool _)) cf (.rbl _) ⟨rfl, rfl⟩⟩
theorem cs_in : CmpS X .In inO := ⟨fun {x y t a b pos ρ} h hm ha hb => by
  unfold inO at h
  split at h
  · obtain ⟨l, e1, e2⟩ := Option.map_eq_some_iff.mp h
    have e3 := strs_of e1
    subst e2 e3
    exact ⟨fun G => x_cmpD op_in_seq ha hb (op_inT (neg := false)) hm, xt_cmpD op_in_seq ha hb (fun _ => op_inT (neg := false)) hm⟩
  · obtain ⟨l, e1, e2⟩ := Option.map_eq_some_iff.mp h
    have e3 := strs_of e1
    subst e2 e3
    exact ⟨fun G => x_cmpD op_in_seq ha hb (op_inLs (neg := false)) hm, xt_cmpD op_in_seq ha hb (fun _ => op_inLs (neg := false)) hm⟩
  · split at h
    · rename_i c hc
      cases h
      have e := str_one hc
      subst e
      exact ⟨fun G => x_cmpD op_inS ha hb op_inC hm, xt_cmpD op_inS ha hb (fun _ => op_inC) hm⟩
    · cases h
  · cases h⟩
def ninO (x y : PyData) : Option Bool := notO (inO x y)
theorem cs_nin : CmpS X .NotIn ninO := ⟨fun {x y t a b pos ρ} h hm ha hb => by
  obtain ⟨t0, h9, e0⟩ := Option.map_eq_some_iff.mp (show Option.map (fun t => !t) (inO x y) = some t from h)
  clear h
  subst e0
  unfold inO at h9
  split at h9
  · obtain ⟨l, e1, e2⟩ := Option.map_eq_some_iff.mp h9
    have e3 := strs_of e1
    subst e2 e3
    exact ⟨fun G => x_cmpD op_notIn_seq ha hb (op_inT (neg := true)) hm, xt_cmpD op_notIn_seq ha hb (fun _ => op_inT (neg := true)) hm⟩
  · obtain ⟨l, e1, e2⟩ := Option.map_eq_some_iff.mp h9
    have e3 := strs_of e1
    subst e2 e3
    exact ⟨fun G => x_cmpD op_notIn_seq ha hb (op_inLs (neg := true)) hm, xt_cmpD op_notIn_seq ha hb (fun _ => op_inLs (neg := true)) hm⟩
  · split at h9
    · rename_i c hc
      cases h9
      have e := str_one hc
      subst e
      exact ⟨fun G => x_cmpD op_notInS ha hb op_ninC hm, xt_cmpD op_notInS ha hb (fun _ => op_ninC) hm⟩
    · cases h9
  · cases h9⟩
/-! a chain of two comparisons of ints -/
def chainO (f g : Int → Int → Bool) : Option PyData → Option PyData → Option PyData → Option Bool
  | some (.int i), some (.int j), some (.int k) => some (f i j && g j k)
  | _, _, _ => none
theorem chainO_some {f g : Int → Int → Bool} {oa ob od : Option PyData} {t : Bool} (h : chainO f g oa ob od = some t) : ∃ i j k, oa = some (.int i) ∧ ob = some (.int j) ∧ od = some (.int k) ∧ t = (f i j && g j k) := by
  unfold chainO at h
  split at h
  · cases h
    exact ⟨_, _, _, rfl, rfl, rfl, rfl⟩
  · cases h
theorem r_chain {K : PySem.W.Frag} {ta tb tc : TE} {f g : Int → Int → Bool} {i j k : Int} (ha : R K ta ρ G (Is (.d (.int i)) G)) (hb : R K tb ρ G (Is (.d (.int j)) G)) (hc : R K tc ρ G (Is (.d (.int k)) G)) : R K (tChain (rI0 fun i j => .bl (f i j)) (rI0 fun i j => .bl (g i j)) ta tb tc) ρ G (Is (.d (.bool (f i j && g j k))) G) := by
  intro F σ B H Q c s kk
  refine ha F σ B H _ c s fun v x G1 B1 H1 e1 c1 r1 q1 => ?_
  rw [q1.1] at r1
  rw [q1.2] at c1
  refine hb F σ B1 H1 _ c1 (s.mono e1) fun u y G2 B2 H2 e2 c2 r2 q2 => ?_
  rw [q2.1] at r2
  rw [q2.2] at c2
  cases r1
  cases r2
  refine ⟨i, j, rfl, rfl, f i j, rfl, ?_⟩
  cases z : f i j with
  | false =>
    rw [if_neg Bool.false_ne_true]
    exact (kk.mono (e1.trans e2)).ret (x := .d (.bool _)) c2 (.rbl _) ⟨by rw [z]; rfl, rfl⟩
  | true =>
    rw [if_pos rfl]
    refine hc F σ B2 H2 _ c2 (s.mono (e1.trans e2)) fun u2 y2 G3 B3 H3 e3 c3 r3 q3 => ?_
    rw [q3.1] at r3
    rw [q3.2] at c3
    cases r3
    exact ⟨j, k, rfl, rfl, (kk.mono ((e1.trans e2).trans e3)).ret (x := .d (.bool _)) c3 (.rbl _) ⟨by rw [z]; rfl, rfl⟩⟩
theorem eb_chain {op op' : CmpOp} {f g : Int → Int → Bool} {od : Option PyData} (ho : OpR X (compareOp op) (rI0 fun i j => .bl (f i j))) (ho' : OpR X (compareOp op') (rI0 fun i j => .bl (g i j))) (ha : EV X a ρ oa) (hb : EV X b ρ ob) (hc : EV X c ρ od) (hm : lastMarks [op, op'] [b, c] = false := by with_unfolding_all rfl) : EB X (.Compare a [op, op'] [b, c] pos) ρ (chainO f g oa ob od) := ⟨fun t ht G => by
  obtain ⟨i, j, k, e1, e2, e3, e4⟩ := chainO_some ht
  subst e4
  exact xp_of (pe_chain ho ho' pe_tw pe_tw pe_tw hm) (r_chain (ha.run _ e1 G) (hb.run _ e2 G) (hc.run _ e3 G))⟩
theorem et_chain {op op' : CmpOp} {f g : Int → Int → Bool} {od : Option PyData} (ho : OpR X (compareOp op) (rI0 fun i j => .bl (f i j))) (ho' : OpR X (compareOp op') (rI0 fun i j => .bl (g i j))) (ha : EV X a ρ oa) (hb : EV X b ρ ob) (hc : EV X c ρ od) (hm : lastMarks [op, op'] [b, c] = false := by with_unfolding_all rfl) : ET X (.Compare a [op, op'] [b, c] pos) ρ (chainO f g oa ob od) := ⟨fun t ht G => by
  obtain ⟨i, j, k, e1, e2, e3, e4⟩ := chainO_some ht
  subst e4
  exact xt_of (pt_chain ho ho' pe_tw pe_tw pe_tw hm) (rt_of ((r_chain (ha.run _ e1 G) (hb.run _ e2 G) (hc.run _ e3 G)).imp fun y G2 q => ⟨_, q.1, rfl, q.2⟩))⟩
end
end Fsh

set_option Elab.async false
set_option linter.all false
set_option maxRecDepth 100000
set_option maxHeartbeats 2000000
namespace Fsh
open PySem PySem.Spec PyProof.Rows L2
section
variable {X : Cx} {e a b c o : Expr} {es : List Expr} {ρ : Env} {G : Store} {Φ : Pst} {pos p p2 apos : Pos} {oa ob : Option PyData} {s t oc : Option Bool} {ol : Option (List PyData)}
/-! items, slices -/
def ixO : PyData → PyData → Option PyData
  | .tuple ds, .int i => atI ds i
  | .list ds, .int i => atI ds i
  | _, _ => none
theorem ev_ix (ha : EV X a ρ oa) (hb : EV X b ρ ob) (hs : PlainIx b := by exact fun _ _ => rfl) : EV X (.Subscript a b pos) ρ (bin2 ixO oa ob) := ⟨fun d hd => by
  obtain ⟨x, y, e1, e2, h3⟩ := bin2_some hd
  unfold ixO at h3
  split at h3
  · exact xd_ixT (ha.run _ e1) (hb.run _ e2) h3 hs
  · exact xd_ixL (ha.run _ e1) (hb.run _ e2) h3 hs
  · cases h3⟩
structure EO (X : Cx) (oe : Option Expr) (ρ : Env) (o : Option (Option Int)) : Prop where
  run : ∀ i, o = some i → ∃ t, PO X oe t ∧ RO X.K t ρ i
theorem eo_none : EO X none ρ (some none) := ⟨fun i h => by
  cases h
  exact ⟨_, po_none, ro_none⟩⟩
def intO : PyData → Option (Option Int)
  | .int i => some (some i)
  | _ => none
theorem eo_some (h : EV X e ρ oa) : EO X (some e) ρ (oa.bind intO) := ⟨fun i hi => by
  obtain ⟨x, e1, h2⟩ := bind_some hi
  cases x <;> cases h2
  exact ⟨_, po_x, ro_x (h.run _ e1)⟩⟩
def slO (x : PyData) (l h : Option Int) : Option PyData := match x with
  | .tuple ds => some (.tuple (cutD ds l h))
  | .list ds => some (.list (cutD ds l h))
  | _ => none
theorem ev_slice {lo hi : Option Expr} {o1 o2 : Option (Option Int)} (ha : EV X e ρ oa) (h1 : EO X lo ρ o1) (h2 : EO X hi ρ o2) : EV X (.Subscript e (.Slice lo hi none p2) pos) ρ (oa.bind fun x => o1.bind fun l => o2.bind fun h => slO x l h) := ⟨fun d hd => by
  obtain ⟨x, e1, hd⟩ := bind_some hd
  obtain ⟨l, e2, hd⟩ := bind_some hd
  obtain ⟨h, e3, hd⟩ := bind_some hd
  obtain ⟨t1, p1, r1⟩ := h1.run _ e2
  obtain ⟨t2, p2, r2⟩ := h2.run _ e3
  unfold slO at hd
  split at hd
  · cases hd
    exact xd_slT (ha.run _ e1) p1 r1 p2 r2
  · cases hd
    exact (xl_sl (ha.run _ e1) p1 r1 p2 r2).data
  · cases hd⟩
/-! built-ins -/
theorem co_lenS {z : Str} (hz : z.length ≤ sizeLine) (q : Φ (.d (.int z.length)) G) {K : PySem.W.Frag} : CallOp K (fun xs H Q => ∃ z : Str, xs = [.str z] ∧ z.length ≤ sizeLine ∧ Q (.int z.length) H) [.d (.str z)] G Φ := fun F B H vs Q c r k => by
  obtain ⟨v, e, h⟩ := r.one
  subst e
  cases h
  exact ⟨z, rfl, hz, k.ret (x := .d (.int _)) c (.rint _) q⟩
def lenO : PyData → Option PyData
  | .tuple ds => some (.int ds.length)
  | .list ds => some (.int ds.length)
  | .str z => if z.length ≤ sizeLine then some (.int z.length) else none
  | _ => none
theorem ev_len (k : Kx X) (ha : EV X e ρ oa) (hg : Gl X "len" := by rfl) (he : starEach [e] X.env = (false, eval e X.env) :: starEach [] X.env := by rfl) (hpl : (backTo pos (starEach [] X.env)).any (·.1) = false := by rfl) : EV X (.Call (.Name "len" p) [e] [] pos) ρ (oa.bind lenO) := ⟨fun d hd => by
  obtain ⟨x, e1, h2⟩ := bind_some hd
  unfold lenO at h2
  split at h2
  · cases h2
    exact xd_lenT k.bn (ha.run _ e1) hg he hpl
  · cases h2
    exact xd_lenL k.bn (ha.run _ e1) hg he hpl
  · obtain ⟨hz, e2⟩ := ite_some h2
    subst e2
    exact fun G => x_callB call_len_str k.bn.len PySem.boot_len (xad_cons (ha.run _ e1) xa_nil he G) (fun xs G1 q => by rw [q.1, q.2]; exact co_lenS hz ⟨rfl, rfl⟩) hg (by decide) (by decide) he hpl
  · cases h2⟩
/-- isinstance -/
def tyD : PyData → String
  | .none => "NoneType"
  | .bool _ => "bool"
  | .int _ => "int"
  | .str _ => "str"
  | .list _ => "list"
  | .tuple _ => "tuple"
  | .dict _ => "dict"
def isiO (T : String) (d : PyData) : Option Bool := match d with
  | .dict _ => none
  | _ => kitB (tyD d) T
theorem tyx_of {K : PySem.W.Frag} {B H : Hp} {v : V} {d : PyData} (ex : Ex B H) (r : Rp K B v d) (nd : ∀ kvs, d ≠ .dict kvs) : TyX K H v (.type (tyD d)) := by
  cases r with
  | rnon => exact .base .non
  | rbl t => exact .base (.bl t)
  | rint n => exact .base (.int n)
  | rstr z => exact .base (.str z)
  | rlst p r =>
    rcases Evl.ex_l ex p with (h | ⟨o, h⟩) | ⟨o, its, n, h1, h2, _⟩
    · exact .base (.lst h)
    · exact .base (.frz h)
    · exact .kList h1 h2
  | rtup p r =>
    rcases Evl.ex_t ex p with (h | ⟨o, h⟩) | ⟨o, its, n, h1, h2, _⟩
    · exact .base (.tup h)
    · exact .fTuple h
    · exact .kTuple h1 h2
theorem eb_isi (k : Kx X) (T : String) {x : Str} (hT : X.mg x = none) (hv : bootBuiltins x = some (.type T)) (ha : EV X e ρ oa) (hg : Gl X "isinstance" := by rfl) (hgx : Gl X x := by rfl) (hn : x ≠ "__name__" := by decide) (hdb : (x == ("__debug__" : Str)) = false := by decide)
    (he : starEach [e, .Name x p2] X.env = (false, eval e X.env) :: starEach [.Name x p2] X.env := by rfl) (he2 : starEach [.Name x p2] X.env = (false, eval (.Name x p2) X.env) :: starEach [] X.env := by rfl) (hpl : (backTo pos (starEach [.Name x p2] X.env)).any (·.1) = false := by rfl) :
    EB X (.Call (.Name "isinstance" p) [e, .Name x p2] [] pos) ρ (oa.bind (isiO T)) := ⟨fun t ht G => by
  obtain ⟨d, e1, h2⟩ := bind_some ht
  refine xp_of (pe_callB call_isi hg k.isi (by decide +kernel) (pa_cons pe_tw (pa_cons (pe_bltn hgx hT hv (v := .ty T) rfl hn hdb) pa_nil he2) he) (by decide) (by decide) he hpl) fun F σ B H Q c sl kk => ?_
  refine ha.run d e1 G F σ B H _ c sl fun v y G2 B2 H2 e2 c2 r2 q2 => ?_
  rw [q2.1] at r2
  rw [q2.2] at c2
  have nd : ∀ kvs, d ≠ .dict kvs := fun kvs z => by
    subst z
    cases h2
  have h3 : kitB (tyD d) T = some t := by
    cases d <;> first | exact h2 | cases h2
  exact ⟨v, .ty T, _, .type T, t, rfl, .ty T, tyx_of c2.ex r2 nd, kit_ty h3, (kk.mono e2).ret (x := .d (.bool t)) c2 (.rbl t) ⟨rfl, rfl⟩⟩⟩
/-- tuple(..), list(..) -/
def tupleO : PyData → Option PyData
  | .list ds => some (.tuple ds)
  | _ => none
theorem ev_tuple (k : Kx X) (ha : EV X e ρ oa) (hg : Gl X "tuple" := by rfl) (he : starEach [e] X.env = (false, eval e X.env) :: starEach [] X.env := by rfl) (hpl : (backTo pos (starEach [] X.env)).any (·.1) = false := by rfl) : EV X (.Call (.Name "tuple" p) [e] [] pos) ρ (oa.bind tupleO) := ⟨fun d hd => by
  obtain ⟨x, e1, h2⟩ := bind_some hd
  cases x <;> cases h2
  exact xd_tupL k.bn (ha.run _ e1) hg he hpl⟩
def listO : PyData → Option PyData
  | .list ds => some (.list ds)
  | .tuple ds => some (.list ds)
  | _ => none
theorem ev_list (k : Kx X) (ha : EV X e ρ oa) (hg : Gl X "list" := by rfl) (he : starEach [e] X.env = (false, eval e X.env) :: starEach [] X.env := by rfl) (hpl : (backTo pos (starEach [] X.env)).any (·.1) = false := by rfl) : EV X (.Call (.Name "list" p) [e] [] pos) ρ (oa.bind listO) := ⟨fun d hd => by
  obtain ⟨x, e1, h2⟩ := bind_some hd
  cases x <;> cases h2
  · exact (xl_listL k.bn (ha.run _ e1) hg he hpl).data
  · exact (xl_listT k.bn (ha.run _ e1) hg he hpl).data⟩
/-- repr of data of any kind -/
theorem cr_reprA (hg : X.A.guards = some []) (hu : X.A.units + 200 < cLine) : CallR X (.builtin "repr") (fun xs H Q => ∃ x d, xs = [x] ∧ Dp X.K H x d ∧ d.showable = true ∧ d.hasDict = false ∧ d.depth ≤ 64 ∧ d.shown.length ≤ sizeLine ∧ Q (.str d.shown) H) := by
  intro pins s σ H xs us Q I r h
  obtain ⟨x, d, e, hd, h1, h2, h3, h4, q⟩ := h
  subst e
  cases r with
  | cons r1 r2 =>
    cases r2
    obtain ⟨as, hr⟩ := Dp.reads I d _ _ hd r1
    rcases Classical.em (∃ a, x = .ref a) with ⟨a, ea⟩ | no
    · subst ea
      cases r1
      exact PySem.repr_of_reads' hr h1 (fun z => by rw [h2] at z; cases z) hg (by omega) (fun _ _ z => z) (fun h' u tk k => ⟨.str d.shown, H, I.kept k, ⟨_, rfl⟩, q⟩) h4
    cases hd with
    | non =>
      cases r1
      exact PySem.P.repr_of_none ⟨.str _, H, I.tok _, ⟨_, rfl⟩, q⟩
    | bl b =>
      cases r1
      exact PySem.P.repr_of_bool ⟨.str _, H, I.tok _, ⟨_, rfl⟩, q⟩
    | int i =>
      obtain ⟨t, e⟩ := r1
      subst e
      exact PySem.P.repr_of_int (of_decide_eq_true h1) ⟨.str _, H, I.tok _, ⟨_, rfl⟩, q⟩
    | str z =>
      obtain ⟨t, e⟩ := r1
      subst e
      exact PySem.P.repr_of_str ⟨.str _, H, I.tok _, ⟨_, rfl⟩, q⟩ h4
    | lst _ _ => exact absurd ⟨_, rfl⟩ no
    | tup _ _ => exact absurd ⟨_, rfl⟩ no
def shownO (d : PyData) : Option PyData := if d.showable = true ∧ d.hasDict = false ∧ d.depth ≤ 64 ∧ d.shown.length ≤ sizeLine then some (.str d.shown) else none
theorem ev_repr (k : Kx X) (ha : EV X e ρ oa) (hg : Gl X "repr" := by rfl) (he : starEach [e] X.env = (false, eval e X.env) :: starEach [] X.env := by rfl) (hpl : (backTo pos (starEach [] X.env)).any (·.1) = false := by rfl) : EV X (.Call (.Name "repr" p) [e] [] pos) ρ (oa.bind shownO) := ⟨fun d hd => by
  obtain ⟨x, e1, h2⟩ := bind_some hd
  obtain ⟨⟨z1, z2, z3, z4⟩, e2⟩ := ite_some h2
  subst e2
  refine fun G => x_callB (cr_reprA k.gd (by have := k.un; omega)) k.bn.repr (by decide +kernel) (xad_cons (ha.run _ e1) xa_nil he G) (fun xs G1 q => ?_) hg (by decide) (by decide) he hpl
  rw [q.1, q.2]
  intro F B H vs Q c r kk
  obtain ⟨v, e, h⟩ := r.one
  subst e
  exact ⟨v, x, rfl, (Rp.mono c.ex h).dp, z1, z2, z3, z4, kk.ret (x := .d (.str _)) c (.rstr _) ⟨rfl, rfl⟩⟩⟩
def bools? : List PyData → Option (List Bool)
  | [] => some []
  | .bool s :: r => (bools? r).map (s :: ·)
  | _ :: _ => none
theorem bools_of : ∀ {ds : List PyData} {l : List Bool}, bools? ds = some l → ds = l.map PyData.bool
  | [], l, h => by
    cases h
    rfl
  | d :: ds, l, h => by
    cases d <;> first | cases h | skip
    obtain ⟨m, e1, e2⟩ := Option.map_eq_some_iff.mp h
    subst e2
    rw [bools_of e1]
    rfl
theorem Rps.bools {K : PySem.W.Frag} {B : Hp} : ∀ {l : List Bool} {vs : List V}, Rps K B vs (l.map PyData.bool) → vs = l.map V.bl
  | [], _, .nil => rfl
  | x :: l, _, .cons h r => by
    cases h
    rw [Rps.bools r]
    rfl
def allO : PyData → Option Bool
  | .list ds => (bools? ds).map fun l => l.all id
  | _ => none
theorem eb_all (k : Kx X) (ha : EV X e ρ oa) (hc : X.calm = true := by rfl) (hg : Gl X "all" := by rfl) (he : starEach [e] X.env = (false, eval e X.env) :: starEach [] X.env := by rfl) (hpl : (backTo pos (starEach [] X.env)).any (·.1) = false := by rfl) : EB X (.Call (.Name "all" p) [e] [] pos) ρ (oa.bind allO) := ⟨fun d hd => by
  obtain ⟨x, e1, h2⟩ := bind_some hd
  cases x <;> first | cases h2 | skip
  obtain ⟨l, e2, e3⟩ := Option.map_eq_some_iff.mp h2
  have e4 := bools_of e2
  subst e3 e4
  refine fun G => x_callB (cr_all hc) k.all (by decide +kernel) (xad_cons (ha.run _ e1) xa_nil he G) (fun xs G1 q => ?_) hg (by decide) (by decide) he hpl
  rw [q.1, q.2]
  intro F B H vs Q c r kk
  obtain ⟨v, e, h⟩ := r.one
  subst e
  cases (show Rp _ _ v _ from h) with
  | rlst pp z =>
    have e := z.bools
    subst e
    exact ⟨_, l, rfl, Evl.ex_l c.ex pp, kk.ret (x := .d (.bool _)) c (.rbl _) ⟨rfl, rfl⟩⟩⟩
/-! defs over data -/
def z0 (o : Option PyData) : Spec := fun xs G Φ => ∃ y, xs = [] ∧ o = some y ∧ Φ (.d y) G
def z1 (f : PyData → Option PyData) : Spec := fun xs G Φ => ∃ x y, xs = [.d x] ∧ f x = some y ∧ Φ (.d y) G
def zb1 (f : PyData → Option Bool) : Spec := fun xs G Φ => ∃ x y, xs = [.d x] ∧ f x = some y ∧ Φ (.d (.bool y)) G
theorem ev_call1 {k : Nat} {x y : Str} {f : PyData → Option PyData} (kx : Kx X) (Fx : Fg X.prog X.w X.K X.mg X.base k x [y] (z1 f)) (hr : Room k X.A) (ha : EV X e ρ oa) (hg : Gl X x := by rfl) (hdb : (x == ("__debug__" : Str)) = false := by decide)
    (hst : starEach [e] X.env = (false, eval e X.env) :: starEach [] X.env := by rfl) (hpl : (backTo pos (starEach [] X.env)).any (·.1) = false := by rfl) : EV X (.Call (.Name x p) [e] [] pos) ρ (oa.bind f) := ⟨fun d hd G => by
  obtain ⟨u, e1, h2⟩ := bind_some hd
  exact xg_call Fx hr kx.gd (xad_cons (ha.run _ e1) xa_nil hst G) (fun xs G' q => ⟨[], G', rfl, u, d, q.1, h2, rfl, q.2⟩) hg hdb hst hpl⟩
theorem eb_call1 {k : Nat} {x y : Str} {f : PyData → Option Bool} (kx : Kx X) (Fx : Fg X.prog X.w X.K X.mg X.base k x [y] (zb1 f)) (hr : Room k X.A) (ha : EV X e ρ oa) (hg : Gl X x := by rfl) (hdb : (x == ("__debug__" : Str)) = false := by decide)
    (hst : starEach [e] X.env = (false, eval e X.env) :: starEach [] X.env := by rfl) (hpl : (backTo pos (starEach [] X.env)).any (·.1) = false := by rfl) : EB X (.Call (.Name x p) [e] [] pos) ρ (oa.bind f) := ⟨fun d hd G => by
  obtain ⟨u, e1, h2⟩ := bind_some hd
  exact xg_call Fx hr kx.gd (xad_cons (ha.run _ e1) xa_nil hst G) (fun xs G' q => ⟨[], G', rfl, u, d, q.1, h2, rfl, q.2⟩) hg hdb hst hpl⟩
theorem ev_call0 {k : Nat} {x : Str} {oz : Option PyData} (kx : Kx X) (Fx : Fg X.prog X.w X.K X.mg X.base k x [] (z0 oz)) (hr : Room k X.A) (hg : Gl X x := by rfl) (hdb : (x == ("__debug__" : Str)) = false := by decide) : EV X (.Call (.Name x p) [] [] pos) ρ oz := ⟨fun d hd G =>
  xg_call0 Fx hr kx.gd ⟨d, rfl, hd, rfl, rfl⟩ hg hdb⟩
/-- a module's constant -/
structure GlD (mg : Str → Option Value) (K : PySem.W.Frag) (x : Str) (d : PyData) : Prop where
  ex : ∃ u v, mg x = some u ∧ RelV v u ∧ ∀ B, Rp K B v d
theorem ev_glob {x : Str} {y : PyData} (g : GlD X.mg X.K x y) (hg : Gl X x := by rfl) (hd : (x == ("__debug__" : Str)) = false := by decide) : EV X (.Name x pos) ρ (some y) := ⟨fun d h => by
  cases h
  obtain ⟨u, v, hm, r, rp⟩ := g.ex
  exact fun G => xp_of (pe_glob hg hm r hd) fun F σ B H Q c s k => k.ret (x := .d y) c (rp B) ⟨rfl, rfl⟩⟩
end
end Fsh

set_option Elab.async false
set_option linter.all false
set_option maxRecDepth 100000
set_option maxHeartbeats 2000000
namespace Fsh
open PySem PySem.Spec PyProof.Rows L2
/-! ### what is iterated over, as data -/
structure WalkD (K : PySem.W.Frag) (J : It) (xs : List PyData) (B2 : Hp) : Prop where
  goes : ∀ {F G B H}, Ex B2 B → Cfg K F G B H → ∀ i, i < xs.length → J.go i H
  stops : ∀ {F G B H}, Ex B2 B → Cfg K F G B H → J.stop xs.length H
  yields : ∀ {F G B H}, Ex B2 B → Cfg K F G B H → ∀ i v H', i < xs.length → J.yld i H v H' → ∃ d B', xs[i]? = some d ∧ Ex B B' ∧ Cfg K F G B' H' ∧ Rp K B' v d
def Wi (K : PySem.W.Frag) (wi : TI) (ρ : Env) (xs : List PyData) : Prop := ∀ (F : Hp) (σ : L2.St) (G : Store) (B H : Hp) (Q : It → Hp → Prop), Cfg K F G B H → Slots K B σ ρ → (∀ J B2 H2, Ex B B2 → Cfg K F G B2 H2 → WalkD K J xs B2 → Q J H2) → wi σ H Q
structure EIt (X : Cx) (tg e : Expr) (ρ : Env) (o : Option (List PyData)) : Prop where
  run : ∀ xs, o = some xs → xs.length ≤ 100000 → ∃ wi, PI X tg e wi ∧ Wi X.K wi ρ xs
section
variable {K : PySem.W.Frag} {ρ : Env} {tl : TE} {xs : List PyData}
theorem wi_list (h : ∀ G, R K tl ρ G (Is (.d (.list xs)) G)) : Wi K (iList K tl) ρ xs := fun F σ G B H Q c s k =>
  h G F σ B H _ c s fun v x G2 B2 H2 e c2 r q => by
    rw [q.1] at r
    rw [q.2] at c2
    cases r with
    | rlst p rr =>
      rename_i a ws
      have w := walk_list (K := K) (a := a) (xs := ws)
      refine ⟨a, rfl, ⟨ws, Evl.ex_l c2.ex p⟩, k _ B2 H2 e c2 ⟨fun {F G B H} ex c i hi => w.goes i H (by rw [rr.len]; exact hi) (Evl.ex_l (ex.trans c.ex) p), fun {F G B H} ex c => by rw [← rr.len]; exact w.stops H (Evl.ex_l (ex.trans c.ex) p), fun {F G B H} ex c i v H' hi y => ?_⟩⟩
      obtain ⟨e1, e2⟩ := w.yields i H v H' (by rw [rr.len]; exact hi) (Evl.ex_l (ex.trans c.ex) p) y
      subst e1
      obtain ⟨d, h1, h2⟩ := rr.back e2
      exact ⟨d, B, h1, Evl.Ex.refl B, c, h2.mono ex⟩
theorem wi_tup (h : ∀ G, R K tl ρ G (Is (.d (.tuple xs)) G)) : Wi K (iTup K tl) ρ xs := fun F σ G B H Q c s k =>
  h G F σ B H _ c s fun v x G2 B2 H2 e c2 r q => by
    rw [q.1] at r
    rw [q.2] at c2
    cases r with
    | rtup p rr =>
      rename_i a ws
      have w := walk_tup (K := K) (a := a) (xs := ws)
      refine ⟨a, rfl, ⟨ws, Evl.ex_t c2.ex p⟩, k _ B2 H2 e c2 ⟨fun {F G B H} ex c i hi => w.goes i H (by rw [rr.len]; exact hi) (Evl.ex_t (ex.trans c.ex) p), fun {F G B H} ex c => by rw [← rr.len]; exact w.stops H (Evl.ex_t (ex.trans c.ex) p), fun {F G B H} ex c i v H' hi y => ?_⟩⟩
      obtain ⟨e1, e2⟩ := w.yields i H v H' (by rw [rr.len]; exact hi) (Evl.ex_t (ex.trans c.ex) p) y
      subst e1
      obtain ⟨d, h1, h2⟩ := rr.back e2
      exact ⟨d, B, h1, Evl.Ex.refl B, c, h2.mono ex⟩
def signs (z : Str) : List PyData := z.cps.toList.map fun c => .str ⟨#[c]⟩
theorem wi_str {z : Str} (h : ∀ G, R K tl ρ G (Is (.d (.str z)) G)) : Wi K (iStr tl) ρ (signs z) := fun F σ G B H Q c s k =>
  h G F σ B H _ c s fun v x G2 B2 H2 e c2 r q => by
    rw [q.1] at r
    rw [q.2] at c2
    cases r
    have hz : (signs z).length = z.cps.size := by
      unfold signs
      rw [List.length_map, Array.length_toList]
    refine ⟨z, rfl, k _ B2 H2 e c2 ⟨fun {F G B H} ex c i hi => by rw [hz] at hi; exact hi, fun {F G B H} ex c => by rw [hz]; exact Nat.le_refl _, fun {F G B H} ex c i v H' hi y => ?_⟩⟩
    obtain ⟨e1, u, h1, h2⟩ := y
    subst e1 h2
    refine ⟨.str ⟨#[u]⟩, B, ?_, Evl.Ex.refl B, c, .rstr _⟩
    unfold signs
    rw [List.getElem?_map, Array.getElem?_toList, h1]
    rfl
def rngD (lo : Int) (n : Nat) : List PyData := (List.range n).map fun (i : Nat) => .int (lo + i)
theorem rng_at {lo : Int} {n i : Nat} (h : i < n) : (rngD lo n)[i]? = some (.int (lo + i)) := by
  unfold rngD
  rw [List.getElem?_map, List.getElem?_range h]
  rfl
theorem rng_len {lo : Int} {n : Nat} : (rngD lo n).length = n := by
  unfold rngD
  rw [List.length_map, List.length_range]
theorem walk_rng {lo : Int} {n : Nat} {B2 : Hp} : WalkD K (Itr lo n) (rngD lo n) B2 := ⟨fun {F G B H} ex c i hi => by rw [rng_len] at hi; exact hi, fun {F G B H} ex c => by rw [rng_len]; exact Nat.le_refl _, fun {F G B H} ex c i v H' hi y => by
  rw [rng_len] at hi
  obtain ⟨e1, e2⟩ := y
  subst e1 e2
  exact ⟨_, B, rng_at hi, Evl.Ex.refl B, c, .rint _⟩⟩
def zipD : List PyData → List PyData → List PyData := List.zipWith fun x y => .tuple [x, y]
theorem wi_zip {ta : TA} {ys : List PyData} (h : ∀ G, RA K ta ρ G (IsA [.d (.tuple xs), .d (.tuple ys)] G)) : Wi K (RZ.iZipA K ta) ρ (zipD xs ys) := fun F σ G B H Q c s k =>
  h G F σ B H _ c s fun vs xs' G2 B2 H2 e c2 r q => by
    rw [q.1] at r
    rw [q.2] at c2
    cases r with
    | cons r1 r =>
      cases r with
      | cons r2 r =>
        cases r
        cases (show Rp _ _ _ _ from r1) with
        | rtup p rr =>
          rename_i a ws
          cases (show Rp _ _ _ _ from r2) with
          | rtup p' rr' =>
            rename_i b us
            have hl : (zipD xs ys).length = min ws.length us.length := by
              unfold zipD
              rw [List.length_zipWith, rr.len, rr'.len]
            refine ⟨a, b, ws, us, rfl, .inr ⟨Evl.ex_t c2.ex p, Evl.ex_t c2.ex p', k _ B2 H2 e c2 ⟨fun {F G B H} ex c i hi => ?_, fun {F G B H} ex c => ⟨ws, us, Evl.ex_t (ex.trans c.ex) p, Evl.ex_t (ex.trans c.ex) p', by omega⟩, fun {F G B H} ex c i v H' hi y => ?_⟩⟩⟩
            · have h1 : i < ws.length := by omega
              have h2 : i < us.length := by omega
              exact ⟨ws, us, ws[i], us[i], Evl.ex_t (ex.trans c.ex) p, Evl.ex_t (ex.trans c.ex) p', by simp [h1], by simp [h2]⟩
            · obtain ⟨T, x, y, e1, hT, e2, g1, g2⟩ := y
              subst e1 e2
              obtain ⟨d1, x1, x2⟩ := rr.back (g1 _ (Evl.ex_t (ex.trans c.ex) p))
              obtain ⟨d2, y1, y2⟩ := rr'.back (g2 _ (Evl.ex_t (ex.trans c.ex) p'))
              have en := ex_new (B := B) (Ex.free c.ex hT) (.tup [x, y])
              refine ⟨.tuple [d1, d2], _, ?_, en, c.new hT _, .rtup (Evl.st_of upd_same) (.cons (x2.mono (ex.trans en)) (.cons (y2.mono (ex.trans en)) .nil))⟩
              unfold zipD
              rw [List.getElem?_zipWith, x1, y1]
end
section
variable {X : Cx} {e a b c o : Expr} {es : List Expr} {ρ : Env} {G : Store} {Φ : Pst} {pos p p2 apos : Pos} {oa ob : Option PyData} {tg : Expr}
def seqO : PyData → Option (List PyData)
  | .list ds => some ds
  | .tuple ds => some ds
  | .str z => some (signs z)
  | _ => none
theorem it_seq (h : EV X e ρ oa) : EIt X tg e ρ (oa.bind seqO) := ⟨fun xs hx _ => by
  obtain ⟨x, e1, h2⟩ := bind_some hx
  cases x <;> cases h2
  · exact ⟨_, pi_str pe_tw, wi_str (h.run _ e1)⟩
  · exact ⟨_, pi_list pe_tw, wi_list (h.run _ e1)⟩
  · exact ⟨_, pi_tup pe_tw, wi_tup (h.run _ e1)⟩⟩
def rng1O : PyData → Option (List PyData)
  | .int n => if n ≤ 100000 ∧ -100000 ≤ n then some (rngD 0 n.toNat) else none
  | _ => none
theorem it_rng1 (hm : X.mg "range" = none) (h : EV X e ρ oa) (hgl : Gl X "range" := by rfl) (hst : starEach [e] X.env = [(false, eval e X.env)] := by rfl) : EIt X tg (.Call (.Name "range" p) [e] [] p2) ρ (oa.bind rng1O) := ⟨fun xs hx _ => by
  obtain ⟨x, e1, h2⟩ := bind_some hx
  cases x <;> first | cases h2 | skip
  rename_i n
  obtain ⟨hz, e2⟩ := ite_some h2
  subst e2
  refine ⟨_, pi_range1 hgl hm pa_tw hst, fun F σ G B H Q c s k => ?_⟩
  refine (xad_cons (h.run _ e1) xa_nil hst G) F σ B H _ c s fun vs xs' G2 B2 H2 e c2 r q => ?_
  rw [q.1] at r
  rw [q.2] at c2
  cases r with
  | cons r1 r =>
    cases r
    cases (show Rp _ _ _ _ from r1)
    exact ⟨n, rfl, by omega, by omega, k _ B2 H2 e c2 walk_rng⟩⟩
def rng2O : PyData → PyData → Option (List PyData)
  | .int m, .int n => if (n ≤ 100000 ∧ -100000 ≤ n) ∧ (m ≤ 100000 ∧ -100000 ≤ m) then some (rngD m (n - m).toNat) else none
  | _, _ => none
theorem it_rng2 (hm : X.mg "range" = none) (ha : EV X a ρ oa) (hb : EV X b ρ ob) (hgl : Gl X "range" := by rfl) (hst : starEach [a, b] X.env = [(false, eval a X.env), (false, eval b X.env)] := by rfl) (hst2 : starEach [b] X.env = [(false, eval b X.env)] := by rfl) : EIt X tg (.Call (.Name "range" p) [a, b] [] p2) ρ (bin2 rng2O oa ob) := ⟨fun xs hx _ => by
  obtain ⟨x, y, e1, e2, h3⟩ := bin2_some hx
  cases x <;> first | cases h3 | skip
  rename_i m
  cases y <;> first | cases h3 | skip
  rename_i n
  obtain ⟨hz, e3⟩ := ite_some h3
  subst e3
  refine ⟨_, pi_range2 hgl hm pa_tw hst hst2, fun F σ G B H Q c s k => ?_⟩
  refine (xad_cons (ha.run _ e1) (xad_cons (hb.run _ e2) xa_nil hst2) (by rw [hst, hst2]) G) F σ B H _ c s fun vs xs' G2 B2 H2 e c2 r q => ?_
  rw [q.1] at r
  rw [q.2] at c2
  cases r with
  | cons r1 r =>
    cases r with
    | cons r2 r =>
      cases r
      cases (show Rp _ _ _ _ from r1)
      cases (show Rp _ _ _ _ from r2)
      exact ⟨m, n, rfl, by omega, k _ B2 H2 e c2 walk_rng⟩⟩
def zipO : PyData → PyData → Option (List PyData)
  | .tuple xs, .tuple ys => some (zipD xs ys)
  | _, _ => none
theorem it_zip {elts : List Expr} {kk : Nat} {tpos : Pos} (k0 : Kx X) (ha : EV X a ρ oa) (hb : EV X b ρ ob) (hgl : Gl X "zip" := by rfl) (hs : starEach [a, b] X.env = (false, eval a X.env) :: starEach [b] X.env := by rfl) (hs2 : starEach [b] X.env = (false, eval b X.env) :: starEach [] X.env := by rfl) (hpl : (backTo p2 (starEach [b] X.env)).any (·.1) = false := by rfl) :
    EIt X (.Tuple elts kk tpos) (.Call (.Name "zip" p) [a, b] [] p2) ρ (bin2 zipO oa ob) := ⟨fun xs hx _ => by
  obtain ⟨x, y, e1, e2, h3⟩ := bin2_some hx
  cases x <;> first | cases h3 | skip
  cases y <;> first | cases h3 | skip
  exact ⟨_, RZ.pi_zipA hgl k0.zip pa_tw hs hpl, wi_zip (xad_cons (ha.run _ e1) (xad_cons (hb.run _ e2) xa_nil hs2) hs)⟩⟩
end
/-! ### comprehensions -/
section
variable {K : PySem.W.Frag} {ρ : Env} {G : Store} {Φ : Pst} {te : TE} {tt : TT} {g : TG} {js vs : List Nat}
theorem mid_turnG {F B B1 : Hp} {D : Addr} {J : List PyData → Store → Prop} {n : Nat} {H : Hp} {σ : L2.St} {v : V} {d : PyData} {ρ2 : Env} {av : List V} {acc : List PyData} {G1 : Store} (nF : F D = none) (hn : n < 100000) (hj : ∀ j ∈ js, j ∈ vs) (s : Slots K B σ ρ) (e1 : Ex B B1) (r : Rp K B1 v d) (ra : Rps K B1 av acc) (hl : acc.length ≤ n)
    (c1 : Cfg K (upd F D (.lst av)) G1 B1 H) (hg : RG K g js (.d d) (wipeE ρ vs) ρ2) (ht : Turn1 K tt te ρ2 G1 J acc) :
    g v (wipe σ vs) H fun σ2 H2 => wipe σ2 vs = wipe σ vs ∧ tt σ2 H2 fun b H3 =>
      if b = true then te σ2 H3 fun y H4 => ∃ acc, H4 D = some (.lst acc) ∧ acc.length < sizeLine ∧ Mid K F B D J (n + 1) (upd H4 D (.lst (acc ++ [y]))) else Mid K F B D J (n + 1) H3 := by
  refine hg (wipe σ vs) B1 H v _ c1.ex ((s.mono e1).wiped vs) r fun σ2 s2 w2 => ⟨(w2 vs hj).trans (wipe_wipe vs), ?_⟩
  refine ht (upd F D (.lst av)) σ2 B1 H _ c1 s2 fun b G2 B2 H2 e2 c2 p2 => ?_
  cases b with
  | true =>
    rw [if_pos rfl] at p2 ⊢
    refine p2 (upd F D (.lst av)) σ2 B2 H2 _ c2 (s2.mono e2) fun y yx G3 B3 H3 e3 c3 r3 ⟨z, ez, p3⟩ => ?_
    subst ez
    have hz : av.length < sizeLine := by
      rw [ra.len]
      exact Evl.sz_lt (by omega)
    refine ⟨av, c3.fr _ _ upd_same, hz, av ++ [y], acc ++ [z], G3, B3, (e1.trans e2).trans e3, (ra.mono (e2.trans e3)).app (.cons r3 .nil), by rw [List.length_append]; simp; omega, c3.hidF nF, p3⟩
  | false =>
    rw [if_neg Bool.false_ne_true] at p2 ⊢
    exact ⟨av, acc, G2, B2, e1.trans e2, ra.mono e2, by omega, c2, p2⟩
theorem r_lcG {wi : TI} {xs : List PyData} (hw : Wi K wi ρ xs) (I : Nat → List PyData → Store → Prop) (hj : ∀ j ∈ js, j ∈ vs) (hz : xs.length ≤ 100000) (h0 : I 0 [] G)
    (hs : ∀ i d acc G1, xs[i]? = some d → I i acc G1 → ∃ ρ2, RG K g js (.d d) (wipeE ρ vs) ρ2 ∧ Turn1 K tt te ρ2 G1 (I (i + 1)) acc) :
    R K (tLc wi g tt te vs) ρ G fun y G2 => ∃ l acc G3, y = .a l ∧ G2 = (l, .lst acc) :: G3 ∧ I xs.length acc G3 := fun F σ B H Q c s k => by
  refine hw F σ G B H _ c s fun J B2 H2 e c2 wd D hD => ?_
  have nF : F D = none := Ex.free c2.fr hD
  refine ⟨fun i m H => m = xs.length - i ∧ i ≤ xs.length ∧ Mid K F B2 D (I i) i H, ⟨_, rfl, Nat.zero_le _, [], [], G, B2, Evl.Ex.refl _, .nil, Nat.le_refl _, c2.hide hD, h0⟩, fun i m H1 ⟨em, hi, md⟩ => ?_⟩
  obtain ⟨av, acc, G1, B1, e1, ra, hl, c1, p1⟩ := id md
  by_cases lt : i < xs.length
  · refine .inr ⟨wd.goes e1 c1 i lt, Mid K F B2 D (I (i + 1)) (i + 1), fun H' md' => ⟨_, by omega, rfl, lt, md'⟩, fun v H' y => ?_⟩
    obtain ⟨d, B', hd, eB, cB, rv⟩ := wd.yields e1 c1 i v H' lt y
    obtain ⟨ρ2, g1, b1⟩ := hs i d acc G1 hd p1
    exact mid_turnG nF (by omega) hj (s.mono e) (e1.trans eB) rv (ra.mono eB) hl cB g1 b1
  · have ei : i = xs.length := by omega
    subst ei
    exact .inl ⟨wd.stops e1 c1, mid_end nF md (k.mono e)⟩
end
def lcO {α : Type} (c : α → Option Bool) (f : α → Option PyData) : List α → Option (List PyData)
  | [] => some []
  | x :: r => (c x).bind fun t => if t then bin2 (fun y ys => some (y :: ys)) (f x) (lcO c f r) else lcO c f r
structure ELc (X : Cx) (elt tg e : Expr) (ifs : List Expr) (scope : Scope) (ρ : Env) (o : Option (List PyData)) : Prop where
  run : ∀ ds, o = some ds → ∀ G, LcP X elt tg e ifs scope ρ G (New ds G)
structure ETs (X : Cx) (ifs : List Expr) (ρ : Env) (o : Option Bool) : Prop where
  run : ∀ t, o = some t → ∀ G, Xts X ifs ρ G (IsT t G)
section
variable {X : Cx} {e a b c o : Expr} {es : List Expr} {ρ : Env} {G : Store} {Φ : Pst} {pos p p2 apos : Pos} {oa ob : Option PyData} {tg elt : Expr} {ifs : List Expr} {scope : Scope} {own : List (Str × Nat)} {g : TG} {js : List Nat} {s : Option Bool}
theorem ets_nil : ETs X [] ρ (some true) := ⟨fun t h G => by
  cases h
  exact xts_nil ⟨rfl, rfl⟩⟩
theorem ets_one (h : ET X c ρ s) : ETs X [c] ρ s := ⟨fun t ht G => xts_one (h.run t ht G)⟩
theorem lc_of {ox : Option (List PyData)} {cc : PyData → Option Bool} {f : PyData → Option PyData} {ρ' : PyData → Env} (hN : X.N.Nodup) (hi : EIt X tg e ρ ox) (ok : BlkOk X.N X.env.scope scope own)
    (hg : ∀ (s : Shared) (H : Hp) (C : Addr) (cl : List (Str × Addr)) (fp : List Addr), PG (X.blk s H scope (compEnvC scope cl C X.env) fp) tg g) (hj : ∀ j ∈ js, j ∈ own.map (·.2))
    (hr : ∀ x t, cc x = some t → RG X.K g js (.d x) (wipeE ρ (own.map (·.2))) (ρ' x)) (ht : ∀ x (z : Fz), ETs (bx X scope z) ifs (ρ' x) (cc x)) (he : ∀ x (z : Fz), EV (bx X scope z) elt (ρ' x) (f x))
    (hc : X.calm = true := by rfl) (hf : ∀ x, foldedSetIterable e X.env x = pure x := by intro _; rfl) : ELc X elt tg e ifs scope ρ (ox.bind fun xs => if xs.length ≤ 100000 then lcO cc f xs else none) := ⟨fun ds hd G => by
  obtain ⟨xs, e1, h2⟩ := bind_some hd
  by_cases hz : xs.length ≤ 100000
  · rw [if_pos hz] at h2
    obtain ⟨wi, p1, w1⟩ := hi.run xs e1 hz
    refine ⟨own, wi, g, blkT X scope ifs, blkE X scope elt, hc, hN, p1, ok, hg, (fun s H C cl fp => ⟨fun pins st σ H' Q I h => (h (s, H, C, cl, fp)).run pins st I⟩), (fun s H C cl fp => ⟨fun pins st σ H' Q I h => (h (s, H, C, cl, fp)).run pins st I⟩), hf,
      (r_lcG w1 (fun i acc G' => G' = G ∧ ∃ rest, lcO cc f (xs.drop i) = some rest ∧ acc ++ rest = ds) hj hz ⟨rfl, ds, h2, rfl⟩ fun i d acc G1 hd q => ?_).imp fun y G2 ⟨l, acc, G3, e1, e2, e3, rest, e4, e5⟩ => ?_⟩
    · obtain ⟨eG, rest, q1, q2⟩ := q
      subst eG
      have hi := List.getElem?_eq_some_iff.mp hd
      rw [List.drop_eq_getElem_cons hi.1, hi.2] at q1
      obtain ⟨t, hcd, q3⟩ := bind_some q1
      refine ⟨ρ' d, hr d t hcd, Turn.one ⟨IsT t G1, fun z => (ht d z).run t hcd G1, fun z G2 w => ?_, fun G2 w => ?_⟩⟩
      · obtain ⟨w1, w2⟩ := w
        subst w1 w2
        rw [if_pos rfl] at q3
        obtain ⟨y, ys, f1, f2, f3⟩ := bin2_some q3
        cases f3
        exact ((he d z).run y f1 G2).imp fun y2 G3 w => ⟨y, w.1, w.2, ys, f2, by rw [List.append_assoc]; exact q2⟩
      · obtain ⟨w1, w2⟩ := w
        subst w1 w2
        rw [if_neg Bool.false_ne_true] at q3
        exact ⟨rfl, rest, q3, q2⟩
    · refine ⟨l, e1, ?_⟩
      rw [List.drop_length] at e4
      cases e4
      rw [e2, e3, ← e5, List.append_nil]
  · rw [if_neg hz] at h2
    cases h2⟩
end
end Fsh

set_option Elab.async false
set_option linter.all false
set_option maxRecDepth 100000
set_option maxHeartbeats 2000000
namespace Fsh
open PySem PySem.Spec PyProof.Rows L2
/-! ### statements over data -/
structure ES (X : Cx) (sts : List Stmt) (ρ : Env) (o : Option PyData) : Prop where
  run : ∀ d, o = some d → ∀ (G : Store) (N : Env → Store → Prop) (Φ : Pst), Φ (.d d) G → Xss X sts ρ G N Φ
/-- one that may fall through, nothing changed -/
structure SC (X : Cx) (sts : List Stmt) (ρ : Env) (o : Option (Option PyData)) : Prop where
  run : ∀ y, o = some y → ∀ (G : Store) (N : Env → Store → Prop) (Φ : Pst), (∀ d, y = some d → Φ (.d d) G) → (y = none → N ρ G) → Xss X sts ρ G N Φ
/-- one that falls through, slot i changed -/
structure SN (X : Cx) (sts : List Stmt) (ρ : Env) (i : Nat) (o : Option PyData) : Prop where
  run : ∀ d, o = some d → ∀ (G : Store) (N : Env → Store → Prop) (Φ : Pst), N (ρ.set i (some (.d d))) G → Xss X sts ρ G N Φ
def forO (f : PyData → Option (Option PyData)) : List PyData → Option (Option PyData)
  | [] => some none
  | x :: r => (f x).bind fun y => match y with
    | some d => some (some d)
    | none => forO f r
def foldO (f : PyData → PyData → Option PyData) : PyData → List PyData → Option PyData
  | a, [] => some a
  | a, x :: r => (f a x).bind fun b => foldO f b r
def un2 {α : Type} (f : PyData → PyData → Option α) : PyData → Option α
  | .tuple [a, b] => f a b
  | _ => none
def un3 {α : Type} (f : PyData → PyData → PyData → Option α) : PyData → Option α
  | .tuple [a, b, c] => f a b c
  | _ => none
def un5 {α : Type} (f : PyData → PyData → PyData → PyData → PyData → Option α) : PyData → Option α
  | .tuple [a, b, c, d, e] => f a b c d e
  | _ => none
theorem Slots.forget {K : PySem.W.Frag} {B : Hp} {σ : L2.St} {ρ : Env} (s : Slots K B σ ρ) (j : Nat) : Slots K B σ (ρ.set j none) := by
  refine ⟨by rw [List.length_set]; exact s.1, fun i x h => ?_⟩
  by_cases e : i = j
  · subst e
    rw [List.getElem?_set] at h
    rw [if_pos rfl] at h
    split at h <;> cases h
  · rw [List.getElem?_set_ne (Ne.symm e)] at h
    exact s.2 i x h
theorem RS.forget {K : PySem.W.Frag} {t : TS} {ρ : Env} {G : Store} {N : Env → Store → Prop} {Φ : Pst} {j : Nat} (h : RS K t (ρ.set j none) G N Φ) : RS K t ρ G N Φ := fun F σ B H D c s n k => h F σ B H D c (s.forget j) n k
section
variable {K : PySem.W.Frag} {ρ : Env} {G : Store} {Φ : Pst} {N : Env → Store → Prop} {g : TG} {js : List Nat} {tb : TS}
theorem rs_forG {wi : TI} {xs : List PyData} (hw : Wi K wi ρ xs) (I : Nat → Env → Store → Prop) (h0 : I 0 ρ G)
    (hs : ∀ i d ρ1 G1, xs[i]? = some d → I i ρ1 G1 → ∃ ρ2, RG K g js (.d d) ρ1 ρ2 ∧ RS K tb ρ2 G1 (I (i + 1)) Φ) (hd : ∀ ρ1 G1, I xs.length ρ1 G1 → N ρ1 G1) : RS K (tFor wi g tb) ρ G N Φ := fun F σ B H D c s n k => by
  refine hw F σ G B H _ c s fun J B2 H2 e c2 wd => ?_
  refine ⟨fun i m σ' H' => m = xs.length - i ∧ i ≤ xs.length ∧ ∃ ρ1 G1 B1, Ex B2 B1 ∧ Cfg K F G1 B1 H' ∧ Slots K B1 σ' ρ1 ∧ I i ρ1 G1, ⟨_, rfl, Nat.zero_le _, ρ, G, B2, Evl.Ex.refl _, c2, s.mono e, h0⟩, fun i m σ' H1 ⟨em, hi, ρ1, G1, B1, e1, c1, s1, p1⟩ => ?_⟩
  by_cases lt : i < xs.length
  · refine .inr ⟨wd.goes e1 c1 i lt, fun σ' H' => ∃ ρ1 G1 B1, Ex B2 B1 ∧ Cfg K F G1 B1 H' ∧ Slots K B1 σ' ρ1 ∧ I (i + 1) ρ1 G1, fun σ' H' md' => ⟨_, by omega, rfl, lt, md'⟩, fun v H' y => ?_⟩
    obtain ⟨d, B', hd, eB, cB, rv⟩ := wd.yields e1 c1 i v H' lt y
    obtain ⟨ρ2, g1, b1⟩ := hs i d ρ1 G1 hd p1
    refine g1 σ' B' H' v _ cB.ex (s1.mono eB) rv fun σ2 s2 _ => ?_
    exact b1 F σ2 B' H' _ cB s2 (fun ρ3 σ3 G3 B3 H3 e3 c3 s3 p3 => ⟨ρ3, G3, B3, (e1.trans eB).trans e3, c3, s3, p3⟩) (k.mono ((e.trans e1).trans eB))
  · have ei : i = xs.length := by omega
    subst ei
    exact .inl ⟨wd.stops e1 c1, n ρ1 σ' G1 B1 H1 (e.trans e1) c1 s1 (hd ρ1 G1 p1)⟩
end
section
variable {X : Cx} {e a b c o tg : Expr} {es : List Expr} {ρ : Env} {G : Store} {Φ : Pst} {pos p p2 apos : Pos} {oa ob oe : Option PyData} {s t oc : Option Bool} {r sa body : List Stmt} {N : Env → Store → Prop}
theorem xs_forG {wi : TI} {g : TG} {js : List Nat} {xs : List PyData} (hp : PassesOwn (model X.prog X.w) X.A X.env X.xe) (hi : PI X tg e wi) (hw : Wi X.K wi ρ xs) (I : Nat → Env → Store → Prop) (hg : PG X tg g) (h0 : I 0 ρ G)
    (hs : ∀ i d ρ1 G1, xs[i]? = some d → I i ρ1 G1 → ∃ ρ2, RG X.K g js (.d d) ρ1 ρ2 ∧ Xss X body ρ2 G1 (I (i + 1)) Φ) (hd : ∀ ρ1 G1, I xs.length ρ1 G1 → N ρ1 G1) (hc : X.calm = true := by rfl) (hf : ∀ x, foldedSetIterable e X.env x = pure x := by intro _; rfl) : Xs X (.For tg e body [] pos) ρ G N Φ :=
  xs_of (ps_for hp hc hi hg pss_tw hf) (rs_forG hw I h0 hs hd)
theorem es_ret (h : EV X e ρ oe) : ES X [.Return (some e) pos] ρ oe := ⟨fun d hd G N Φ q => xss_one (xs_ret (Xd.to (h.run d hd) q))⟩
theorem es_if (hc : ET X c ρ oc) (h1 : ES X sa ρ oa) (h2 : ES X r ρ ob) : ES X (.If c sa [] pos :: r) ρ (ifO oc oa ob) := ⟨fun d hd G N Φ q => by
  obtain ⟨t, e1, h3⟩ := bind_some hd
  refine xss_cons (M := fun ρ' G' => ρ' = ρ ∧ G' = G ∧ t = false) (xs_ifD (hc.run t e1) (fun z => ?_) fun z => xss_nil ⟨rfl, rfl, z⟩) fun ρ' G' w => ?_
  · subst z
    exact h1.run d h3 G _ Φ q
  · obtain ⟨w1, w2, w3⟩ := w
    subst w1 w2 w3
    exact h2.run d h3 _ N Φ q⟩
theorem es_asg (i : Nat) {x : Str} {p' : Pos} {f : PyData → Option PyData} (h : EV X e ρ oe) (hr : ∀ d, ES X r (ρ.set i (some (.d d))) (f d)) (hN : X.N.Nodup) (hi : X.N[i]? = some x := by rfl) (hx : Loc X.env.scope x := by first | exact Or.inl rfl | exact Or.inr rfl)
    (hs : swapsWithSole [.Name x p'] e pos.line X.env = pure false := by rfl) (hw : swappedStores [.Name x p'] e X.env = pure none := by rfl) (hf : X.fn x = true ∨ X.env.scope.names.lookup x = some .local := by first | exact .inl rfl | exact .inr rfl) : ES X (.Assign [.Name x p'] e pos :: r) ρ (oe.bind f) := ⟨fun d hd G N Φ q => by
  obtain ⟨y, e1, h3⟩ := bind_some hd
  exact xss_at (xs_setD i (h.run y e1) hN hi hx hs hw hf) ((hr y).run d h3 G N Φ q)⟩
theorem es_asgLc (i : Nat) {elt : Expr} {ifs : List Expr} {scope : Scope} {y : Str} {py spos : Pos} {ol : Option (List PyData)} {f : PyData → Option PyData} (h : ELc X elt tg e ifs scope ρ ol) (hr : ∀ d, ES X r (ρ.set i (some (.d d))) (f d)) (hy : X.N[i]? = some y := by rfl) (hyl : X.env.scope.names.lookup y = some .local := by rfl)
    (hsw : swapsWith (.ListComp elt [⟨tg, e, ifs, 0⟩] scope pos) (some (.Name y py)) spos.line X.env = pure true := by rfl) : ES X (.Assign [.Name y py] (.ListComp elt [⟨tg, e, ifs, 0⟩] scope pos) spos :: r) ρ ((ol.map PyData.list).bind f) := ⟨fun d hd G N Φ q => by
  obtain ⟨z, e1, h3⟩ := bind_some hd
  obtain ⟨ds, e2, e3⟩ := Option.map_eq_some_iff.mp e1
  subst e3
  exact xss_at (xs_setLcD i (h.run ds e2) hy hyl hsw) ((hr _).run d h3 G N Φ q)⟩
theorem ev_lc {elt : Expr} {ifs : List Expr} {scope : Scope} {ol : Option (List PyData)} (h : ELc X elt tg e ifs scope ρ ol) : EV X (.ListComp elt [⟨tg, e, ifs, 0⟩] scope pos) ρ (ol.map PyData.list) := ⟨fun d hd => by
  obtain ⟨ds, e2, e3⟩ := Option.map_eq_some_iff.mp hd
  subst e3
  exact fun G => R.gives (LcP.xp (h.run ds e2 G))⟩
theorem es_un3 {i j k : Nat} {f : PyData → PyData → PyData → Option PyData} (h : EV X e ρ oe) (hg : PG X tg (gTup X.K 3 (gCons (gName i) (gCons (gName j) (gCons (gName k) gNil))))) (hr : ∀ u v w, ES X r (((ρ.set i (some (.d u))).set j (some (.d v))).set k (some (.d w))) (f u v w))
    (hs : swapsWithSole [tg] e pos.line X.env = pure false := by rfl) (hw : swappedStores [tg] e X.env = pure none := by rfl) (ha : (assignEach [tg] X.env).map (·.2) = [assign tg X.env] := by rfl) : ES X (.Assign [tg] e pos :: r) ρ (oe.bind (un3 f)) := ⟨fun d hd G N Φ q => by
  obtain ⟨y, e1, h3⟩ := bind_some hd
  unfold un3 at h3
  split at h3
  · rename_i u v w
    exact xss_at (xs_asg (Xd.g (h.run _ e1)) hg (fun x G2 z => ⟨_, by rw [z.1]; exact rg_tup rfl (rgs_cons rg_name (rgs_cons rg_name (rgs_cons rg_name rgs_nil))), rfl, z.2⟩) hs hw ha) ((hr u v w).run d h3 G N Φ q)
  · cases h3⟩
theorem es_un2 {i j : Nat} {f : PyData → PyData → Option PyData} (h : EV X e ρ oe) (hg : PG X tg (gTup X.K 2 (gCons (gName i) (gCons (gName j) gNil)))) (hr : ∀ u v, ES X r ((ρ.set i (some (.d u))).set j (some (.d v))) (f u v))
    (hs : swapsWithSole [tg] e pos.line X.env = pure false := by rfl) (hw : swappedStores [tg] e X.env = pure none := by rfl) (ha : (assignEach [tg] X.env).map (·.2) = [assign tg X.env] := by rfl) : ES X (.Assign [tg] e pos :: r) ρ (oe.bind (un2 f)) := ⟨fun d hd G N Φ q => by
  obtain ⟨y, e1, h3⟩ := bind_some hd
  unfold un2 at h3
  split at h3
  · rename_i u v
    exact xss_at (xs_asg (Xd.g (h.run _ e1)) hg (fun x G2 z => ⟨_, by rw [z.1]; exact rg_tup rfl (rgs_cons rg_name (rgs_cons rg_name rgs_nil)), rfl, z.2⟩) hs hw ha) ((hr u v).run d h3 G N Φ q)
  · cases h3⟩
/-- a, b = (.., ..), two plain names -/
theorem es_par (i j : Nat) {x y : Str} {px py pt pt2 : Pos} {kt k2 : Nat} {f : PyData → PyData → Option PyData} (ha : EV X a ρ oa) (hb : EV X b ρ ob) (hr : ∀ u v, ES X r ((ρ.set i (some (.d u))).set j (some (.d v))) (f u v)) (hN : X.N.Nodup) (hij : i ≠ j := by decide) (hi : X.N[i]? = some x := by rfl) (hj : X.N[j]? = some y := by rfl)
    (hx : X.env.scope.names.lookup x = some .local := by rfl) (hy : X.env.scope.names.lookup y = some .local := by rfl) (hc : X.calm = true := by rfl) (h1 : starEach [a, b] X.env = (false, eval a X.env) :: starEach [b] X.env := by rfl) (h2 : starEach [b] X.env = (false, eval b X.env) :: starEach [] X.env := by rfl)
    (hw : swappedStores [.Tuple [.Name x px, .Name y py] kt pt] (.Tuple [a, b] k2 pt2) X.env = pure (some [x, y]) := by rfl) (hs : swapsWithSole [.Tuple [.Name x px, .Name y py] kt pt] (.Tuple [a, b] k2 pt2) pos.line X.env = pure false := by rfl) :
    ES X (.Assign [.Tuple [.Name x px, .Name y py] kt pt] (.Tuple [a, b] k2 pt2) pos :: r) ρ (bin2 f oa ob) := ⟨fun d hd G N Φ q => by
  obtain ⟨u, v, e1, e2, h3⟩ := bin2_some hd
  refine xss_at (xs_of (ps_par hc hN hi hj hij hx hy pa_tw hw hs) (rs_par ((xad_cons (ha.run _ e1) (xad_cons (hb.run _ e2) xa_nil h2) h1) G) fun xs G2 z => ⟨.d u, .d v, z.1, rfl, z.2⟩)) ((hr u v).run d h3 G N Φ q)⟩
theorem es_un5 {i j k l m : Nat} {f : PyData → PyData → PyData → PyData → PyData → Option PyData} (h : EV X e ρ oe) (hg : PG X tg (gTup X.K 5 (gCons (gName i) (gCons (gName j) (gCons (gName k) (gCons (gName l) (gCons (gName m) gNil)))))))
    (hr : ∀ u v w x y, ES X r (((((ρ.set i (some (.d u))).set j (some (.d v))).set k (some (.d w))).set l (some (.d x))).set m (some (.d y))) (f u v w x y))
    (hs : swapsWithSole [tg] e pos.line X.env = pure false := by rfl) (hw : swappedStores [tg] e X.env = pure none := by rfl) (ha : (assignEach [tg] X.env).map (·.2) = [assign tg X.env] := by rfl) : ES X (.Assign [tg] e pos :: r) ρ (oe.bind (un5 f)) := ⟨fun d hd G N Φ q => by
  obtain ⟨y, e1, h3⟩ := bind_some hd
  unfold un5 at h3
  split at h3
  · rename_i u v w x y
    exact xss_at (xs_asg (Xd.g (h.run _ e1)) hg (fun x G2 z => ⟨_, by rw [z.1]; exact rg_tup rfl (rgs_cons rg_name (rgs_cons rg_name (rgs_cons rg_name (rgs_cons rg_name (rgs_cons rg_name rgs_nil))))), rfl, z.2⟩) hs hw ha) ((hr u v w x y).run d h3 G N Φ q)
  · cases h3⟩
theorem sc_nil : SC X [] ρ (some none) := ⟨fun y hy G N Φ _ h => by
  cases hy
  exact xss_nil (h rfl)⟩
theorem sc_if {oy : Option (Option PyData)} (hc : ET X c ρ oc) (h1 : ES X sa ρ oa) (h2 : SC X r ρ oy) : SC X (.If c sa [] pos :: r) ρ (ifO oc (oa.map some) oy) := ⟨fun y hy G N Φ q1 q2 => by
  obtain ⟨t, e1, h3⟩ := bind_some hy
  refine xss_cons (M := fun ρ' G' => ρ' = ρ ∧ G' = G ∧ t = false) (xs_ifD (hc.run t e1) (fun z => ?_) fun z => xss_nil ⟨rfl, rfl, z⟩) fun ρ' G' w => ?_
  · subst z
    obtain ⟨d, e2, e3⟩ := Option.map_eq_some_iff.mp h3
    exact h1.run d e2 G _ Φ (q1 d e3.symm)
  · obtain ⟨w1, w2, w3⟩ := w
    subst w1 w2 w3
    exact h2.run y h3 _ N Φ q1 q2⟩
theorem set_forget {ρ ρ1 : Env} {j : Nat} (h : ρ1.set j none = ρ.set j none) (x : Option DV) : ρ1.set j x = ρ.set j x := by
  have := congrArg (fun l => l.set j x) h
  simpa [List.set_set] using this
/-- for x in ..: if ..: return .. -/
theorem es_for (j : Nat) {x : Str} {tp : Pos} {ox : Option (List PyData)} {f : PyData → Option (Option PyData)} (hp : PassesOwn (model X.prog X.w) X.A X.env X.xe) (hi : EIt X (.Name x tp) e ρ ox) (hg : PG X (.Name x tp) (gName j)) (hb : ∀ d, SC X body (ρ.set j (some (.d d))) (f d)) (hr : ES X r (ρ.set j none) ob)
    (hc : X.calm = true := by rfl) (hf : ∀ x, foldedSetIterable e X.env x = pure x := by intro _; rfl) : ES X (.For (.Name x tp) e body [] pos :: r) ρ (ox.bind fun xs => if xs.length ≤ 100000 then (forO f xs).bind fun y => match y with | some d => some d | none => ob else none) := ⟨fun d hd G N Φ q => by
  obtain ⟨xs, e1, h2⟩ := bind_some hd
  by_cases hz : xs.length ≤ 100000
  · rw [if_pos hz] at h2
    obtain ⟨y, e2, h3⟩ := bind_some h2
    obtain ⟨wi, p1, w1⟩ := hi.run xs e1 hz
    refine xss_cons (M := fun ρ' G' => ρ'.set j none = ρ.set j none ∧ G' = G ∧ y = none) (xs_forG (js := [j]) hp p1 w1 (fun i ρ1 G1 => ρ1.set j none = ρ.set j none ∧ G1 = G ∧ forO f (xs.drop i) = some y) hg ⟨rfl, rfl, e2⟩ (fun i v ρ1 G1 hv q1 => ?_) (fun ρ1 G1 q1 => ?_) hc hf) fun ρ' G' w => ?_
    · obtain ⟨q1, q2, q3⟩ := q1
      subst q2
      have hi := List.getElem?_eq_some_iff.mp hv
      rw [List.drop_eq_getElem_cons hi.1, hi.2] at q3
      obtain ⟨z, f1, f2⟩ := bind_some q3
      refine ⟨_, rg_name, ?_⟩
      rw [set_forget q1]
      refine (hb v).run z f1 G1 _ Φ (fun d2 ez => ?_) fun ez => ?_
      · subst ez
        cases f2
        cases h3
        exact q
      · subst ez
        exact ⟨by rw [List.set_set], rfl, f2⟩
    · obtain ⟨q1, q2, q3⟩ := q1
      rw [List.drop_length] at q3
      cases q3
      exact ⟨q1, q2, rfl⟩
    · obtain ⟨w1, w2, w3⟩ := w
      subst w2 w3
      refine RS.forget (j := j) ?_
      rw [w1]
      exact hr.run d h3 G' N Φ q
  · rw [if_neg hz] at h2
    cases h2⟩
theorem sn_nil {i : Nat} {y : PyData} : SN X [] (ρ.set i (some (.d y))) i (some y) := ⟨fun d hd G N Φ h => by
  cases hd
  rw [List.set_set] at h
  exact xss_nil h⟩
theorem sn_asg (i : Nat) {x : Str} {p' : Pos} {f : PyData → Option PyData} (h : EV X e ρ oe) (hr : ∀ d, SN X r (ρ.set i (some (.d d))) i (f d)) (hN : X.N.Nodup) (hi : X.N[i]? = some x := by rfl) (hx : Loc X.env.scope x := by first | exact Or.inl rfl | exact Or.inr rfl)
    (hs : swapsWithSole [.Name x p'] e pos.line X.env = pure false := by rfl) (hw : swappedStores [.Name x p'] e X.env = pure none := by rfl) (hf : X.fn x = true ∨ X.env.scope.names.lookup x = some .local := by first | exact .inl rfl | exact .inr rfl) : SN X (.Assign [.Name x p'] e pos :: r) ρ i (oe.bind f) := ⟨fun d hd G N Φ q => by
  obtain ⟨y, e1, h3⟩ := bind_some hd
  refine xss_at (xs_setD i (h.run y e1) hN hi hx hs hw hf) ((hr y).run d h3 G N Φ ?_)
  rw [List.set_set]
  exact q⟩
/-- for x in ..: acc = .. -/
theorem es_fold (i j : Nat) {x : Str} {tp : Pos} {ox : Option (List PyData)} {a0 : PyData} {f : PyData → PyData → Option PyData} {g2 : PyData → Option PyData} (hp : PassesOwn (model X.prog X.w) X.A X.env X.xe) (hij : i ≠ j) (hi : EIt X (.Name x tp) e ρ ox) (hg : PG X (.Name x tp) (gName j)) (h0 : ρ[i]? = some (some (.d a0)))
    (hb : ∀ acc d, SN X body ((ρ.set i (some (.d acc))).set j (some (.d d))) i (f acc d)) (hr : ∀ acc, ES X r ((ρ.set i (some (.d acc))).set j none) (g2 acc))
    (hc : X.calm = true := by rfl) (hf : ∀ x, foldedSetIterable e X.env x = pure x := by intro _; rfl) : ES X (.For (.Name x tp) e body [] pos :: r) ρ (ox.bind fun xs => if xs.length ≤ 100000 then (foldO f a0 xs).bind g2 else none) := ⟨fun d hd G N Φ q => by
  obtain ⟨xs, e1, h2⟩ := bind_some hd
  by_cases hz : xs.length ≤ 100000
  · rw [if_pos hz] at h2
    obtain ⟨y, e2, h3⟩ := bind_some h2
    obtain ⟨wi, p1, w1⟩ := hi.run xs e1 hz
    have hsame : ρ.set i (some (.d a0)) = ρ := by
      obtain ⟨hl, he⟩ := List.getElem?_eq_some_iff.mp h0
      rw [← he, List.set_getElem_self]
    refine xss_cons (M := fun ρ' G' => ρ'.set j none = (ρ.set i (some (.d y))).set j none ∧ G' = G) (xs_forG (js := [j]) hp p1 w1 (fun k ρ1 G1 => ∃ acc, ρ1.set j none = (ρ.set i (some (.d acc))).set j none ∧ G1 = G ∧ foldO f acc (xs.drop k) = some y) hg ⟨a0, by rw [hsame], rfl, e2⟩ (fun k v ρ1 G1 hv q1 => ?_) (fun ρ1 G1 q1 => ?_) hc hf) fun ρ' G' w => ?_
    · obtain ⟨acc, q1, q2, q3⟩ := q1
      subst q2
      have hi := List.getElem?_eq_some_iff.mp hv
      rw [List.drop_eq_getElem_cons hi.1, hi.2] at q3
      obtain ⟨z, f1, f2⟩ := bind_some q3
      refine ⟨_, rg_name, ?_⟩
      rw [set_forget q1]
      refine (hb acc v).run z f1 G1 _ Φ ⟨z, ?_, rfl, f2⟩
      rw [List.set_comm _ _ (Ne.symm hij), List.set_set, List.set_set]
    · obtain ⟨acc, q1, q2, q3⟩ := q1
      rw [List.drop_length] at q3
      cases q3
      exact ⟨q1, q2⟩
    · obtain ⟨w1, w2⟩ := w
      subst w2
      refine RS.forget (j := j) ?_
      rw [w1]
      exact (hr y).run d h3 G' N Φ q
  · rw [if_neg hz] at h2
    cases h2⟩
end
end Fsh

set_option Elab.async false
set_option linter.all false
set_option maxRecDepth 100000
set_option maxHeartbeats 2000000
namespace Fsh
open PySem PySem.Spec PyProof.Rows L2
/-! ### short words for written-out derivations -/
structure By (mg : Str → Option Value) : Prop where
  bn : Bn mg
  isi : mg "isinstance" = none
  all : mg "all" = none
  zip : mg "zip" = none
  enum : mg "enumerate" = none
  bool : mg "bool" = none
theorem kx_of {P : Program} {w : World} {K : PySem.W.Frag} {mg : Str → Option Value} {base : Heap} {N : List Str} {x : Str} {sc : Scope} {f : Addr} {cdv : Value} {A : Around} {outer : List PySem.Env} {s : Shared} {H : Hp} {E : XK} {k : Nat} (Y : By mg) (hg : A.guards = some []) (hr : Room k (A.deeper (envOfC x sc s.heap.objs.size f cdv))) : Kx (cxOf CX0 P w K mg base N x sc f cdv A outer s H E).nox :=
  ⟨Y.bn, Y.isi, Y.all, Y.zip, Y.enum, Y.bool, hg, by have := hr.un; show (A.deeper _).units + 200 < cLine; omega⟩
theorem kx_bx {X : Cx} {scope : Scope} (k : Kx X) (z : Fz) : Kx (bx X scope z) := k.bx scope z
theorem boot_int_is : bootBuiltins "int" = some (.type "int") := by decide +kernel
theorem boot_bool_is : bootBuiltins "bool" = some (.type "bool") := by decide +kernel
theorem boot_str_is : bootBuiltins "str" = some (.type "str") := by decide +kernel
theorem boot_tuple_is : bootBuiltins "tuple" = some (.type "tuple") := by decide +kernel
theorem boot_list_is : bootBuiltins "list" = some (.type "list") := by decide +kernel
theorem ev_cstK {X : Cx} {e : Expr} {ρ : Env} {d : PyData} (n : Nat) (h : cstD n e = some d) : EV X e ρ (some d) := h ▸ ev_cst n
def env2 (f : PyData → PyData → Env) : PyData → Env
  | .tuple [a, b] => f a b
  | _ => []
theorem un2_shape {α : Type} {f : PyData → PyData → Option α} {x : PyData} {t : α} (h : un2 f x = some t) : ∃ a b, x = .tuple [a, b] := by
  unfold un2 at h
  split at h
  · exact ⟨_, _, rfl⟩
  · cases h
theorem ev_un2 {X : Cx} {e : Expr} {ρ : PyData → PyData → Env} {f : PyData → PyData → Option PyData} {x : PyData} (h : ∀ a b, EV X e (ρ a b) (f a b)) : EV X e (env2 ρ x) (un2 f x) := ⟨fun d hd => by
  obtain ⟨a, b, e⟩ := un2_shape hd
  subst e
  exact (h a b).run d hd⟩
theorem ets_un2 {X : Cx} {ifs : List Expr} {ρ : PyData → PyData → Env} {f : PyData → PyData → Option Bool} {x : PyData} (h : ∀ a b, ETs X ifs (ρ a b) (f a b)) : ETs X ifs (env2 ρ x) (un2 f x) := ⟨fun d hd => by
  obtain ⟨a, b, e⟩ := un2_shape hd
  subst e
  exact (h a b).run d hd⟩
end Fsh

set_option Elab.async false
set_option linter.all false
set_option maxRecDepth 100000
/-! Rows of records as plain Lean data, and the texts that are written of them. -/
namespace Rec
open PySem PySem.Spec PyProof.Rows L2 Fsh
/-! ### texts of bounded length -/
def lil (n : Int) : Prop := n.natAbs.log2 < 200
theorem lil.small {n : Int} (h : lil n) : n.natAbs.log2 < 1920 := Nat.lt_trans h (by decide)
def okS (k : Nat) (x : Str) : Prop := x.length ≤ k ∧ ∀ c ∈ x.cps.toList, c < 1114112
theorem okS.mono {j k : Nat} {x : Str} (h : okS j x) (l : j ≤ k) : okS k x := ⟨Nat.le_trans h.1 l, h.2⟩
theorem okS_app {j k : Nat} {x y : Str} (h : okS j x) (q : okS k y) : okS (j + k) (x ++ y) := by
  refine ⟨?_, fun c hc => ?_⟩
  · rw [PySem.strLen_append]
    exact Nat.add_le_add h.1 q.1
  · have hc : c ∈ (x.cps ++ y.cps).toList := hc
    rw [Array.toList_append, List.mem_append] at hc
    exact hc.elim (h.2 c) (q.2 c)
theorem okS_of (s : String) {k : Nat} (h : s.length ≤ k) : okS k (s : Str) := by
  refine ⟨by rw [PySem.ofString_length]; exact h, fun c hc => ?_⟩
  rw [PySem.Str.ofString_eq_toList] at hc
  have hc : c ∈ (s.toList.map Char.toNat) := by simpa using hc
  obtain ⟨d, _, e⟩ := List.mem_map.mp hc
  subst e
  have hv := d.valid
  have h3 : d.toNat.isValidChar := hv
  rcases h3 with h3 | h3
  · exact Nat.lt_trans h3 (by decide)
  · exact h3.2
def intT (n : Int) : Str := (toString n : String)
theorem okS_int {n : Int} (h : lil n) : okS 201 (intT n) := okS_of _ (PySem.int_text_length_le (k := 200) (by decide) h)
theorem okS_lit (s : String) : okS s.length (s : Str) := okS_of s (Nat.le_refl _)
theorem okS_empty : okS 0 Str.empty := ⟨Nat.le_refl _, fun c hc => by cases hc⟩
theorem okS_jn {j k : Nat} {sep : Str} (hs : okS j sep) : ∀ {ys : List Str}, (∀ y ∈ ys, okS k y) → okS (ys.length * (k + j)) (Str.join sep ys)
  | [], _ => okS_empty.mono (Nat.zero_le _)
  | [x], h => (h x List.mem_cons_self).mono (by rw [List.length_singleton]; omega)
  | x :: y :: r, h => by
    have h1 := h x List.mem_cons_self
    have h2 := okS_jn hs (ys := y :: r) fun z hz => h z (List.mem_cons_of_mem _ hz)
    refine (okS_app (okS_app h1 hs) h2).mono ?_
    rw [List.length_cons (a := x), Nat.succ_mul]
    omega
theorem okS_join {j k : Nat} {sep : Str} (hs : okS j sep) {ys : List Str} (h : ∀ y ∈ ys, okS k y) : okS (ys.length * (k + j)) (Txt.join sep ys) := by
  rw [show Txt.join sep ys = Str.join sep ys from StrLaws.glued_eq_join sep ys]
  exact okS_jn hs h
theorem sum_len {k : Nat} : ∀ {ys : List Str}, (∀ y ∈ ys, okS k y) → (ys.map (·.length)).sum ≤ ys.length * k
  | [], _ => Nat.zero_le _
  | x :: r, h => by
    have h1 := (h x List.mem_cons_self).1
    have h2 := sum_len (ys := r) fun z hz => h z (List.mem_cons_of_mem _ hz)
    rw [List.map_cons, List.sum_cons, List.length_cons, Nat.succ_mul]
    omega
theorem okS_repr {k : Nat} {x : Str} (h : okS k x) : (reprText x).length ≤ 10 * k + 2 := by
  have := StrLaws.reprText_len x fun c hc => Nat.lt_of_lt_of_le (h.2 c hc) (by decide)
  have := h.1
  omega

/-! ### rows -/
abbrev Fil := Int × Int × Option Int
inductive RowM where
  | order (m s : Str) (p z : Int) (fs : List Fil)
  | cancel (n : Int)
  | prints (fs : List Fil)
  | closed
  | call (p : Option Int) (ps : List (Int × Int))
def optD : Option Int → PyData
  | none => .none
  | some n => .int n
def filD (f : Fil) : PyData := .tuple [.int f.1, .int f.2.1, optD f.2.2]
def pairD (p : Int × Int) : PyData := .tuple [.int p.1, .int p.2]
def rowD : RowM → PyData
  | .order m s p z fs => .tuple [.str "order", .str m, .str s, .int p, .int z, .tuple (fs.map filD)]
  | .cancel n => .tuple [.str "cancel", .int n]
  | .prints fs => .tuple [.str "prints", .tuple (fs.map filD)]
  | .closed => .tuple [.str "closed"]
  | .call p ps => .tuple [.str "call", optD p, .tuple (ps.map pairD)]
def optT : Option Int → Str
  | none => "-"
  | some n => intT n
def filT (f : Fil) : Str := intT f.1 ++ "*" ++ intT f.2.1 ++ "@" ++ optT f.2.2
def pairT (p : Int × Int) : Str := intT p.2 ++ "@" ++ intT p.1
abbrev u (s : String) : Str := Str.ofString s
def rowW : RowM → List Str
  | .order m s p z fs => [u "order", m, s, intT p, intT z] ++ fs.map filT
  | .cancel n => [u "cancel", intT n]
  | .prints fs => [u "prints"] ++ fs.map filT
  | .closed => [u "closed"]
  | .call p ps => [u "call", optT p] ++ ps.map pairT
def rowT (r : RowM) : Str := Txt.join (u " ") (rowW r)
def recT (rule : Str) (rows : List RowM) : Str := Txt.join (u "\n") ((u "record " ++ rule) :: rows.map rowT)
def lilO (o : Option Int) : Prop := ∀ n, o = some n → lil n
def okF (f : Fil) : Prop := lil f.1 ∧ lil f.2.1 ∧ lilO f.2.2
def okFs (fs : List Fil) : Prop := fs.length ≤ 30 ∧ ∀ f ∈ fs, okF f
def okP (p : Int × Int) : Prop := lil p.1 ∧ lil p.2
def okR : RowM → Prop
  | .order m s p z fs => okS 8 m ∧ okS 8 s ∧ lil p ∧ lil z ∧ okFs fs
  | .cancel n => lil n
  | .prints fs => okFs fs
  | .closed => True
  | .call p ps => lilO p ∧ ps.length ≤ 30 ∧ ∀ q ∈ ps, okP q
theorem okS_opt {o : Option Int} (h : lilO o) : okS 201 (optT o) := by
  cases o with
  | none => exact (okS_lit "-").mono (by decide)
  | some n => exact okS_int (h n rfl)
theorem okS_fil {f : Fil} (h : okF f) : okS 605 (filT f) := (okS_app (okS_app (okS_app (okS_app (okS_int h.1) (okS_lit "*")) (okS_int h.2.1)) (okS_lit "@")) (okS_opt h.2.2)).mono (by decide)
theorem okS_pair {p : Int × Int} (h : okP p) : okS 605 (pairT p) := (okS_app (okS_app (okS_int h.2) (okS_lit "@")) (okS_int h.1)).mono (by decide)
theorem okW {r : RowM} (h : okR r) : (rowW r).length ≤ 35 ∧ ∀ y ∈ rowW r, okS 605 y := by
  cases r with
  | order m s p z fs =>
    obtain ⟨h1, h2, h3, h4, h5, h6⟩ := h
    refine ⟨by unfold rowW; rw [List.length_append, List.length_map]; show 5 + fs.length ≤ 35; omega, fun y hy => ?_⟩
    rcases List.mem_append.mp (show y ∈ _ ++ _ from hy) with hy | hy
    · simp only [List.mem_cons, List.not_mem_nil, or_false] at hy
      rcases hy with e | e | e | e | e <;> subst e
      · exact (okS_lit "order").mono (by decide)
      · exact h1.mono (by decide)
      · exact h2.mono (by decide)
      · exact (okS_int h3).mono (by decide)
      · exact (okS_int h4).mono (by decide)
    · obtain ⟨f, hf, e⟩ := List.mem_map.mp hy
      subst e
      exact okS_fil (h6 f hf)
  | cancel n =>
    refine ⟨by show 2 ≤ 35; omega, fun y hy => ?_⟩
    simp only [rowW, List.mem_cons, List.not_mem_nil, or_false] at hy
    rcases hy with e | e <;> subst e
    · exact (okS_lit "cancel").mono (by decide)
    · exact (okS_int h).mono (by decide)
  | prints fs =>
    obtain ⟨h5, h6⟩ := h
    refine ⟨by unfold rowW; rw [List.length_append, List.length_map]; show 1 + fs.length ≤ 35; omega, fun y hy => ?_⟩
    rcases List.mem_append.mp (show y ∈ _ ++ _ from hy) with hy | hy
    · simp only [List.mem_cons, List.not_mem_nil, or_false] at hy
      subst hy
      exact (okS_lit "prints").mono (by decide)
    · obtain ⟨f, hf, e⟩ := List.mem_map.mp hy
      subst e
      exact okS_fil (h6 f hf)
  | closed =>
    refine ⟨by show 1 ≤ 35; omega, fun y hy => ?_⟩
    simp only [rowW, List.mem_cons, List.not_mem_nil, or_false] at hy
    subst hy
    exact (okS_lit "closed").mono (by decide)
  | call p ps =>
    obtain ⟨h1, h5, h6⟩ := h
    refine ⟨by unfold rowW; rw [List.length_append, List.length_map]; show 2 + ps.length ≤ 35; omega, fun y hy => ?_⟩
    rcases List.mem_append.mp (show y ∈ _ ++ _ from hy) with hy | hy
    · simp only [List.mem_cons, List.not_mem_nil, or_false] at hy
      rcases hy with e | e <;> subst e
      · exact (okS_lit "call").mono (by decide)
      · exact (okS_opt h1).mono (by decide)
    · obtain ⟨f, hf, e⟩ := List.mem_map.mp hy
      subst e
      exact okS_pair (h6 f hf)
theorem okT {r : RowM} (h : okR r) : okS 22000 (rowT r) := (okS_join (okS_lit " ") (okW h).2).mono (by
  have := (okW h).1
  have e : (" " : String).length = 1 := by decide
  rw [e]
  omega)
theorem okRec {rule : Str} {rows : List RowM} (h0 : okS 8 rule) (h1 : rows.length ≤ 40) (h : ∀ r ∈ rows, okR r) : okS 1000000 (recT rule rows) := by
  refine (okS_join (okS_lit "\n") (k := 22000) (ys := (u "record " ++ rule) :: rows.map rowT) fun y hy => ?_).mono ?_
  · rcases List.mem_cons.mp hy with e | hy
    · subst e
      exact (okS_app (okS_lit "record ") h0).mono (by decide)
    · obtain ⟨r, hr, e⟩ := List.mem_map.mp hy
      subst e
      exact okT (h r hr)
  · have e : ("\n" : String).length = 1 := by decide
    rw [e, List.length_cons, List.length_map]
    omega
end Rec

set_option Elab.async false
set_option linter.all false
set_option maxRecDepth 100000
/-! What orders of rows traded, what rests of them, which are open: plain Lean. -/
namespace Rec
open PySem PySem.Spec PyProof.Rows L2 Fsh
def filsOf : RowM → List Fil
  | .order _ _ _ _ fs => fs
  | .prints fs => fs
  | _ => []
def isOrd : RowM → Bool
  | .order .. => true
  | _ => false
def pairsOf : RowM → List (Int × Int)
  | .call _ ps => ps
  | _ => []
def one (s : Nat) (o : Bool) (f : Fil) : List (Int × Int) := (if o = true then [((s : Int), f.2.1)] else []) ++ (match f.2.2 with | some n => [(n, f.2.1)] | none => [])
def trFs (s : Nat) (o : Bool) (fs : List Fil) : List (Int × Int) := (fs.map (one s o)).flatten
def cutF (r : RowM) (t i : Int) (s : Nat) : List Fil := (filsOf r).take (if (s : Int) < t then (filsOf r).length else i.toNat)
def trAt (rows : List RowM) (t i : Int) (s : Nat) : List (Int × Int) := match rows[s]? with
  | none => []
  | some r => trFs s (isOrd r) (cutF r t i s) ++ (if (s : Int) < t then pairsOf r else [])
def trUp (rows : List RowM) (t i : Int) (s : Nat) : List (Int × Int) := ((List.range s).map (trAt rows t i)).flatten
def turns (rows : List RowM) (t : Int) : Int := if (rows.length : Int) < t + 1 then rows.length else t + 1
def trades (rows : List RowM) (t i : Int) : List (Int × Int) := trUp rows t i (turns rows t).toNat
def okRs (rows : List RowM) : Prop := rows.length ≤ 40 ∧ ∀ r ∈ rows, okR r
theorem trUp_succ (rows : List RowM) (t i : Int) (s : Nat) : trUp rows t i (s + 1) = trUp rows t i s ++ trAt rows t i s := by
  unfold trUp
  rw [List.range_succ, List.map_append, List.flatten_append]
  simp
theorem trFs_snoc (s : Nat) (o : Bool) (fs : List Fil) (j : Nat) {f : Fil} (h : fs[j]? = some f) : trFs s o (fs.take (j + 1)) = trFs s o (fs.take j) ++ one s o f := by
  unfold trFs
  rw [List.take_add_one, h, List.map_append, List.flatten_append]
  simp
theorem one_len (s : Nat) (o : Bool) (f : Fil) : (one s o f).length ≤ 2 := by
  unfold one
  rw [List.length_append]
  have h1 : (if o = true then [((s : Int), f.2.1)] else []).length ≤ 1 := by split <;> simp
  have h2 : (match f.2.2 with | some n => [(n, f.2.1)] | none => ([] : List (Int × Int))).length ≤ 1 := by split <;> simp
  omega
theorem trFs_len (s : Nat) (o : Bool) : ∀ fs : List Fil, (trFs s o fs).length ≤ 2 * fs.length
  | [] => Nat.zero_le _
  | f :: fs => by
    unfold trFs
    rw [List.map_cons, List.flatten_cons, List.length_append]
    have h1 := one_len s o f
    have h2 := trFs_len s o fs
    unfold trFs at h2
    rw [List.length_cons]
    omega
theorem filsOf_ok {r : RowM} (h : okR r) : okFs (filsOf r) := by
  cases r with
  | order m s p z fs => exact h.2.2.2.2
  | cancel n => exact ⟨Nat.zero_le _, fun f hf => by cases hf⟩
  | prints fs => exact h
  | closed => exact ⟨Nat.zero_le _, fun f hf => by cases hf⟩
  | call p ps => exact ⟨Nat.zero_le _, fun f hf => by cases hf⟩
theorem pairsOf_ok {r : RowM} (h : okR r) : (pairsOf r).length ≤ 30 ∧ ∀ q ∈ pairsOf r, okP q := by
  cases r with
  | call p ps => exact h.2
  | order m s p z fs => exact ⟨Nat.zero_le _, fun f hf => by cases hf⟩
  | cancel n => exact ⟨Nat.zero_le _, fun f hf => by cases hf⟩
  | prints fs => exact ⟨Nat.zero_le _, fun f hf => by cases hf⟩
  | closed => exact ⟨Nat.zero_le _, fun f hf => by cases hf⟩
theorem cutF_len (r : RowM) (t i : Int) (s : Nat) : (cutF r t i s).length ≤ (filsOf r).length := by
  unfold cutF
  rw [List.length_take]
  omega
theorem trAt_len {rows : List RowM} (h : okRs rows) (t i : Int) (s : Nat) : (trAt rows t i s).length ≤ 90 := by
  unfold trAt
  cases z : rows[s]? with
  | none => exact Nat.zero_le _
  | some r =>
    have hr := h.2 r (List.mem_of_getElem? z)
    have h1 := trFs_len s (isOrd r) (cutF r t i s)
    have h2 := cutF_len r t i s
    have h3 := (filsOf_ok hr).1
    have h4 := (pairsOf_ok hr).1
    show (trFs s (isOrd r) (cutF r t i s) ++ (if (s : Int) < t then pairsOf r else [])).length ≤ 90
    rw [List.length_append]
    have h5 : (if (s : Int) < t then pairsOf r else []).length ≤ 30 := by
      split
      · exact h4
      · exact Nat.zero_le _
    omega
theorem trUp_len {rows : List RowM} (h : okRs rows) (t i : Int) : ∀ s : Nat, (trUp rows t i s).length ≤ 90 * s
  | 0 => Nat.le_refl _
  | s + 1 => by
    rw [trUp_succ, List.length_append]
    have h1 := trUp_len h t i s
    have h2 := trAt_len h t i s
    omega
theorem turns_le (rows : List RowM) (t : Int) : turns rows t ≤ rows.length := by
  unfold turns
  split <;> omega
theorem trades_len {rows : List RowM} (h : okRs rows) (t i : Int) : (trades rows t i).length ≤ 3600 := by
  have h1 := trUp_len h t i (turns rows t).toNat
  have h2 := turns_le rows t
  have h3 := h.1
  unfold trades
  omega
/-! rests -/
def sizeOf : RowM → Int
  | .order _ _ _ z _ => z
  | _ => 0
def sumOf (L : List (Int × Int)) (n : Int) : Int := ((L.filter fun p => decide (p.1 = n)).map (·.2)).sum
def restM (rows : List RowM) (n : Nat) (t i : Int) : Int := (match rows[n]? with | some r => sizeOf r | none => 0) - sumOf (trades rows t i) n
theorem sumOf_snoc (L : List (Int × Int)) (p : Int × Int) (n : Int) : sumOf (L ++ [p]) n = sumOf L n + if p.1 = n then p.2 else 0 := by
  unfold sumOf
  rw [List.filter_append, List.map_append, List.sum_append]
  by_cases h : p.1 = n
  · simp [h]
  · simp [h]
/-! a dict of ints -/
def getI (m : List (Int × Int)) (k : Int) : Option Int := (m.find? fun p => decide (p.1 = k)).map (·.2)
def putI (m : List (Int × Int)) (k v : Int) : List (Int × Int) := if (m.any fun p => decide (p.1 = k)) = true then m.map (fun p => if p.1 = k then (p.1, v) else p) else m ++ [(k, v)]
def encI (m : List (Int × Int)) : List (Key × DV) := m.map fun p => (.inl p.1, .d (.int p.2))
theorem look_enc (m : List (Int × Int)) (k : Int) : look (encI m) (.inl k) = (getI m k).map fun v => .d (.int v) := by
  induction m with
  | nil => rfl
  | cons p r ih =>
    unfold look getI encI at *
    rw [List.map_cons, List.find?_cons, List.find?_cons]
    have e : (decide ((Sum.inl p.1 : Key) = Sum.inl k)) = decide (p.1 = k) := decide_eq_decide.mpr ⟨Sum.inl.inj, congrArg Sum.inl⟩
    rw [e]
    by_cases h : p.1 = k
    · simp [h]
    · simp only [h, decide_false]
      exact ih
theorem put_enc (m : List (Int × Int)) (k v : Int) : putD (encI m) (.inl k) (.d (.int v)) = encI (putI m k v) := by
  have e : ∀ a : Int, (decide ((Sum.inl a : Key) = Sum.inl k)) = decide (a = k) := fun a => decide_eq_decide.mpr ⟨Sum.inl.inj, congrArg Sum.inl⟩
  have ha : ((encI m).any fun kv => decide (kv.1 = Sum.inl k)) = (m.any fun p => decide (p.1 = k)) := by
    unfold encI
    rw [List.any_map]
    congr 1
    funext p
    exact e p.1
  unfold putD putI
  rw [ha]
  split
  · unfold encI
    rw [List.map_map, List.map_map]
    apply List.map_congr_left
    intro p _
    show (if (Sum.inl p.1 : Key) = Sum.inl k then _ else _) = _
    by_cases h : p.1 = k
    · rw [if_pos (congrArg Sum.inl h)]
      show _ = (fun p => (Sum.inl p.1, DV.d (PyData.int p.2))) (if p.1 = k then (p.1, v) else p)
      rw [if_pos h]
    · rw [if_neg (fun z => h (Sum.inl.inj z))]
      show _ = (fun p => (Sum.inl p.1, DV.d (PyData.int p.2))) (if p.1 = k then (p.1, v) else p)
      rw [if_neg h]
  · unfold encI
    rw [List.map_append]
    rfl
theorem getI_put (m : List (Int × Int)) (k v n : Int) : getI (putI m k v) n = if n = k then some v else getI m n := by
  induction m with
  | nil =>
    unfold putI getI
    by_cases h : n = k
    · subst h
      simp
    · have h' : ¬ k = n := fun z => h z.symm
      simp [h, h']
  | cons p r ih =>
    unfold putI
    rw [List.any_cons]
    by_cases h : p.1 = k
    · rw [show (decide (p.1 = k)) = true from decide_eq_true h, Bool.true_or, if_pos rfl, List.map_cons, if_pos h]
      unfold getI
      rw [List.find?_cons]
      by_cases z : n = k
      · subst z
        simp [h]
      · have h' : ¬ p.1 = n := fun w => z (w.symm.trans h)
        simp only [h', decide_false, z, if_false]
        rw [List.find?_cons]
        simp only [h', decide_false]
        have e : ∀ l : List (Int × Int), (l.map (fun p => if p.1 = k then (p.1, v) else p)).find? (fun p => decide (p.1 = n)) = l.find? (fun p => decide (p.1 = n)) := by
          intro l
          induction l with
          | nil => rfl
          | cons q l il =>
            rw [List.map_cons, List.find?_cons, List.find?_cons]
            by_cases hq : q.1 = k
            · have hn : ¬ q.1 = n := fun w => z (w.symm.trans hq)
              rw [if_pos hq]
              simp only [hn, decide_false]
              exact il
            · rw [if_neg hq]
              by_cases hn : q.1 = n
              · simp [hn]
              · simp only [hn, decide_false]
                exact il
        rw [e]
    · rw [show (decide (p.1 = k)) = false from decide_eq_false h, Bool.false_or]
      unfold putI at ih
      by_cases ha : (r.any fun p => decide (p.1 = k)) = true
      · rw [if_pos ha] at ih ⊢
        rw [List.map_cons, if_neg h]
        unfold getI at *
        rw [List.find?_cons, List.find?_cons]
        by_cases hn : p.1 = n
        · have z : ¬ n = k := fun w => h (hn.trans w)
          simp [hn, z]
        · simp only [hn, decide_false]
          exact ih
      · rw [if_neg ha] at ih ⊢
        rw [List.cons_append]
        unfold getI at *
        rw [List.find?_cons, List.find?_cons]
        by_cases hn : p.1 = n
        · have z : ¬ n = k := fun w => h (hn.trans w)
          simp [hn, z]
        · simp only [hn, decide_false]
          exact ih
def dsum (L : List (Int × Int)) : List (Int × Int) := L.foldl (fun m p => putI m p.1 ((getI m p.1).getD 0 + p.2)) []
theorem dsum_snoc (L : List (Int × Int)) (p : Int × Int) : dsum (L ++ [p]) = putI (dsum L) p.1 ((getI (dsum L) p.1).getD 0 + p.2) := by
  unfold dsum
  rw [List.foldl_append]
  rfl
theorem snoc_ind {α : Type} {P : List α → Prop} (h0 : P []) (hs : ∀ L a, P L → P (L ++ [a])) (L : List α) : P L := by
  have h : ∀ M : List α, P M.reverse := fun M => by
    induction M with
    | nil => exact h0
    | cons a M ih =>
      rw [List.reverse_cons]
      exact hs _ _ ih
  have := h L.reverse
  rw [List.reverse_reverse] at this
  exact this
theorem dsum_get (L : List (Int × Int)) (n : Int) : (getI (dsum L) n).getD 0 = sumOf L n := by
  induction L using snoc_ind with
  | h0 => rfl
  | hs L p ih =>
    rw [dsum_snoc, getI_put, sumOf_snoc]
    by_cases h : n = p.1
    · subst h
      rw [if_pos rfl, if_pos rfl, ← ih]
      rfl
    · rw [if_neg h, if_neg (fun z => h z.symm), ih]
      omega
theorem putI_len (m : List (Int × Int)) (k v : Int) : (putI m k v).length ≤ m.length + 1 := by
  unfold putI
  split
  · rw [List.length_map]
    omega
  · rw [List.length_append]
    simp
theorem dsum_len (L : List (Int × Int)) : (dsum L).length ≤ L.length := by
  induction L using snoc_ind with
  | h0 => exact Nat.le_refl _
  | hs L p ih =>
    rw [dsum_snoc, List.length_append]
    have := putI_len (dsum L) p.1 ((getI (dsum L) p.1).getD 0 + p.2)
    simp only [List.length_singleton]
    omega
/-! which are open -/
def cancelN : RowM → Option Int
  | .cancel n => some n
  | _ => none
def goneM (rows : List RowM) (t : Int) : List Int := (rows.take t.toNat).filterMap cancelN
def ordersM (rows : List RowM) : List Nat := (List.range rows.length).filter fun k => match rows[k]? with | some r => isOrd r | none => false
def foundM (rows : List RowM) (t : Int) : List Nat := (ordersM rows).filter fun k => decide ((k : Int) < t) && !decide ((k : Int) ∈ goneM rows t)
def openM (rows : List RowM) (t i : Int) : List Nat := (foundM rows t).filter fun k => decide (sumOf (trades rows t i) k < (match rows[k]? with | some r => sizeOf r | none => 0))
theorem open_is {rows : List RowM} {t i : Int} {k : Nat} (h : k ∈ openM rows t i) : (∃ m s p z fs, rows[k]? = some (.order m s p z fs)) ∧ (k : Int) < t ∧ 0 < restM rows k t i := by
  unfold openM at h
  rw [List.mem_filter] at h
  obtain ⟨h1, h2⟩ := h
  unfold foundM at h1
  rw [List.mem_filter, Bool.and_eq_true] at h1
  obtain ⟨h3, h4, _⟩ := h1
  unfold ordersM at h3
  rw [List.mem_filter] at h3
  refine ⟨?_, of_decide_eq_true h4, ?_⟩
  · cases hz : rows[k]? with
    | none =>
      rw [hz] at h3
      cases h3.2
    | some r =>
      rw [hz] at h3
      cases r with
      | order m s p z fs => exact ⟨m, s, p, z, fs, rfl⟩
      | cancel n => cases h3.2
      | prints fs => cases h3.2
      | closed => cases h3.2
      | call p ps => cases h3.2
  · have := of_decide_eq_true h2
    unfold restM
    omega
theorem open_len (rows : List RowM) (t i : Int) : (openM rows t i).length ≤ rows.length := by
  unfold openM foundM ordersM
  refine Nat.le_trans (List.length_filter_le _ _) (Nat.le_trans (List.length_filter_le _ _) (Nat.le_trans (List.length_filter_le _ _) ?_))
  rw [List.length_range]
  exact Nat.le_refl _
end Rec

set_option Elab.async false
set_option linter.all false
set_option maxRecDepth 100000
/-! Rows and records as data: how deep, how they are shown. -/
namespace Rec
open PySem PySem.Spec L2 Fsh
/-- k deep at most, shown by n signs at most -/
structure Nice (k n : Nat) (d : PyData) : Prop where
  lay : d.canLay0 = true
  show_ : d.showable = true
  nod : d.hasDict = false
  dep : d.depth ≤ k
  len : d.shown.length ≤ n
theorem Nice.mono {k n k2 n2 : Nat} {d : PyData} (h : Nice k n d) (h1 : k ≤ k2) (h2 : n ≤ n2) : Nice k2 n2 d := ⟨h.lay, h.show_, h.nod, Nat.le_trans h.dep h1, Nat.le_trans h.len h2⟩
theorem Nice.shaped {k n : Nat} {d : PyData} (h : Nice k n d) (hk : k ≤ 64) : SeqAt.shaped d = true := by
  unfold SeqAt.shaped
  rw [h.lay, Bool.true_and]
  exact decide_eq_true (Nat.le_trans h.dep hk)
theorem nice_none : Nice 0 4 .none := ⟨rfl, rfl, rfl, Nat.le_refl _, by decide +kernel⟩
theorem nice_int {i : Int} (h : lil i) : Nice 0 201 (.int i) := ⟨by simp only [PyData.canLay0], by simp only [PyData.showable]; exact decide_eq_true h.small, by simp only [PyData.hasDict], by simp only [PyData.depth]; exact Nat.le_refl _, by simp only [PyData.shown]; exact (okS_int h).1⟩
theorem nice_str {k : Nat} {x : Str} (h : okS k x) : Nice 0 (10 * k + 2) (.str x) := ⟨by
    simp only [PyData.canLay0]
    show x.cps.all (· < 0x110000) = true
    rw [Array.all_eq_true_iff_forall_mem]
    exact fun c hc => decide_eq_true (h.2 c (Array.mem_toList_iff.mpr hc)), by simp only [PyData.showable], by simp only [PyData.hasDict], by simp only [PyData.depth]; exact Nat.le_refl _, by simp only [PyData.shown]; exact okS_repr h⟩
theorem nice_opt {o : Option Int} (h : lilO o) : Nice 0 201 (optD o) := by
  cases o with
  | none => exact nice_none.mono (Nat.le_refl _) (by decide)
  | some n => exact nice_int (h n rfl)
theorem nice_all {k n : Nat} : ∀ {ds : List PyData}, (∀ d ∈ ds, Nice k n d) → PyData.canLayAll0 ds = true ∧ PyData.showableAll ds = true ∧ PyData.hasDictAll ds = false ∧ PyData.depthAll ds ≤ k ∧ (PyData.shownAll ds).length = ds.length ∧ ((PyData.shownAll ds).map (·.length)).sum ≤ ds.length * n
  | [], _ => ⟨by simp only [PyData.canLayAll0], by simp only [PyData.showableAll], by simp only [PyData.hasDictAll], by simp only [PyData.depthAll]; exact Nat.zero_le _, by simp only [PyData.shownAll]; rfl, by simp only [PyData.shownAll]; exact Nat.zero_le _⟩
  | d :: ds, h => by
    obtain ⟨h1, h2, h3, h4, h5, h6⟩ := nice_all (ds := ds) fun x hx => h x (List.mem_cons_of_mem _ hx)
    have g := h d List.mem_cons_self
    have g4 := g.dep
    have g5 := g.len
    refine ⟨by simp only [PyData.canLayAll0, g.lay, h1]; rfl, by simp only [PyData.showableAll, g.show_, h2]; rfl, by simp only [PyData.hasDictAll, g.nod, h3]; rfl, by simp only [PyData.depthAll]; omega, by simp only [PyData.shownAll, List.length_cons, h5], ?_⟩
    simp only [PyData.shownAll, List.map_cons, List.sum_cons, List.length_cons, Nat.succ_mul]
    omega
theorem nice_tup {k n m : Nat} {ds : List PyData} (h : ∀ d ∈ ds, Nice k n d) (hm : ds.length ≤ m) : Nice (k + 1) (m * (n + 2) + 3) (.tuple ds) := by
  obtain ⟨h1, h2, h3, h4, h5, h6⟩ := nice_all h
  refine ⟨by simp only [PyData.canLay0]; exact h1, by simp only [PyData.showable]; exact h2, by simp only [PyData.hasDict]; exact h3, by simp only [PyData.depth]; omega, ?_⟩
  simp only [PyData.shown]
  have h7 := tupleText_len_le (PyData.shownAll ds)
  have h8 : ds.length * (n + 2) ≤ m * (n + 2) := Nat.mul_le_mul_right _ hm
  rw [Nat.mul_add] at h8
  omega
theorem nice_lst {k n m : Nat} {ds : List PyData} (h : ∀ d ∈ ds, Nice k n d) (hm : ds.length ≤ m) : Nice (k + 1) (m * (n + 2) + 3) (.list ds) := by
  obtain ⟨h1, h2, h3, h4, h5, h6⟩ := nice_all h
  refine ⟨by simp only [PyData.canLay0]; exact h1, by simp only [PyData.showable]; exact h2, by simp only [PyData.hasDict]; exact h3, by simp only [PyData.depth]; omega, ?_⟩
  simp only [PyData.shown]
  have h7 := listText_len_le (PyData.shownAll ds)
  have h8 : ds.length * (n + 2) ≤ m * (n + 2) := Nat.mul_le_mul_right _ hm
  rw [Nat.mul_add] at h8
  omega
theorem nice_mem {k n : Nat} {d : PyData} {ds : List PyData} (h1 : Nice k n d) (h2 : ∀ x ∈ ds, Nice k n x) : ∀ x ∈ d :: ds, Nice k n x := fun x hx => by
  rcases List.mem_cons.mp hx with e | e
  · exact e ▸ h1
  · exact h2 x e
theorem nice_nil {k n : Nat} : ∀ x ∈ ([] : List PyData), Nice k n x := fun x hx => by cases hx
theorem nice_fil {f : Fil} (h : okF f) : Nice 1 1000 (filD f) := (nice_tup (m := 3) (nice_mem (nice_int h.1) (nice_mem (nice_int h.2.1) (nice_mem (nice_opt h.2.2) nice_nil))) (Nat.le_refl _)).mono (by decide) (by decide)
theorem nice_pair {f : Int × Int} (h : okP f) : Nice 1 1000 (pairD f) := (nice_tup (m := 2) (nice_mem (nice_int h.1) (nice_mem (nice_int h.2) nice_nil)) (Nat.le_refl _)).mono (by decide) (by decide)
theorem nice_fils {fs : List Fil} (h : okFs fs) : Nice 2 31000 (.tuple (fs.map filD)) := (nice_tup (m := 30) (fun d hd => by
  obtain ⟨f, hf, e⟩ := List.mem_map.mp hd
  subst e
  exact nice_fil (h.2 f hf)) (by rw [List.length_map]; exact h.1)).mono (by decide) (by decide)
theorem nice_pairs {fs : List (Int × Int)} (h1 : fs.length ≤ 30) (h : ∀ q ∈ fs, okP q) : Nice 2 31000 (.tuple (fs.map pairD)) := (nice_tup (m := 30) (fun d hd => by
  obtain ⟨f, hf, e⟩ := List.mem_map.mp hd
  subst e
  exact nice_pair (h f hf)) (by rw [List.length_map]; exact h1)).mono (by decide) (by decide)
theorem nice_lit (s : String) (h : s.length ≤ 10) : Nice 2 31000 (.str s) := (nice_str (okS_of s h)).mono (by decide) (by decide)
theorem nice_row {r : RowM} (h : okR r) : Nice 3 200000 (rowD r) := by
  have I : ∀ {n : Int}, lil n → Nice 2 31000 (.int n) := fun h => (nice_int h).mono (by decide) (by decide)
  have S : ∀ {x : Str}, okS 8 x → Nice 2 31000 (.str x) := fun h => (nice_str h).mono (by decide) (by decide)
  cases r with
  | order m s p z fs =>
    obtain ⟨h1, h2, h3, h4, h5⟩ := h
    exact (nice_tup (m := 6) (nice_mem (nice_lit "order" (by decide)) (nice_mem (S h1) (nice_mem (S h2) (nice_mem (I h3) (nice_mem (I h4) (nice_mem (nice_fils h5) nice_nil)))))) (Nat.le_refl _)).mono (by decide) (by decide)
  | cancel n => exact (nice_tup (m := 2) (nice_mem (nice_lit "cancel" (by decide)) (nice_mem (I h) nice_nil)) (Nat.le_refl _)).mono (by decide) (by decide)
  | prints fs => exact (nice_tup (m := 2) (nice_mem (nice_lit "prints" (by decide)) (nice_mem (nice_fils h) nice_nil)) (Nat.le_refl _)).mono (by decide) (by decide)
  | closed => exact (nice_tup (m := 1) (nice_mem (nice_lit "closed" (by decide)) nice_nil) (by decide)).mono (by decide) (by decide)
  | call p ps =>
    obtain ⟨h1, h2, h3⟩ := h
    exact (nice_tup (m := 3) (nice_mem (nice_lit "call" (by decide)) (nice_mem ((nice_opt h1).mono (by decide) (by decide)) (nice_mem (nice_pairs h2 h3) nice_nil))) (Nat.le_refl _)).mono (by decide) (by decide)
theorem nice_rows {rows : List RowM} (h1 : rows.length ≤ 40) (h : ∀ r ∈ rows, okR r) : Nice 4 8000083 (.tuple (rows.map rowD)) ∧ Nice 4 8000083 (.list (rows.map rowD)) := by
  have g : ∀ d ∈ rows.map rowD, Nice 3 200000 d := fun d hd => by
    obtain ⟨r, hr, e⟩ := List.mem_map.mp hd
    subst e
    exact nice_row (h r hr)
  have l : (rows.map rowD).length ≤ 40 := by rw [List.length_map]; exact h1
  exact ⟨(nice_tup g l).mono (by decide) (by decide), (nice_lst g l).mono (by decide) (by decide)⟩
def recDat (rule : Str) (rows : List RowM) : PyData := .tuple [.str rule, .tuple (rows.map rowD)]
theorem nice_rec {rule : Str} {rows : List RowM} (h0 : okS 8 rule) (h1 : rows.length ≤ 40) (h : ∀ r ∈ rows, okR r) : Nice 5 16000200 (recDat rule rows) := (nice_tup (m := 2) (nice_mem ((nice_str h0).mono (Nat.zero_le 4) (by decide)) (nice_mem (nice_rows h1 h).1 nice_nil)) (Nat.le_refl _)).mono (by decide) (by decide)
end Rec

set_option Elab.async false
set_option linter.all false
set_option maxRecDepth 100000
set_option maxHeartbeats 2000000
namespace Fsh
open PySem PySem.Spec PyProof.Rows L2
/-! ### {x} in an f-string, x data of any kind: some text that is not long -/
def fmtLen : PyData → Nat
  | .str z => z.length
  | d => d.shown.length
structure FmtOk (d : PyData) : Prop where
  sh : d.showable = true
  nd : d.hasDict = false
  dp : d.depth ≤ 64
  ln : d.shown.length + 100 ≤ sizeLine
  ls : fmtLen d + 100 ≤ sizeLine
def tFmtA (K : PySem.W.Frag) (te : TE) : TE := fun σ H Q => te σ H fun x H1 => ∃ d, Dp K H1 x d ∧ FmtOk d ∧ ∀ y : Str, y.length + 100 ≤ sizeLine → Q (.str y) H1
section
variable {X : Cx} {e o : Expr} {es : List Expr} {te to : TE} {ta : TA} {pos p p1 p2 : Pos}
theorem pe_fmtA (hg : X.A.guards = some []) (hu : X.A.units + 200 < cLine) (he : PE X e te) : PE X (.FormattedValue e (-1) none pos) (tFmtA X.K te) := by
  refine ⟨fun pins s σ H Q I h => ?_⟩
  refine wpAny_FormattedValue_plain (thn (he.run pins s σ H _ I h) fun v s1 hv => ?_)
  obtain ⟨x, H1, I1, r1, d, hd, ok, q⟩ := hv
  obtain ⟨as, hr⟩ := Dp.reads I1 d _ _ hd r1
  have big : 100 + 100 ≤ sizeLine := by rw [sizeLine_eq]; omega
  have ls := ok.ls
  have ln := ok.ln
  rcases Classical.em (∃ a, x = .ref a) with ⟨a, ea⟩ | no
  · subst ea
    cases r1
    exact formatField_of_reads hr ok.sh (fun z => by rw [ok.nd] at z; cases z) hg (by have := ok.dp; omega) (fun _ _ z => z) (fun h' u tk k => ⟨.str d.shown, H1, I1.kept k, ⟨_, rfl⟩, q _ ln⟩) (by omega)
  cases hd with
  | non =>
    cases r1
    exact wpAny_formatField_none ⟨.str _, H1, I1.tok _, ⟨_, rfl⟩, q _ (Nat.le_trans (by decide) big)⟩
  | bl b =>
    cases r1
    refine wpAny_formatField_bool ⟨.str _, H1, I1.tok _, ⟨_, rfl⟩, q _ (Nat.le_trans ?_ big)⟩
    cases b <;> decide
  | int i =>
    obtain ⟨t, e⟩ := r1
    subst e
    exact wpAny_formatField_int (of_decide_eq_true ok.sh) ⟨.str _, H1, I1.tok _, ⟨_, rfl⟩, q _ ln⟩
  | str z =>
    obtain ⟨t, e⟩ := r1
    subst e
    have lz : z.length + 100 ≤ sizeLine := ls
    exact wpAny_formatField_str ⟨.str z, H1, I1, ⟨t, rfl⟩, q z lz⟩ ⟨.str z, H1, I1.tok _, ⟨_, rfl⟩, q z lz⟩ (by omega)
  | lst _ _ => exact absurd ⟨_, rfl⟩ no
  | tup _ _ => exact absurd ⟨_, rfl⟩ no
/-! ### Base.__init__(self, ..), Base a class of the program that leaves __init__ to ValueError -/
structure BaseI (K : PySem.W.Frag) (D : Addr) : Prop where
  ga : PySem.W.specialIn K (.ref D) "__getattribute__" = some (some (.builtin "type.__getattribute__"))
  rd : PySem.W.readsIn K D (.type "type") = true
  fd : PySem.W.findCls K (.ref D) (.type "type") "__init__" = some (.val (.builtin "ValueError.__init__"))
theorem pe_baseinit {x : Str} {D : Addr} {pl : Sem Bool} (hg : Gl X x) (hm : X.mg x = some (.ref D)) (b : BaseI X.K D) (ha : PA X (e :: es) ta) (hdb : (x == ("__debug__" : Str)) = false := by decide)
    (hc : eval (.Call (.Attribute (.Name x p1) "__init__" p2) (e :: es) [] pos) X.env = (do
      let cv ← eval (.Name x p1) X.env
      standAt p2.atName
      let (m, self) ← holding [cv] (getMethod cv "__init__" pl)
      callWith pos m self (backTo pos (starEach (e :: es) X.env)) (backToKw pos (keywordEach [] X.env))) := by rfl)
    (he : starEach (e :: es) X.env = (false, eval e X.env) :: starEach es X.env := by rfl) (hpl : (backTo pos (starEach es X.env)).any (·.1) = false := by rfl) :
    PE X (.Call (.Attribute (.Name x p1) "__init__" p2) (e :: es) [] pos) (tVeI X.K ta) := by
  refine ⟨fun pins s σ H Q I h => PySem.W.methodCall_KW (ld_glob I hg hm ?_ hdb) hc⟩
  refine PySem.W.method_cls I.kIn b.ga (PySem.W.cls_value I.kIn b.rd b.fd (by decide +kernel) ?_)
  show wpAny _ _ (callWith pos (.builtin "ValueError.__init__") [] (backTo pos (starEach (e :: es) X.env)) []) _ _ _
  refine PyProof.Rows.callWith_method1 (thn (ha.run pos pins _ σ H _ (I.tok _) h) fun us s1 hq => ?_) he hpl
  obtain ⟨vs, H1, I1, r1, a, C, ws, ev, hl, T, ea, q⟩ := hq
  subst ev
  cases r1 with
  | @cons _ u0 _ ur ra rw' =>
    obtain rfl : u0 = Value.ref a := ra
    have hlen : ur.length ≤ sizeLine := by
      rw [← Paired.length rw', sizeLine_eq]
      omega
    exact oinit_ok T I1 ea hlen fun s' J => ⟨.non, H1, J, rfl, q⟩
end
end Fsh

set_option Elab.async false
set_option linter.all false
set_option maxRecDepth 100000
set_option maxHeartbeats 2000000
namespace Fsh
open PySem PySem.Spec PyProof.Rows L2
/-! ### what may raise: Ψ tells the class, the fields, the slots and the store of what is raised -/
abbrev XPst := Value → List (Str × DV) → Env → Store → Prop
abbrev XPst0 := Value → List (Str × DV) → Store → Prop
def KpW (K : PySem.W.Frag) (F B : Hp) (Ψ : XPst) (W : WX) : Prop := ∀ cls d fs ρ' σ' G2 B2 H2, Ex B B2 → Cfg K F ((d, .xd fs) :: G2) B2 H2 → Slots K B2 σ' ρ' → Ψ cls fs ρ' G2 → W cls (some d) σ' H2
def KpX (K : PySem.W.Frag) (F B : Hp) (Ψ : XPst0) (E : XK) : Prop := ∀ cls d fs G2 B2 H2, Ex B B2 → Cfg K F ((d, .xd fs) :: G2) B2 H2 → Ψ cls fs G2 → E cls (some d) H2
def RXE (K : PySem.W.Frag) (W : WX) (t : TE) (ρ : Env) (G : Store) (Φ : Pst) (Ψ : XPst) : Prop := ∀ F σ B H Q, Cfg K F G B H → Slots K B σ ρ → Kp K F B Φ Q → KpW K F B Ψ W → t σ H Q
def RXA (K : PySem.W.Frag) (W : WX) (t : TA) (ρ : Env) (G : Store) (Φ : List DV → Store → Prop) (Ψ : XPst) : Prop := ∀ F σ B H Q, Cfg K F G B H → Slots K B σ ρ → KpA K F B Φ Q → KpW K F B Ψ W → t σ H Q
def RXS (K : PySem.W.Frag) (W : WX) (t : TS) (ρ : Env) (G : Store) (N : Env → Store → Prop) (Φ : Pst) (Ψ : XPst) : Prop := ∀ F σ B H D, Cfg K F G B H → Slots K B σ ρ →
  (∀ ρ' σ' G2 B2 H2, Ex B B2 → Cfg K F G2 B2 H2 → Slots K B2 σ' ρ' → N ρ' G2 → D.nx σ' H2) → Kp K F B Φ D.rt → KpW K F B Ψ W → t D σ H
abbrev Yp (X : Cx) (W : WX) (e : Expr) (ρ : Env) (G : Store) (Φ : Pst) (Ψ : XPst) : Prop := RXE X.K W (tw X e) ρ G Φ Ψ
abbrev Ya (X : Cx) (W : WX) (es : List Expr) (ρ : Env) (G : Store) (Φ : List DV → Store → Prop) (Ψ : XPst) : Prop := RXA X.K W (twA X es) ρ G Φ Ψ
abbrev Ys (X : Cx) (W : WX) (st : Stmt) (ρ : Env) (G : Store) (N : Env → Store → Prop) (Φ : Pst) (Ψ : XPst) : Prop := RXS X.K W (twS X st) ρ G N Φ Ψ
abbrev Yss (X : Cx) (W : WX) (sts : List Stmt) (ρ : Env) (G : Store) (N : Env → Store → Prop) (Φ : Pst) (Ψ : XPst) : Prop := RXS X.K W (twSs X sts) ρ G N Φ Ψ
section
variable {K : PySem.W.Frag} {F B B2 : Hp} {ρ : Env} {G : Store} {Φ Φa Φb : Pst} {Ψ Ψ' : XPst} {W : WX} {N M : Env → Store → Prop} {t u : TS} {te ta tb : TE} {tl : TA} {tc : TT}
theorem KpW.mono (e : Ex B B2) (k : KpW K F B Ψ W) : KpW K F B2 Ψ W := fun cls d fs ρ' σ' G2 B3 H3 a => k cls d fs ρ' σ' G2 B3 H3 (e.trans a)
theorem RXE.of (h : R K te ρ G Φ) : RXE K W te ρ G Φ Ψ := fun F σ B H Q c s k _ => h F σ B H Q c s k
theorem RXA.of {Φl : List DV → Store → Prop} (h : RA K tl ρ G Φl) : RXA K W tl ρ G Φl Ψ := fun F σ B H Q c s k _ => h F σ B H Q c s k
theorem RXS.of (h : RS K t ρ G N Φ) : RXS K W t ρ G N Φ Ψ := fun F σ B H D c s n k _ => h F σ B H D c s n k
theorem rxs_seq (h1 : RXS K W t ρ G M Φ Ψ) (h2 : ∀ ρ' G', M ρ' G' → RXS K W u ρ' G' N Φ Ψ) : RXS K W (tSeq t u) ρ G N Φ Ψ := fun F σ B H D c s n k x =>
  h1 F σ B H { D with nx := u D } c s (fun ρ' σ' G2 B2 H2 e c2 s2 p => h2 ρ' G2 p F σ' B2 H2 D c2 s2 (fun ρ3 σ3 G3 B3 H3 e3 c3 s3 p3 => n ρ3 σ3 G3 B3 H3 (e.trans e3) c3 s3 p3) (k.mono e) (x.mono e)) k x
theorem rxs_if {Φc : Bool → Store → Prop} (hc : RT K tc ρ G Φc) (h1 : ∀ G1, Φc true G1 → RXS K W t ρ G1 N Φ Ψ) (h2 : ∀ G1, Φc false G1 → RXS K W u ρ G1 N Φ Ψ) : RXS K W (tIfS tc t u) ρ G N Φ Ψ := fun F σ B H D c s n k x =>
  hc F σ B H _ c s fun b G1 B1 H1 e1 c1 p => by
    have n' : ∀ ρ' σ' G2 B2 H2, Ex B1 B2 → Cfg K F G2 B2 H2 → Slots K B2 σ' ρ' → N ρ' G2 → D.nx σ' H2 := fun ρ' σ' G2 B2 H2 e => n ρ' σ' G2 B2 H2 (e1.trans e)
    cases b with
    | true => exact iteT (h1 G1 p F σ B1 H1 D c1 (s.mono e1) n' (k.mono e1) (x.mono e1))
    | false => exact iteF (h2 G1 p F σ B1 H1 D c1 (s.mono e1) n' (k.mono e1) (x.mono e1))
theorem rxs_drop {Φe : Pst} (h : RXE K W te ρ G Φe Ψ) (p : ∀ x G2, Φe x G2 → N ρ G2) : RXS K W (tDrop te) ρ G N Φ Ψ := fun F σ B H D c s n k x =>
  h F σ B H _ c s (fun v y G2 B2 H2 e c2 r q => n ρ σ G2 B2 H2 e c2 (s.mono e) (p y G2 q)) x
theorem rxs_asg {g : TG} {js : List Nat} {Φe : Pst} (h : RXE K W te ρ G Φe Ψ) (hg : ∀ x G2, Φe x G2 → ∃ ρ', RG K g js x ρ ρ' ∧ N ρ' G2) : RXS K W (tAsg te g) ρ G N Φ Ψ := fun F σ B H D c s n k x =>
  h F σ B H _ c s (fun v y G2 B2 H2 e c2 r q => by
    obtain ⟨ρ', g1, p⟩ := hg y G2 q
    exact g1 σ B2 H2 v _ c2.ex (s.mono e) r fun σ' s' _ => n ρ' σ' G2 B2 H2 e c2 s' p) x
theorem rxa_cons {tr : TA} {Φr : DV → List DV → Store → Prop} {Φl : List DV → Store → Prop} (ha : RXE K W ta ρ G Φa Ψ) (hr : ∀ x G1, Φa x G1 → RXA K W tr ρ G1 (Φr x) Ψ) (h : ∀ x G1 xs G2, Φa x G1 → Φr x xs G2 → Φl (x :: xs) G2) : RXA K W (tCons ta tr) ρ G Φl Ψ := by
  intro F σ B H Q c s k y
  refine ha F σ B H _ c s (fun v x G1 B1 H1 e1 c1 r1 p1 => ?_) y
  refine hr x G1 p1 F σ B1 H1 _ c1 (s.mono e1) (fun vs xs G2 B2 H2 e2 c2 r2 p2 => ?_) (y.mono e1)
  exact k _ _ G2 B2 H2 (e1.trans e2) c2 (.cons (r1.mono e2) r2) (h x G1 xs G2 p1 p2)
end
section
variable {X : Cx} {W : WX} {e a b c o : Expr} {es : List Expr} {ρ : Env} {G : Store} {Φ : Pst} {Ψ : XPst} {pos p p2 apos : Pos} {N : Env → Store → Prop} {st : Stmt} {sts rest : List Stmt}
theorem yp_of {t : TE} (h : PE X e t) (r : RXE X.K W t ρ G Φ Ψ) : Yp X W e ρ G Φ Ψ := fun F σ B H Q c s k y => ⟨fun pins st I => h.run pins st σ H Q I (r F σ B H Q c s k y)⟩
theorem ya_of {t : TA} {Φl : List DV → Store → Prop} (h : PA X es t) (r : RXA X.K W t ρ G Φl Ψ) : Ya X W es ρ G Φl Ψ := fun F σ B H Q c s k y => ⟨fun ps pins st I => h.run ps pins st σ H Q I (r F σ B H Q c s k y)⟩
theorem ys_of {t : TS} (h : PS X st t) (r : RXS X.K W t ρ G N Φ Ψ) : Ys X W st ρ G N Φ Ψ := fun F σ B H D c s n k y => ⟨fun pins st I => h.run pins st σ H D I (r F σ B H D c s n k y)⟩
theorem yss_of {t : TS} (h : PSs X sts t) (r : RXS X.K W t ρ G N Φ Ψ) : Yss X W sts ρ G N Φ Ψ := fun F σ B H D c s n k y => ⟨fun pins st I => h.run pins st σ H D I (r F σ B H D c s n k y)⟩
theorem yss_cons {M : Env → Store → Prop} (h1 : Ys X W st ρ G M Φ Ψ) (h2 : ∀ ρ' G', M ρ' G' → Yss X W rest ρ' G' N Φ Ψ) : Yss X W (st :: rest) ρ G N Φ Ψ := yss_of (pss_cons ps_tw pss_tw) (rxs_seq h1 h2)
theorem yss_one (h1 : Ys X W st ρ G N Φ Ψ) : Yss X W [st] ρ G N Φ Ψ := yss_of (pss_one ps_tw) h1
theorem yss_nil (h : N ρ G) : Yss X W [] ρ G N Φ Ψ := RXS.of (xss_nil h)
theorem ys_ifD {sa sb : List Stmt} {t : Bool} (hc : Xb X c ρ t) (h1 : t = true → Yss X W sa ρ G N Φ Ψ) (h2 : t = false → Yss X W sb ρ G N Φ Ψ) : Ys X W (.If c sa sb pos) ρ G N Φ Ψ :=
  ys_of (ps_if pt_tw pss_tw pss_tw) (rxs_if (hc G) (fun G1 q => by rw [q.2]; exact h1 q.1.symm) fun G1 q => by rw [q.2]; exact h2 q.1.symm)
theorem ys_expr {Φe : Pst} (h : Yp X W e ρ G Φe Ψ) (q : ∀ x G2, Φe x G2 → N ρ G2) (hs : swapsWith e none pos.line X.env = pure false := by rfl) : Ys X W (.Expr e pos) ρ G N Φ Ψ := ys_of (ps_expr pe_tw hs) (rxs_drop h q)
theorem ys_set (i : Nat) {x : Str} {p' : Pos} {Φe : Pst} (h : Yp X W e ρ G Φe Ψ) (q : ∀ y G2, Φe y G2 → N (ρ.set i (some y)) G2) (hN : X.N.Nodup) (hi : X.N[i]? = some x := by rfl) (hx : Loc X.env.scope x := by first | exact Or.inl rfl | exact Or.inr rfl)
    (hs : swapsWithSole [.Name x p'] e pos.line X.env = pure false := by rfl) (hw : swappedStores [.Name x p'] e X.env = pure none := by rfl) (hf : X.fn x = true ∨ X.env.scope.names.lookup x = some .local := by first | exact .inl rfl | exact .inr rfl) : Ys X W (.Assign [.Name x p'] e pos) ρ G N Φ Ψ :=
  ys_of (ps_asg pe_tw (pg_name hN hi hx hf) hs hw) (rxs_asg h fun y G2 z => ⟨_, rg_name, q y G2 z⟩)
theorem ya_cons {Φa : Pst} {Φr : DV → List DV → Store → Prop} {Φl : List DV → Store → Prop} (ha : Yp X W e ρ G Φa Ψ) (hr : ∀ x G1, Φa x G1 → Ya X W es ρ G1 (Φr x) Ψ) (h : ∀ x G1 xs G2, Φa x G1 → Φr x xs G2 → Φl (x :: xs) G2)
    (hs : starEach (e :: es) X.env = (false, eval e X.env) :: starEach es X.env := by rfl) : Ya X W (e :: es) ρ G Φl Ψ := ya_of (pa_cons pe_tw pa_tw hs) (rxa_cons ha hr h)
theorem yp_tup {x1 : Nat} {Φl : List DV → Store → Prop} (h : Ya X W es ρ G Φl Ψ) (hq : ∀ xs G2, Φl xs G2 → ∃ ds, xs = ds.map DV.d ∧ ds.length ≤ 100000 ∧ Φ (.d (.tuple ds)) G2) : Yp X W (.Tuple es x1 pos) ρ G Φ Ψ := yp_of (pe_tup pa_tw) fun F σ B H Q c s k y =>
  h F σ B H _ c s (fun vs xs G2 B2 H2 e2 c2 r2 q2 => by
    obtain ⟨ds, e1, hz, q3⟩ := hq xs G2 q2
    subst e1
    have rr := r2.data
    refine ⟨by rw [rr.len]; exact Evl.sz_of hz, fun p hp => ?_⟩
    exact (k.mono e2).tup c2 hp rr q3) y
end
end Fsh

set_option Elab.async false
set_option linter.all false
set_option maxRecDepth 100000
set_option maxHeartbeats 2000000
namespace Fsh
open PySem PySem.Spec PyProof.Rows L2
/-! ### a def run at one given place, which may raise -/
theorem run_atX {P : Program} {w : World} {K : PySem.W.Frag} {mg : Str → Option Value} {base : Heap} {k : Nat} {x qual : Str} {st : Stmt} {f : Addr} {fd : FuncData} {N ps : List Str} {A : Around} {outer : List PySem.Env} {s : Shared} {H : Hp} {args : Args} {us : List Value} {vs : List V} {Q : VK} {E : XK}
    (F1 : Fun K x qual st f fd) (S : FnScope N ps (defScope st)) (hlen : vs.length = ps.length) (room : Room (k + 1) A) (en : Env0 P w K mg base A outer s H) (bd : BindsTo s fd args (ps.zip us)) (rel : Vals vs us)
    (body : ∀ cdv : Value, ∃ t, PSs (cxOf (L2N.CX P w) P w K mg base N qual (defScope st) f cdv A outer s H E) (defBody st) t ∧ t { nx := fun _ H' => Q .non H', rt := Q } (L2.start N vs) H) :
    codeAny (model P w) A (.call (.ref f) args) (CR (L2N.CX P w) outer P w H s Q E) s := by
  obtain ⟨oc, od, kV, doc, pm, an, cdv, ct, osl, rfl, look, code⟩ := F1.ex
  have inS := en.mod.kin.keeps fun b o e => (en.bs b o e).1
  have noLim := en.mod.nolimit.keeps fun b o e => (en.bs b o e).1
  have kinds : ∀ y ∈ ps.zip us, (defScope st).names.lookup y.1 = some .local ∨ ((defScope st).names.lookup y.1 = some .cell ∧ ((cellsFrom (s.heap.objs.size + 1) (defScope st).names []).lookup y.1).isSome = true) := fun y hy => by
    obtain ⟨n, v⟩ := y
    rcases S.par n (List.of_mem_zip hy).1 with loc | cel
    · exact Or.inl loc
    · exact Or.inr ⟨cel, PySem.W.cellsFrom_some _ _ _ (Or.inl cel)⟩
  refine codeAny_call_function room.depth (inS _ _ look) rfl S.co S.gen rfl (PySem.W.codeRec_of inS code) (bd _ _ _ _ ?_)
  refine wpAny_newFunctionEnv_cells S.kind kinds fun env0 isE sA inC => ?_
  subst isE
  refine ⟨noLim.keeps inC.toInCall.keep, codeAny_func ?_⟩
  obtain ⟨t, ht, hq⟩ := body cdv
  have inv0 : Inv (cxOf (L2N.CX P w) P w K mg base N qual (defScope st) f cdv A outer s H E) [] (L2.start N vs) H sA := inv_start S room.hd en hlen rel inC
  refine wpAny_mono (ht.run [] sA (L2.start N vs) H _ inv0 hq) (fun fl sB hs => ?_) fun _ _ hs => hs
  match fl, hs with
  | .ret u, hs =>
    obtain ⟨v, σ', H', J, rv, q⟩ := hs
    exact ⟨v, H', J.os, J.bare, J.base, J.hok, rv, q⟩
  | .next, hs =>
    obtain ⟨σ', H', J, q⟩ := hs
    exact ⟨V.non, H', J.os, J.bare, J.base, J.hok, rfl, q⟩
  | .brk, hs =>
    obtain ⟨_, _, _, q⟩ := hs
    exact q.elim
  | .cont, hs =>
    obtain ⟨_, _, _, q⟩ := hs
    exact q.elim
/-! ### what a def promises that may raise -/
abbrev SpecX := List DV → Store → Pst → XPst0 → Prop
def spX (K : PySem.W.Frag) (Z : SpecX) : Sp := fun vs H Q E => ∃ F G B xs Φ Ψ, Cfg K F G B H ∧ Rvs K B vs xs ∧ Z xs G Φ Ψ ∧ Kp K F B Φ Q ∧ KpX K F B Ψ E
structure Rg (P : Program) (w : World) (K : PySem.W.Frag) (mg : Str → Option Value) (base : Heap) (k : Nat) (f : Addr) (fd : FuncData) (ps : List Str) (sp : Sp) : Prop where
  len : ∀ vs H Q E, sp vs H Q E → vs.length = ps.length
  run : ∀ (A : Around) (outer : List PySem.Env) (s : Shared) (H : Hp) (args : Args) (us : List Value) (vs : List V) (Q : VK) (E : XK), Room k A → A.guards = some [] → Env0 P w K mg base A outer s H → BindsTo s fd args (ps.zip us) → Vals vs us → sp vs H Q E →
      codeAny (model P w) A (.call (.ref f) args) (CR (L2N.CX P w) outer P w H s Q E) s
theorem Rg.mono {P : Program} {w : World} {K : PySem.W.Frag} {mg : Str → Option Value} {base : Heap} {j k : Nat} {f : Addr} {fd : FuncData} {ps : List Str} {sp : Sp} (F : Rg P w K mg base j f fd ps sp) (h : j ≤ k) : Rg P w K mg base k f fd ps sp :=
  ⟨F.len, fun A outer s H args us vs Q E hr => F.run A outer s H args us vs Q E (hr.mono h)⟩
structure Fx (P : Program) (w : World) (K : PySem.W.Frag) (mg : Str → Option Value) (base : Heap) (k : Nat) (x : Str) (ps : List Str) (Z : SpecX) : Prop where
  ex : ∃ f fd, Rg P w K mg base k f fd ps (spX K Z) ∧ mg x = some (.ref f) ∧ PySem.W.keepIn K (.ref f) = true ∧ Binds K fd ps []
theorem Fx.mono {P : Program} {w : World} {K : PySem.W.Frag} {mg : Str → Option Value} {base : Heap} {j k : Nat} {x : Str} {ps : List Str} {Z : SpecX} (F : Fx P w K mg base j x ps Z) (h : j ≤ k) : Fx P w K mg base k x ps Z := by
  obtain ⟨f, fd, r, a, b, c⟩ := F.ex
  exact ⟨f, fd, r.mono h, a, b, c⟩
/-- what is wished of a def's own exceptions -/
abbrev WE0 (E : XK) : WX := fun cls d _ H => E cls d H
theorem takes_cx {P : Program} {w : World} {K : PySem.W.Frag} {mg : Str → Option Value} {base : Heap} {N : List Str} {q : Str} {sc : Scope} {f : Addr} {cdv : Value} {A : Around} {outer : List PySem.Env} {s : Shared} {H : Hp} {E : XK} : L2N.Takes (cxOf (L2N.CX P w) P w K mg base N q sc f cdv A outer s H E) (WE0 E) :=
  L2N.takes_of rfl rfl rfl rfl
theorem fx_rule {P : Program} {w : World} {K : PySem.W.Frag} {mg : Str → Option Value} {base : Heap} {k : Nat} {x : Str} {ps : List Str} {Z : SpecX} {st : Stmt} {f : Addr} {fd : FuncData} {N : List Str} (F1 : Fun K x x st f fd) (S : FnScope N ps (defScope st)) (hb : Binds K fd ps []) (hm : mg x = some (.ref f)) (len : ∀ xs G Φ Ψ, Z xs G Φ Ψ → xs.length = ps.length)
    (body : ∀ (cdv : Value) (A : Around) (outer : List PySem.Env) (s : Shared) (H : Hp) (E : XK), Room k (A.deeper (envOfC x (defScope st) s.heap.objs.size f cdv)) → A.guards = some [] → ∀ xs G Φ Ψ, Z xs G Φ Ψ →
      Yss (cxOf (L2N.CX P w) P w K mg base N x (defScope st) f cdv A outer s H E) (WE0 E) (defBody st) (start0 N xs) G (fun _ G2 => Φ (.d .none) G2) Φ (fun cls fs _ G2 => Ψ cls fs G2)) : Fx P w K mg base (k + 1) x ps Z := by
  refine ⟨f, fd, ⟨fun vs H Q E h => ?_, fun A outer s H args us vs Q E hr hg en bd rel sp => ?_⟩, hm, F1.kp, hb⟩
  · obtain ⟨F, G, B, xs, Φ, Ψ, _, r, z, _⟩ := h
    exact r.len.trans (len xs G Φ Ψ z)
  · obtain ⟨F, G, B, xs, Φ, Ψ, c, r, z, kk, kx⟩ := sp
    refine run_atX F1 S (r.len.trans (len xs G Φ Ψ z)) hr en bd rel fun cdv => ⟨_, pss_tw, body cdv A outer s H E (hr.deeper _) hg xs G Φ Ψ z F (L2.start N vs) B H _ c (slots_start r) (fun ρ' σ' G2 B2 H2 e2 c2 s2 q => ?_) kk ?_⟩
    · exact kk .non (.d .none) G2 B2 H2 e2 c2 .rnon q
    · exact fun cls d fs ρ' σ' G2 B2 H2 e2 c2 s2 q => kx cls d fs G2 B2 H2 e2 c2 q
section
variable {X : Cx} {W : WX} {e : Expr} {es : List Expr} {ρ : Env} {G : Store} {Φ : Pst} {Ψ : XPst} {pos p : Pos} {k : Nat} {x : Str} {ps : List Str} {Z : SpecX}
theorem yp_call {Φl : List DV → Store → Prop} (Fx : Fx X.prog X.w X.K X.mg X.base k x ps Z) (hr : Room k X.A) (hg0 : X.A.guards = some []) (tk : L2N.Takes X W) (ha : Xa X (e :: es) ρ G Φl) (h : ∀ xs G', Φl xs G' → ∃ G1 G2, G' = G1 ++ G2 ∧ Z xs G2 (fun y G3 => Φ y (G1 ++ G3)) fun cls fs G3 => Ψ cls fs ρ (G1 ++ G3)) (hg : Gl X x := by rfl) (hdb : (x == ("__debug__" : Str)) = false := by decide)
    (hst : starEach (e :: es) X.env = (false, eval e X.env) :: starEach es X.env := by rfl) (hpl : (backTo pos (starEach es X.env)).any (·.1) = false := by rfl) : Yp X W (.Call (.Name x p) (e :: es) [] pos) ρ G Φ Ψ := by
  obtain ⟨f, fd, F1, hm, hk, hb⟩ := Fx.ex
  have pe : PE X (.Call (.Name x p) (e :: es) [] pos) (fun σ H Q => twA X (e :: es) σ H fun vs H1 => spX X.K Z vs H1 Q fun cls d H2 => W cls d σ H2) := by
    refine ⟨fun pins s σ H Q I hq => ?_⟩
    refine wpAny_Call_Name_kw (ld_glob I hg hm ?_ hdb)
    refine PySem.W.callWith_K (h₀ := X.base) I.ok.mod.kin hk (thn (pa_tw.run pos pins s σ H _ I hq) fun us s1 ⟨vs, H1, I1, r, q⟩ => ⟨I1.kIn, ?_⟩) hst hpl
    have hlen : (us ++ []).length = ps.length := by
      rw [List.append_nil, ← r.length]
      exact F1.len _ _ _ _ q
    have bd := hb s1 us I1.kIn hlen
    rw [List.append_nil] at bd
    refine wpAny_call (codeAny_mono (F1.run X.A X.stack s1 H1 ⟨us, []⟩ us vs Q _ hr hg0 I1.env0 bd r q) fun r s' hq => ?_)
    match r, hq with
    | .error e, hq => exact tk e s' (L2N.XE.of_call I1 (fun _ _ _ z => z) hq)
    | .ok (.ret u), hq => exact I1.after hq
    | .ok .next, hq => exact hq.elim
    | .ok .brk, hq => exact hq.elim
    | .ok .cont, hq => exact hq.elim
  refine yp_of pe fun F σ B H Q c s kk ky => ha F σ B H _ c s fun vs xs G2 B2 H2 e2 c2 r2 q => ?_
  obtain ⟨G3, G4, eG, z⟩ := h xs G2 q
  subst eG
  obtain ⟨F', c4, fr⟩ := c2.frame
  refine ⟨F', G4, B2, xs, _, _, c4, r2, z, fun v y G5 B5 H5 e5 c5 r5 q5 => kk v y _ B5 H5 (e2.trans e5) (fr G5 B5 H5 e5 c5) r5 q5, fun cls d fs G5 B5 H5 e5 c5 q5 => ?_⟩
  have c6 := fr ((d, .xd fs) :: G5) B5 H5 e5 c5
  exact ky cls d fs ρ σ (G3 ++ G5) B5 H5 (e2.trans e5) (Cfg.swap List.perm_middle c6) (s.mono (e2.trans e5)) q5
end
end Fsh

set_option Elab.async false
set_option linter.all false
set_option maxRecDepth 100000
set_option maxHeartbeats 2000000
namespace Fsh
open PySem PySem.Spec PyProof.Rows L2
theorem guards_make {A : Around} {C : Addr} {us : List Value} {kw : List (Str × Value)} (h : A.guards = some []) : (A.under (.builtin "type.__call__" ⟨.ref C :: us, kw⟩)).guards = some [] := by
  first
  | exact h
  | (unfold Around.under; simpa using h)
section
variable {X : Cx} {e : Expr} {es : List Expr} {ta : TA} {p pos : Pos} {C fI : Addr} {k : Nat} {fd : FuncData} {ps : List Str} {sp : Sp} {x : Str}
/-- C(e, ..), C an own exception class with its own __init__ -/
theorem pmk_own (T : OexC X.K C) (iC : PySem.W.findIn X.K (.ref C) "__init__" = some (some (.ref fI))) (tI : PySem.W.typeIn X.K (.ref fI) = some (.type "function")) (F1 : Rg X.prog X.w X.K X.mg X.base k fI fd ps sp) (hg0 : X.A.guards = some []) (room : Room (k + 1) X.A) (hb : Binds X.K fd ps [])
    (hg : Gl X x) (hm : X.mg x = some (.ref C)) (ha : PA X (e :: es) ta) (hdb : (x == ("__debug__" : Str)) = false := by decide) (he : starEach (e :: es) X.env = (false, eval e X.env) :: starEach es X.env := by rfl) (hpl : (backTo pos (starEach es X.env)).any (·.1) = false := by rfl) :
    L2N.PMk X (.Call (.Name x p) (e :: es) [] pos) (tMkO C sp [] ta) := by
  intro pins s σ H Q I h
  obtain ⟨nm, q, N, bs, bm, sn, sub, ab, col, dd, k0, k1, k2, k3, k5, isC, isB⟩ := T.cls
  refine wpAny_Call_Name_kw (ld_glob I hg hm ?_ hdb)
  refine PySem.W.callWith_K (h₀ := X.base) I.ok.mod.kin T.kC (thn (ha.run pos pins s σ H _ I h) fun us s1 hq1 => ?_) he hpl
  obtain ⟨vs, H1, I1, r1, small, q1⟩ := hq1
  refine ⟨I1.kIn, ?_⟩
  show wpAny _ _ (call (.ref C) us) _ _ _
  obtain ⟨h1, g1, dr1, tk1, os1⟩ := s1
  have above : h1.objs.size ≤ h1.objs.size + 1 := Nat.le_succ _
  have hq := q1 (h1.objs.size + 1) (I1.hok.fresh above)
  rw [List.append_nil] at hq
  have there : ∀ b o, h1.get? b = some o → ((h1.push (PySem.W.kdv_tup us)).push (PySem.HandSPX.excO C h1.objs.size)).get? b = some o := fun b o z => Heap.get?_push_of_some _ (Heap.get?_push_of_some _ z)
  have isX : ((h1.push (PySem.W.kdv_tup us)).push (PySem.HandSPX.excO C h1.objs.size)).get? (h1.objs.size + 1) = some (PySem.HandSPX.excO C h1.objs.size) := by heap_get
  have I2 : Inv X pins σ (upd H1 (h1.objs.size + 1) (exo (h1.objs.size + 1) C none)) ⟨(h1.push (PySem.W.kdv_tup us)).push (PySem.HandSPX.excO C h1.objs.size), g1, dr1, tk1, os1⟩ :=
    I1.laid (t' := tk1) there above (exo_ok isX)
  have rel2 : Vals (V.ref (h1.objs.size + 1) :: vs) (Value.ref (h1.objs.size + 1) :: us) := .cons rfl r1
  have sameLen : (Value.ref (h1.objs.size + 1) :: us).length = ps.length := rel2.length.symm.trans (F1.len _ _ _ _ hq)
  have fits : us.length ≤ sizeLine := by
    have z := Paired.length r1
    rw [sizeLine_eq]
    omega
  have bd := hb _ (Value.ref (h1.objs.size + 1) :: us) I2.kIn (by rw [List.append_nil]; exact sameLen)
  rw [List.append_nil] at bd
  refine wpAny_call (PySem.HandSPX.call_own F.excBase_ValueError (fun Y => PySem.HandSPX.refsVE_contains Y bm isB) (I1.kIn _ _ isC) (PySem.W.looks_findIn I1.kIn iC) (fun self => PySem.W.bind_fn I1.kIn self tI) fits ?_)
  refine codeAny_mono (F1.run _ X.stack _ _ ⟨Value.ref (h1.objs.size + 1) :: us, []⟩ _ _ _ (fun _ _ _ => False) (room.make C us []) (guards_make hg0) (I2.env0.make C us []) bd rel2 hq) fun r s' ends => ?_
  match r, ends with
  | .error er, ends =>
    obtain ⟨_, _, _, _, _, _, _, _, _, _, _, _, z⟩ := ends
    exact z.elim
  | .ok .next, ends => exact ends.elim
  | .ok .brk, ends => exact ends.elim
  | .ok .cont, ends => exact ends.elim
  | .ok (.ret u), ends =>
    obtain ⟨v, H2, osE, bareE, unE, hokE, rv, ev, d, fs, ea, ed, newD, q2⟩ := ends
    subst ev
    obtain ⟨h2, g2, d2, t2, os2⟩ := s'
    obtain ⟨t0, Gh, J, kG, goneG, isE, na⟩ := mk_end0 (d2 := d2) (t2 := t2) I1 above there unE hokE osE bareE ea ed newD
    refine ⟨rv, h1.objs.size + 1, _, _, ⟨Gh, g2, d2, t2, os2⟩, _, .ref C, some d, rfl, J, kG, goneG, isE, ⟨rfl, rfl, fun vs hv => ?_⟩, rfl, rfl, na, rfl, bareE, raises_own T.exC T.tyC, q2⟩
    cases hv
    rfl
end
/-! ### an __init__ of two rows: Base.__init__(self, f'..'), self.f = x -/
/-- what such an __init__ keeps: the fields are stored -/
def spI (K : PySem.W.Frag) (f : Str) : Sp := fun vs H Q _ => ∃ (a C : Addr) (v : V) (d : PyData), vs = [.ref a, v] ∧ OexC K C ∧ PySem.W.findIn K (.ref C) f = some none ∧ H a = some (exo a C none) ∧ Dp K H v d ∧ FmtOk d ∧
  ∀ dx, H dx = none → dx ≠ a → Q .non (upd (upd H dx (exd dx [(f, v)])) a (exo a C (some dx)))
section
variable {X : Cx} {pl : Sem Bool} {B f : Str} {D : Addr} {m0 : Str} {j0 : Nat} {p1 p2 p3 p4 p5 p6 p7 p8 p9 q1 q2 q3 q4 : Pos}
theorem init_body {a C : Addr} {v : V} {d : PyData} {H : Hp} {Q : VK} (hg : X.A.guards = some []) (hu : X.A.units + 200 < cLine) (hB : Gl X B) (hm : X.mg B = some (.ref D)) (b : BaseI X.K D) (hs : X.N[0]? = some (Str.ofString "self")) (hf : X.N[1]? = some f) (vs : Vis X.env.scope (Str.ofString "self")) (vf : Vis X.env.scope f)
    (df : (f == ("__debug__" : Str)) = false) (cf : (f == ("__classdict__" : Str)) = false) (dB : (B == ("__debug__" : Str)) = false) (lm : m0.length ≤ 50)
    (T : OexC X.K C) (hno : PySem.W.findIn X.K (.ref C) f = some none) (e : H a = some (exo a C none)) (dp : Dp X.K H v d) (ok : FmtOk d) (q : ∀ dx, H dx = none → dx ≠ a → Q .non (upd (upd H dx (exd dx [(f, v)])) a (exo a C (some dx))))
    (hc : eval (.Call (.Attribute (.Name B p1) "__init__" p2) [.Name "self" p3, .JoinedStr [.Constant (.str m0) j0 p4, .FormattedValue (.Name f p5) (-1) none p6] p7] [] p8) X.env = (do
      let cv ← eval (.Name B p1) X.env
      standAt p2.atName
      let (m, self) ← holding [cv] (getMethod cv "__init__" pl)
      callWith p8 m self (backTo p8 (starEach [.Name "self" p3, .JoinedStr [.Constant (.str m0) j0 p4, .FormattedValue (.Name f p5) (-1) none p6] p7] X.env)) (backToKw p8 (keywordEach [] X.env))) := by rfl)
    (h1 : starEach [.Name "self" p3, .JoinedStr [.Constant (.str m0) j0 p4, .FormattedValue (.Name f p5) (-1) none p6] p7] X.env = (false, eval (.Name "self" p3) X.env) :: starEach [.JoinedStr [.Constant (.str m0) j0 p4, .FormattedValue (.Name f p5) (-1) none p6] p7] X.env := by rfl)
    (h2 : starEach [.JoinedStr [.Constant (.str m0) j0 p4, .FormattedValue (.Name f p5) (-1) none p6] p7] X.env = (false, eval (.JoinedStr [.Constant (.str m0) j0 p4, .FormattedValue (.Name f p5) (-1) none p6] p7) X.env) :: starEach [] X.env := by rfl)
    (h3 : (backTo p8 (starEach [.JoinedStr [.Constant (.str m0) j0 p4, .FormattedValue (.Name f p5) (-1) none p6] p7] X.env)).any (·.1) = false := by rfl)
    (s1 : swapsWith (.Call (.Attribute (.Name B p1) "__init__" p2) [.Name "self" p3, .JoinedStr [.Constant (.str m0) j0 p4, .FormattedValue (.Name f p5) (-1) none p6] p7] [] p8) none p9.line X.env = pure false := by rfl)
    (s2 : swapsWith (.Name f q3) (some (.Attribute (.Name "self" q1) f q2)) q4.line X.env = pure false := by rfl) :
    ∃ t, PSs X [.Expr (.Call (.Attribute (.Name B p1) "__init__" p2) [.Name "self" p3, .JoinedStr [.Constant (.str m0) j0 p4, .FormattedValue (.Name f p5) (-1) none p6] p7] [] p8) p9, .Assign [.Attribute (.Name "self" q1) f q2] (.Name f q3) q4] t ∧
      t { nx := fun _ H' => Q .non H', rt := Q } [some (.ref a), some v] H := by
  refine ⟨_, pss_cons (ps_expr (pe_baseinit hB hm b (pa_cons (pe_var hs vs) (pa_cons (pe_joined (.cons pe_str (.cons (pe_fmtA hg hu (pe_var hf vf df cf)) .nil))) pa_nil h2) h1) dB hc h1 h3) s1) (pss_one (ps_ost (pe_var hs vs) (pe_var hf vf df cf) s2)), ?_⟩
  have big : 200 ≤ sizeLine := by rw [sizeLine_eq]; omega
  refine ⟨.ref a, rfl, ⟨m0, rfl, ?_, ⟨v, rfl, d, dp, ok, fun y hy => ⟨y, rfl, ?_, ?_⟩⟩⟩⟩
  · have : (Str.empty ++ m0).length = m0.length := by rw [strLen_append]; exact Nat.zero_add _
    omega
  · have : (Str.empty ++ m0 ++ y).length = m0.length + y.length := by rw [strLen_append, strLen_append]; exact congrArg (· + y.length) (Nat.zero_add _)
    omega
  · refine ⟨a, C, _, rfl, by show (1 : Nat) ≤ 1000; decide, T, e, ?_⟩
    refine ⟨v, rfl, .ref a, rfl, a, C, rfl, T, hno, .inl ⟨e, fun dx n ne => q dx n ne⟩⟩
end
end Fsh

set_option Elab.async false
set_option linter.all false
set_option maxRecDepth 100000
set_option maxHeartbeats 2000000
namespace Fsh
open PySem PySem.Spec PyProof.Rows L2
/-- the exception class x at C, of one field -/
structure Xc (P : Program) (w : World) (K : PySem.W.Frag) (mg : Str → Option Value) (base : Heap) (k : Nat) (x : Str) (C : Addr) (f : Str) : Prop where
  ox : OexC K C
  at_ : mg x = some (.ref C)
  no : PySem.W.findIn K (.ref C) f = some none
  ini : ∃ fI fd, PySem.W.findIn K (.ref C) "__init__" = some (some (.ref fI)) ∧ PySem.W.typeIn K (.ref fI) = some (.type "function") ∧ Binds K fd [Str.ofString "self", f] [] ∧ Rg P w K mg base k fI fd [Str.ofString "self", f] (spI K f)
theorem rg_init {P : Program} {w : World} {K : PySem.W.Frag} {mg : Str → Option Value} {base : Heap} {k : Nat} {x qual f : Str} {st : Stmt} {fI : Addr} {fd : FuncData} {N : List Str} (F1 : Fun K x qual st fI fd) (S : FnScope N [Str.ofString "self", f] (defScope st)) (hN : N = [Str.ofString "self", f])
    (body : ∀ (cdv : Value) (A : Around) (outer : List PySem.Env) (s : Shared) (H : Hp) (E : XK), Room k (A.deeper (envOfC qual (defScope st) s.heap.objs.size fI cdv)) → A.guards = some [] → ∀ (a C : Addr) (v : V) (d : PyData) (Q : VK), OexC K C → PySem.W.findIn K (.ref C) f = some none → H a = some (exo a C none) → Dp K H v d → FmtOk d →
      (∀ dx, H dx = none → dx ≠ a → Q .non (upd (upd H dx (exd dx [(f, v)])) a (exo a C (some dx)))) → ∃ t, PSs (cxOf (L2N.CX P w) P w K mg base N qual (defScope st) fI cdv A outer s H E) (defBody st) t ∧ t { nx := fun _ H' => Q .non H', rt := Q } [some (.ref a), some v] H) :
    Rg P w K mg base (k + 1) fI fd [Str.ofString "self", f] (spI K f) := by
  refine ⟨fun vs H Q E h => ?_, fun A outer s H args us vs Q E hr hg en bd rel sp => ?_⟩
  · obtain ⟨a, C, v, d, e, _⟩ := h
    rw [e]
    rfl
  · obtain ⟨a, C, v, d, e, T, no, ea, dp, ok, q⟩ := sp
    subst e
    refine run_atX F1 S rfl hr en bd rel fun cdv => ?_
    obtain ⟨t, h1, h2⟩ := body cdv A outer s H E (hr.deeper _) hg a C v d Q T no ea dp ok q
    refine ⟨t, h1, ?_⟩
    have e2 : L2.start N [V.ref a, v] = [some (.ref a), some v] := by
      subst hN
      rfl
    rw [e2]
    exact h2
theorem raised_heap {H1 : Hp} {a C dx : Addr} {f : Str} {v : V} (ha : H1 a = none) (hd : dx ≠ a) : upd (L2.del (upd (upd (upd H1 a (exo a C none)) dx (exd dx [(f, v)])) a (exo a C (some dx))) a) dx (.xd [(f, v)]) = upd H1 dx (.xd [(f, v)]) := by
  funext b
  by_cases e1 : b = dx
  · subst e1
    rw [upd_same, upd_same]
  · rw [upd_ne e1, upd_ne e1]
    by_cases e2 : b = a
    · subst e2
      rw [L2.del_same, ha]
    · rw [L2.del_ne e2, upd_ne e2, upd_ne e1, upd_ne e2]
section
variable {X : Cx} {W : WX} {e : Expr} {ρ : Env} {G : Store} {Φ : Pst} {Ψ : XPst} {pos p p2 : Pos} {k : Nat} {x f : Str} {C : Addr} {N : Env → Store → Prop} {y : PyData}
theorem ys_raise (c : Xc X.prog X.w X.K X.mg X.base k x C f) (room : Room (k + 1) X.A) (hg0 : X.A.guards = some []) (tk : L2N.Takes X W) (hx : Xd X e ρ (.d y)) (ok : FmtOk y) (q : Ψ (.ref C) [(f, .d y)] ρ G) (hc : X.calm = true := by rfl) (hg : Gl X x := by rfl) (hdb : (x == ("__debug__" : Str)) = false := by decide)
    (he : starEach [e] X.env = (false, eval e X.env) :: starEach [] X.env := by rfl) (hpl : (backTo pos (starEach [] X.env)).any (·.1) = false := by rfl) : Ys X W (.Raise (some (.Call (.Name x p) [e] [] pos)) none p2) ρ G N Φ Ψ := by
  obtain ⟨fI, fd, i1, i2, i3, i4⟩ := c.ini
  refine ys_of (L2N.ps_raise hc tk (pmk_own c.ox i1 i2 i4 hg0 room i3 hg c.at_ pa_tw hdb he hpl)) fun F σ B H D cf s n kk ky => ?_
  refine (xad_cons hx xa_nil he) G F σ B H _ cf s fun vs xs G2 B2 H2 e2 c2 r2 q2 => ?_
  rw [q2.1] at r2
  rw [q2.2] at c2
  obtain ⟨v, ev, hv⟩ := r2.one
  subst ev
  refine ⟨by show (1 : Nat) ≤ 1000; decide, fun a na => ?_⟩
  have eA : Ex B2 (upd H2 a (exo a C none)) := Ex.out c2.ex (Ex.free c2.ex na) _
  refine ⟨a, C, v, y, rfl, c.ox, c.no, upd_same, (Rp.mono eA hv).dp, ok, fun dx nd ne => ⟨rfl, dx, [(f, v)], upd_same, ?_, ?_, ?_⟩⟩
  · rw [upd_ne ne, upd_same]
  · rw [upd_ne ne] at nd
    exact nd
  · rw [upd_ne ne] at nd
    rw [raised_heap na ne]
    exact ky (.ref C) dx [(f, .d y)] ρ σ G B2 _ e2 (c2.cell (x := .xd [(f, .d y)]) nd ⟨_, upd_same, .cons hv .nil⟩) (s.mono e2) q
end
end Fsh

set_option Elab.async false
set_option linter.all false
set_option maxRecDepth 100000
set_option maxHeartbeats 2000000
namespace Fsh
open PySem PySem.Spec PyProof.Rows L2
/-! ### isinstance and the fields of the exception that is handled, wherever it is held -/
/-- what the class at D says, so that isinstance asks its instances as it should -/
structure ExcK (K : PySem.W.Frag) (D : Addr) : Prop where
  cl : (PySem.W.clsIn K D).isSome = true
  ga : PySem.W.findIn K (.ref D) "__getattribute__" = some (some (.builtin "BaseException.__getattribute__"))
  gt : PySem.W.findIn K (.ref D) "__getattr__" = some none
  sub : PySem.W.subIn K (.ref D) (.type "BaseException") = some true
  cls : PySem.W.findIn K (.ref D) "__class__" = some (some (.builtin "object.__class__"))
  get : PySem.W.specialIn K (.builtin "object.__class__") "__get__" = some (some (.builtin "getset_descriptor.__get__"))
  tak : PySem.W.takesIn K (.builtin "object.__class__") = some true
  mro : PySem.W.mroIn K D (.type "object") = some true
  hdi : PySem.W.hasDictIn K D = true
/-- the exception e at a of the class at D, its dict at dd -/
structure Held (X : Cx) (a D dd : Addr) (oe : Obj) : Prop where
  pn : (a, oe) ∈ X.pn
  cls : oe.cls = .ref D
  dict : oe.dict = some dd
  data : ∃ vs, oe.data = .fields vs
section
variable {X : Cx} {a D dd : Addr} {oe : Obj}
theorem Held.inst {pins : List (Addr × Obj)} {σ : L2.St} {H : Hp} {s : Shared} {ws : List (Str × V)} (h : Held X a D dd oe) (I : Inv X pins σ H s) (hd : H dd = some (.xd ws)) :
    ∃ (od : Obj) (mA : Str → Option Value), PySem.W.InstAt s.heap a oe D (some od) ∧ (∀ f, RelO (ws.lookup f) (mA f)) ∧ ∀ f, PySem.W.lookIn f od = some (mA f) := by
  have hx : ObjOk X.prog X.w H s.heap dd (.xd ws) := I.hok dd _ hd
  obtain ⟨mA, hns, hr⟩ := hx
  obtain ⟨od, ho, hl⟩ := lookIn_ns hns
  obtain ⟨vs, hv⟩ := h.data
  obtain ⟨ha, _⟩ := I.pin (a, oe) (List.mem_append_left _ h.pn)
  exact ⟨od, mA, ⟨ha, h.cls, by unfold PySem.W.notCls; rw [hv] <;> rfl, by rw [h.dict]; exact ho⟩, hr, hl⟩
theorem cr_isx (h : Held X a D dd oe) (k : ExcK X.K D) : CallR X (.builtin "isinstance") (fun xs H Q => ∃ (c : V) (cv : Value) (b : Bool) (ws : List (Str × V)), xs = [.ref a, c] ∧ (∀ u, RelV c u → u = cv) ∧ PySem.W.kitOne X.K (.ref D) cv = some b ∧ H dd = some (.xd ws) ∧ Q (.bl b) H) := by
  intro pins s σ H xs us Q I r hq
  obtain ⟨c, cv, b, ws, e1, e2, e3, e4, q⟩ := hq
  subst e1
  match r with
  | .cons rx (.cons rt .nil) =>
    obtain rfl : _ = Value.ref a := rx
    obtain rfl := e2 _ rt
    obtain ⟨od, mA, J, _⟩ := h.inst I e4
    exact PySem.W.kia_one (PySem.W.kitx_exc k.cl k.ga k.gt k.sub k.cls k.get k.tak k.mro) I.kIn J e3 (fun z => nomatch z) fun tk => ⟨.bl b, H, I.kept (t' := tk) fun _ _ z => z, rfl, q⟩
/-- e.f -/
def tFld (a dd : Addr) (f : Str) (te : TE) : TE := fun σ H Q => te σ H fun x H1 => x = .ref a ∧ ∃ (ws : List (Str × V)) (v : V), H1 dd = some (.xd ws) ∧ ws.lookup f = some v ∧ Q v H1
theorem pe_fld {e : Expr} {te : TE} {pos : Pos} {f : Str} (h : Held X a D dd oe) (k : ExcK X.K D) (no : PySem.W.findIn X.K (.ref D) f = some none) (he : PE X e te) (hb : attributeBase e f X.env (eval e X.env) = eval e X.env := by rfl) : PE X (.Attribute e f pos) (tFld a dd f te) := by
  refine ⟨fun pins s σ H Q I hq => attr_of hb (thn (he.run pins s σ H _ I hq) fun u s1 z => ?_)⟩
  obtain ⟨x, H1, I1, rx, ex, ws, v, ed, l, q⟩ := z
  subst ex
  obtain rfl : u = Value.ref a := rx
  obtain ⟨od, mA, J, hr, hl⟩ := h.inst I1 ed
  obtain ⟨u2, hu, ru⟩ := RelO.some_of (v := v) (o := mA f) (by rw [← l]; exact hr f)
  exact HandSPX.exc_get I1.kIn J k.ga k.gt k.sub (PySem.W.findObj_own k.hdi no rfl (by rw [hl, hu])) (handed_of ru) ⟨v, H1, I1.tok _, ru, q⟩
end
end Fsh

set_option Elab.async false
set_option linter.all false
set_option maxRecDepth 100000
set_option maxHeartbeats 2000000
namespace Fsh
open PySem PySem.Spec PyProof.Rows L2
/-! ### [elt for x in range(e) if ..] while an exception is handled -/
theorem lc_hot {X : Cx} {ph : Addr × Obj} {pins : List (Addr × Obj)} {s : Shared} {σ : L2.St} {H : Hp} {Q : VK} {use : Option (Value → Sem Unit)} {Qf : Value → Shared → Prop} {elt tg a : Expr} {ifs : List Expr} {scope : Scope} {own : List (Str × Nat)} {p1 p2 pos pos' : Pos} {ta : TA} {g : TG} {tt : TT} {te : TE} (hot : L2H.Hot1 X.A ph) (inPn : ph ∈ X.pn) (hN : X.N.Nodup) (hgl : Gl X "range") (hm : X.mg "range" = none) (ha : PA X [a] ta) (ok : BlkOk X.N X.env.scope scope own)
    (hg : ∀ (z : Shared) (H : Hp) (C : Addr) (cl : List (Str × Addr)) (fp : List Addr), PG (X.blk z H scope (compEnvC scope cl C X.env) fp) tg g) (ht : ∀ (z : Shared) (H : Hp) (C : Addr) (cl : List (Str × Addr)) (fp : List Addr), PTs (X.blk z H scope (compEnvC scope cl C X.env) fp) ifs tt)
    (he : ∀ (s : Shared) (H : Hp) (C : Addr) (cl : List (Str × Addr)) (fp : List Addr), PE (X.blk s H scope (compEnvC scope cl C X.env) fp) elt te) (hst : starEach [a] X.env = [(false, eval a X.env)]) (hs : ∀ x, foldedSetIterable (.Call (.Name "range" p1) [a] [] p2) X.env x = pure x)
    (hgo : ∀ (M : Model) (A : Around) (E : Value → Shared → Prop) (z : Shared) (i : Addr) (u : Value) (Q : Unit → Shared → Prop), (∃ o vs, z.heap.get? i = some o ∧ o.cls = .type "range_iterator" ∧ o.data = .fields vs) → Q () z → wpAny M A (letOwnedTupleGo tg (.ref i) u) Q E z)
    (I : Inv X pins σ H s) (wish : tLc (iRng1 ta) g tt te (own.map (·.2)) σ H Q)
    (ends : ∀ L C s' m H', Inv X pins σ H' s' → Q (.ref L) H' → s'.heap.Ns C m → FpOk X pins H' C → compPost (model X.prog X.w) X.A X.xe use Qf (.ref L) C (.ok .next) s') :
    wpAny (model X.prog X.w) X.A (comprehension (.ListComp elt [⟨tg, .Call (.Name "range" p1) [a] [] p2, ifs, 0⟩] scope pos) scope X.env pos' (newList []) false (eval (.Call (.Name "range" p1) [a] [] p2) X.env) use) Qf X.xe s := by
  have caught : ∀ y ∈ scope.names, y.2 = .free → ∃ c, X.env.cells.lookup y.1 = some c := fun y hy fr => (ok.free y hy fr).elim (fun z => I.ok.has _ (Or.inl z)) fun z => I.ok.has _ (Or.inr z)
  refine wpAny_comprehension_free (use := use) rfl hs (closure_ok caught) ok.kind (fun y hy loc => by rw [ok.uniq y hy, loc]) ?_
  refine Call_ (ld_blt I hgl hm boot_range (PyProof.Rows.callWith_type1 (thn (ha.run p2 pins s σ H _ I wish) fun us s1 got => ?_) hst rfl))
  obtain ⟨vs, H1, I1, r1, n, ev, low, high, wish⟩ := got
  subst ev
  match r1 with
  | .cons rn .nil =>
    obtain ⟨tk, rfl⟩ := rn
    refine call_range_1 (wpAny_pyIter_range (IsRange.new ..) (small_one (by omega) (by omega) low high) ?_)
    generalize hA : ({ s1 with heap := (s1.heap.push { cls := .type "range", data := .fields #[.int 0 s1.toks, .int n tk, .int 1 (s1.toks + 1)] }).push { cls := .type "range_iterator", data := .fields #[rawInt 0, rawInt (Builtin.Range.rangeSize 0 n 1), rawInt 1] }, toks := s1.toks + 1 + 1 } : Shared) = sA
    generalize hIt : (s1.heap.push { cls := .type "range", data := .fields #[.int 0 s1.toks, .int n tk, .int 1 (s1.toks + 1)] }).objs.size = it
    have keepA : ∀ b o, s1.heap.get? b = some o → sA.heap.get? b = some o := fun b o z => by
      rw [← hA]
      exact Heap.get?_push_of_some _ (Heap.get?_push_of_some _ z)
    have IA : Inv X pins σ H1 sA := by
      rw [← hA]
      exact I1.kept fun b o z => Heap.get?_push_of_some _ (Heap.get?_push_of_some _ z)
    have s1it : s1.heap.objs.size ≤ it := by
      rw [← hIt, Heap.size_push]
      exact Nat.le_succ _
    have isIt : IsRangeIter sA.heap it ((0 : Int) + ((0 : Nat) : Int) * 1) ((n.toNat : Int) - ((0 : Nat) : Int)) 1 := by
      have e1 : (0 : Int) + ((0 : Nat) : Int) * 1 = 0 := by omega
      have e2 : (n.toNat : Int) - ((0 : Nat) : Int) = Builtin.Range.rangeSize 0 n 1 := by
        rw [rangeSize_one]
        split <;> omega
      rw [e1, e2, ← hA, ← hIt]
      exact Heap.get?_push_size _ rfl
    have okIt : FpOk X pins H1 it := I1.fpOk s1it (I1.hok.fresh s1it)
    have itLt : it < sA.heap.objs.size := by
      rw [← hA, ← hIt]
      show (Heap.push _ _).objs.size < (Heap.push (Heap.push _ _) _).objs.size
      exact Nat.lt_of_lt_of_eq (Nat.lt_succ_self _) (Heap.size_push _ _).symm
    refine wpAny_newObj_type (newEnv_comp ?_) (by show 0 ≤ sizeLine; decide)
    generalize hL : sA.heap.objs.size = L
    have freshL : H1 L = none := IA.hok.fresh (Nat.le_of_eq hL)
    obtain ⟨W, ⟨m0, w0⟩, turn⟩ := wish L freshL
    generalize hB : ({ sA with heap := sA.heap.push { cls := .type "list", data := .seq ([] : List Value).toArray } } : Shared) = sB
    have heapB : sB.heap = sA.heap.push { cls := .type "list", data := .seq ([] : List Value).toArray } := by rw [← hB]
    have IB : Inv X pins σ (upd H1 L (.lst [])) sB := by
      rw [← hB]
      refine IA.laid (t' := sA.toks) (fun b o z => Heap.get?_push_of_some _ z) (Nat.le_of_eq hL) ⟨Nat.zero_le _, [], 0, .nil, ?_⟩
      rw [← hL]
      exact Heap.get?_push_size _ rfl
    have itL : it ≠ L := by
      rw [← hL]
      exact Nat.ne_of_lt itLt
    have okB : FpOk X pins (upd H1 L (.lst [])) it := ⟨by rw [upd_ne itL]; exact okIt.1, okIt.2⟩
    have fpB : ∀ b ∈ [it], FpOk X pins (upd H1 L (.lst [])) b ∧ b < sB.heap.objs.size := fun b hb => by
      have e : b = it := by simpa using hb
      subst e
      refine ⟨okB, ?_⟩
      rw [heapB, Heap.size_push]
      exact Nat.lt_succ_of_lt itLt
    have itB : IsRangeIter sB.heap it ((0 : Int) + ((0 : Nat) : Int) * 1) ((n.toNat : Int) - ((0 : Nat) : Int)) 1 := by
      rw [heapB]
      exact Heap.get?_push_of_some _ isIt
    have IC0 := block_start IB ok hN fpB
    have pg := hg sB (upd H1 L (.lst [])) sB.heap.objs.size (cellsFrom (sB.heap.objs.size + 1) scope.names (cloFrom X.env.cells scope.names [])) [it]
    have pt := ht sB (upd H1 L (.lst [])) sB.heap.objs.size (cellsFrom (sB.heap.objs.size + 1) scope.names (cloFrom X.env.cells scope.names [])) [it]
    have pe := he sB (upd H1 L (.lst [])) sB.heap.objs.size (cellsFrom (sB.heap.objs.size + 1) scope.names (cloFrom X.env.cells scope.names [])) [it]
    show codeAny _ _ (.compStart (.ListComp elt [⟨tg, .Call (.Name "range" p1) [a] [] p2, ifs, 0⟩] scope pos) 0 (.ref it) (.ref L) (compEnvC scope (cellsFrom (sB.heap.objs.size + 1) scope.names (cloFrom X.env.cells scope.names [])) sB.heap.objs.size X.env))
      (compPost (model X.prog X.w) X.A X.xe use Qf (.ref L) sB.heap.objs.size) { sB with heap := pushCells (sB.heap.push { cls := .type "dict", data := .dict #[] }) scope.names }
    have P0 := IB.pin ph (List.mem_append_left _ inPn)
    have phLt : ph.1 < sB.heap.objs.size := Heap.lt_size P0.1
    have phStack : ph.1 ∉ frs X.stack := fun z => (List.mem_cons.mp (IB.stkSub ph.1 z)).elim P0.2.2.1 P0.2.2.2.1
    have phIt : ph.1 ≠ it := okB.2.2.2.2.2 ph (List.mem_append_left _ inPn)
    generalize hE : compEnvC scope (cellsFrom (sB.heap.objs.size + 1) scope.names (cloFrom X.env.cells scope.names [])) sB.heap.objs.size X.env = ev at IC0 pg pt pe ⊢
    have evL : ev.locals = sB.heap.objs.size := by
      subst hE
      rfl
    generalize hH : upd H1 L (.lst []) = HB at IB IC0 pg pt pe w0 okB P0 fpB
    generalize hC : ({ sB with heap := pushCells (sB.heap.push { cls := .type "dict", data := .dict #[] }) scope.names } : Shared) = sC at IC0 ⊢
    have keepC : ∀ b o, sB.heap.get? b = some o → sC.heap.get? b = some o := fun b o z => by
      rw [← hC]
      exact pushCells_keeps _ _ _ _ (Heap.get?_push_of_some _ z)
    have IC : Inv (X.blk sB HB scope ev [it]) [ph] (wipe σ (own.map (·.2))) HB sC := IC0.pins_of fun q hq => by
      have e : q = ph := by simpa using hq
      subst e
      refine ⟨keepC _ _ P0.1, P0.2.1, ?_, phStack, P0.2.2.2.2⟩
      show q.1 ≠ ev.locals
      rw [evL]
      exact Nat.ne_of_lt phLt
    -- what stays of the iterator in the block
    have stat : ∀ {τ : L2.St} {HH : Hp} {z : Shared}, Inv (X.blk sB HB scope ev [it]) [ph] τ HH z → HH it = none → FpOk (X.blk sB HB scope ev [it]) [ph] HH it := fun {τ HH z} J nit =>
      ⟨nit, (J.ok.exf it List.mem_cons_self).1, J.ok.exfs it List.mem_cons_self, .inl List.mem_cons_self, fun y c e => (J.ok.exf it List.mem_cons_self).2 y c e, fun q hq => by
        have e : q = ph := by simpa using (show q ∈ ([] : List (Addr × Obj)) ++ [ph] from hq)
        subst e
        exact phIt⟩
    have loop : codeAny (model X.prog X.w) X.A (.compLoop (.ListComp elt [⟨tg, .Call (.Name "range" p1) [a] [] p2, ifs, 0⟩] scope pos) 0 (.ref it) (.ref L) ev) (compPost (model X.prog X.w) X.A X.xe use Qf (.ref L) sB.heap.objs.size) sC := by
      refine compLoop_any (fun m z => ∃ (i : Nat) (HH : Hp), Inv (X.blk sB HB scope ev [it]) [ph] (wipe σ (own.map (·.2))) HH z ∧ IsRangeIter z.heap it ((0 : Int) + (i : Int) * 1) ((n.toNat : Int) - (i : Int)) 1 ∧ HH it = none ∧ W i m HH) ?_ m0 ⟨0, HB, IC, keepC _ _ itB, okB.1, w0⟩
      intro m z5 hyp
      obtain ⟨i, H5, I5, t5, n5, w5⟩ := hyp
      obtain ⟨_, f1, _, f3, f4, f5⟩ := stat I5 n5
      rcases turn i m H5 w5 with ⟨stop, wished⟩ | ⟨go, Nx, hNx, step⟩
      · have hotAt : HotX.HotAt X.A ph.1 z5.heap := by
          obtain ⟨e1, v1, e2, e3⟩ := hot
          exact ⟨e1, ph.2, v1, (I5.pin ph (List.mem_append_right _ List.mem_cons_self)).1, e2, e3⟩
        have nle : n.toNat ≤ i := stop
        refine HotX.pyNext_range_end_hot hotAt t5 (by omega) fun h' kp => ?_
        have I6 : Inv (X.blk sB HB scope ev [it]) [ph] (wipe σ (own.map (·.2))) H5 { z5 with heap := h' } := I5.turned (t' := z5.toks) (fun b o _ e => kp b o e) n5 f1 f3 f4 f5
        have I7 : Inv X pins σ H5 { z5 with heap := h' } := IB.call' (ch := [it]) I6.os I6.base I6.hok I6.bare fun b hb => by
          have e : b = it := by simpa using hb
          subst e
          exact ⟨okB.2.2.2.1, okB.2.1, okB.2.2.2.2.1, okB.2.2.2.2.2⟩
        have freeE : H5 sB.heap.objs.size = none := by
          have w : H5 ev.locals = none := I6.free
          rw [evL] at w
          exact w
        obtain ⟨mp, hn, _⟩ := I6.loc
        have hn : ({ z5 with heap := h' } : Shared).heap.Ns ev.locals mp := hn
        rw [evL] at hn
        exact ends L sB.heap.objs.size _ mp H5 I7 wished hn (IB.fpOk (Nat.le_refl _) freeE)
      · have ilt : i < n.toNat := go
        refine wpAny_pyNext_range_item t5 (by omega) fun h' nx' sb => ?_
        have t6 : IsRangeIter h' it ((0 : Int) + ((i + 1 : Nat) : Int) * 1) ((n.toNat : Int) - ((i + 1 : Nat) : Int)) 1 := by
          have e1 : (0 : Int) + (i : Int) * 1 + 1 = (0 : Int) + ((i + 1 : Nat) : Int) * 1 := by omega
          have e2 : (n.toNat : Int) - (i : Int) - 1 = (n.toNat : Int) - ((i + 1 : Nat) : Int) := by omega
          rw [← e1, ← e2]
          exact nx'
        have I6 : Inv (X.blk sB HB scope ev [it]) [ph] (wipe σ (own.map (·.2))) H5 { z5 with heap := h', toks := z5.toks + 1 } := I5.turned (fun b o hb e => (sb.2 b hb).trans e) n5 f1 f3 f4 f5
        refine hgo _ _ _ { z5 with heap := h', toks := z5.toks + 1 } it _ _ ⟨_, _, t6, rfl, rfl⟩ ?_
        have I7 := I6.pinned (fp := [it]) (fun b hb => by
          have e : b = it := by simpa using hb
          subst e
          exact stat I6 n5) (fun b hb => by
          have e : b = it := by simpa using hb
          subst e
          exact ⟨_, t6, fun v w => nomatch (show Data.fields _ = Data.cell v from w)⟩)
        have yields : (Itr 0 n.toNat).yld i H5 (.int (0 + (i : Int))) H5 := ⟨rfl, rfl⟩
        have rel : RelV (.int (0 + (i : Int))) (.int ((0 : Int) + (i : Int) * 1) z5.toks) := ⟨z5.toks, by rw [Int.mul_one]⟩
        refine thnF (pg.run _ _ _ H5 _ _ _ I7 rel (step _ H5 yields)) fun _ z8 got8 => ?_
        obtain ⟨σ8, H8, I8, hw8, q8⟩ := got8
        refine thnF (pt.run _ z8 σ8 H8 _ I8 q8) fun b z9 got9 => ?_
        obtain ⟨H9, I9, q9⟩ := got9
        have fin : ∀ {zz : Shared} {HH : Hp}, Inv (X.blk sB HB scope ev [it]) ([ph] ++ pinsAt [it] h') σ8 HH zz → Nx HH → ∃ m', m' < m ∧ ∃ (i : Nat) (HH : Hp), Inv (X.blk sB HB scope ev [it]) [ph] (wipe σ (own.map (·.2))) HH zz ∧ IsRangeIter zz.heap it ((0 : Int) + (i : Int) * 1) ((n.toNat : Int) - (i : Int)) 1 ∧ HH it = none ∧ W i m' HH := fun {zz HH} J nx => by
          obtain ⟨m', less, w'⟩ := hNx HH nx
          have atIt := J.pin (it, _) (List.mem_append_right _ (List.mem_append_right _ (mem_pinsAt List.mem_cons_self t6)))
          have hl : (wipe σ (own.map (·.2))).length = σ8.length := by rw [← hw8, wipe_length]
          refine ⟨m', less, i + 1, HH, (J.unpinned (pins := [ph])).weak hl (fun j v e => ?_), atIt.1, atIt.2.1, w'⟩
          rw [← hw8] at e
          exact (wipe_some e).1
        cases b with
        | false =>
          simp only [Bool.false_eq_true, if_false] at q9 ⊢
          exact fin I9 q9
        | true =>
          simp only [if_true] at q9 ⊢
          refine thnF (pe.run _ z9 σ8 H9 _ I9 q9) fun w z10 got => ?_
          obtain ⟨yv, H10, I10, r10, acc, atL, room, nx⟩ := got
          exact app_ok (X := X.blk sB HB scope ev [it]) I10 atL room r10 fun z11 I11 => fin I11 nx
    exact codeAny_compStart_list loop (wpAny_pyIter_rangeiter (keepC _ _ itB) loop)
section
variable {X : Cx} {elt tg a : Expr} {p1 p2 pos py spos : Pos} {scope : Scope} {ρ : Env} {G : Store} {Φ : Pst}
/-- y = [elt for tg in range(a) if ..], y a local name -/
theorem ps_setLcHot {ph : Addr × Obj} {i : Nat} {y : Str} {ifs : List Expr} {own : List (Str × Nat)} {ta : TA} {g : TG} {tt : TT} {te : TE} (hot : L2H.Hot1 X.A ph) (inPn : ph ∈ X.pn) (hN : X.N.Nodup) (hy : X.N[i]? = some y) (hyl : X.env.scope.names.lookup y = some .local)
    (hsw : swapsWith (.ListComp elt [⟨tg, .Call (.Name "range" p1) [a] [] p2, ifs, 0⟩] scope pos) (some (.Name y py)) spos.line X.env = pure true) (hgl : Gl X "range") (hm : X.mg "range" = none) (ha : PA X [a] ta) (ok : BlkOk X.N X.env.scope scope own)
    (hg : ∀ (z : Shared) (H : Hp) (C : Addr) (cl : List (Str × Addr)) (fp : List Addr), PG (X.blk z H scope (compEnvC scope cl C X.env) fp) tg g) (ht : ∀ (z : Shared) (H : Hp) (C : Addr) (cl : List (Str × Addr)) (fp : List Addr), PTs (X.blk z H scope (compEnvC scope cl C X.env) fp) ifs tt)
    (he : ∀ (s : Shared) (H : Hp) (C : Addr) (cl : List (Str × Addr)) (fp : List Addr), PE (X.blk s H scope (compEnvC scope cl C X.env) fp) elt te) (hst : starEach [a] X.env = [(false, eval a X.env)]) (hs : ∀ x, foldedSetIterable (.Call (.Name "range" p1) [a] [] p2) X.env x = pure x)
    (hgo : ∀ (M : Model) (A : Around) (E : Value → Shared → Prop) (z : Shared) (i : Addr) (u : Value) (Q : Unit → Shared → Prop), (∃ o vs, z.heap.get? i = some o ∧ o.cls = .type "range_iterator" ∧ o.data = .fields vs) → Q () z → wpAny M A (letOwnedTupleGo tg (.ref i) u) Q E z) :
    PS X (.Assign [.Name y py] (.ListComp elt [⟨tg, .Call (.Name "range" p1) [a] [] p2, ifs, 0⟩] scope pos) spos) (tAsg (tLc (iRng1 ta) g tt te (own.map (·.2))) (gName i)) := by
  refine ⟨fun pins s σ H D I wish => ?_⟩
  rw [exec_Assign_Name_used _ _ _ _ hsw]
  refine wpAny_bind (wpAny_standAt (wpAny_bind (wpAny_bind (thn (lc_hot (Q := fun x H1 => gName i x σ H1 D.nx) (Qf := fun _ s' => SP X pins D .next s') hot inPn hN hgl hm ha ok hg ht he hst hs hgo I wish fun L C s' m H' J q hn fp => ?_) fun _ s' z => wpAny_pure (wpAny_pure z)))))
  show wpAny _ _ (assign (.Name y py) X.env (.ref L)) _ _ _
  obtain ⟨g0, g1, g2, g3, g4, g5⟩ := fp
  refine wpAny_assign_Name (store_ok2 (v := V.ref L) J hN hy (.inl hyl) rfl (fun s2 J2 ⟨b, sb, hb⟩ => ?_) (.inr hyl))
  have apart : C ≠ b := hb.elim (fun z => z ▸ g1) fun z e => g4 y b z e.symm
  exact ⟨m, hn.sameBut sb apart, fun h3 sb3 => ⟨_, H', J2.turned (t' := s2.toks) (fun c o hc e => (sb3.2 c hc).trans e) g0 g1 g3 g4 g5, q⟩⟩
theorem go_name {x : Str} {px : Pos} : ∀ (M : Model) (A : Around) (E : Value → Shared → Prop) (z : Shared) (i : Addr) (u : Value) (Q : Unit → Shared → Prop), (∃ o vs, z.heap.get? i = some o ∧ o.cls = .type "range_iterator" ∧ o.data = .fields vs) → Q () z → wpAny M A (letOwnedTupleGo (.Name x px) (.ref i) u) Q E z := fun M A E z i u Q h q => by
  obtain ⟨o, vs, h1, h2, h3⟩ := h
  exact go_of h1 h2 h3 (by decide) q
/-- told by data: n turns, each with a test and an item -/
theorem xs_setLcHot (i : Nat) {ph : Addr × Obj} {y x : Str} {px : Pos} {ifs : List Expr} {own : List (Str × Nat)} (n j : Nat) (t : Nat → Bool) (out : Nat → PyData) (ρ' : Nat → Env) (hot : L2H.Hot1 X.A ph) (inPn : ph ∈ X.pn) (hN : X.N.Nodup) (hm : X.mg "range" = none) (hz : n ≤ 100000) (hl : Xd X a ρ (.d (.int n))) (ok : BlkOk X.N X.env.scope scope own)
    (hg : ∀ (s : Shared) (H : Hp) (C : Addr) (cl : List (Str × Addr)) (fp : List Addr), PG (X.blk s H scope (compEnvC scope cl C X.env) fp) (.Name x px) (gName j)) (hj : j ∈ own.map (·.2)) (hρ : ∀ k, (wipeE ρ (own.map (·.2))).set j (some (.d (.int (k : Nat)))) = ρ' k)
    (ht : ∀ k, k < n → ∀ z : Fz, ∀ G, Xts (bx X scope z) ifs (ρ' k) G (IsT (t k) G)) (he : ∀ k, k < n → t k = true → ∀ z : Fz, Xd (bx X scope z) elt (ρ' k) (.d (out k)))
    (hy : X.N[i]? = some y := by rfl) (hyl : X.env.scope.names.lookup y = some .local := by rfl) (hsw : swapsWith (.ListComp elt [⟨.Name x px, .Call (.Name "range" p1) [a] [] p2, ifs, 0⟩] scope pos) (some (.Name y py)) spos.line X.env = pure true := by rfl) (hgl : Gl X "range" := by rfl)
    (hst : starEach [a] X.env = [(false, eval a X.env)] := by rfl) (hs : ∀ x, foldedSetIterable (.Call (.Name "range" p1) [a] [] p2) X.env x = pure x := by intro _; rfl) :
    Xs X (.Assign [.Name y py] (.ListComp elt [⟨.Name x px, .Call (.Name "range" p1) [a] [] p2, ifs, 0⟩] scope pos) spos) ρ G (At (ρ.set i (some (.d (.list (((List.range n).filter t).map out))))) G) Φ := by
  have key : R X.K (tLc (iRng1 (twA X [a])) (gName j) (blkT X scope ifs) (blkE X scope elt) (own.map (·.2))) ρ G (Is (.d (.list (((List.range n).filter t).map out))) G) := by
    refine R.give ((r_lcR (js := [j]) (fun n0 k acc G1 => n0 = n ∧ acc = ((List.range k).filter t).map out ∧ G1 = G) ((xad_cons hl xa_nil hst) G) (fun w hw => by
      have e : w = j := by simpa using hw
      subst e
      exact hj) (fun xs G1 q => ⟨n, q.1, by omega, by omega, rfl, rfl, q.2⟩) (fun n0 k hk => ⟨ρ' k, ?_, fun acc G1 q => ?_⟩)).imp fun z G2 q => ?_)
    · rw [← hρ k]
      exact rg_name
    · obtain ⟨q1, q2, q3⟩ := q
      subst q1 q2 q3
      have kn : k < n := by omega
      refine Turn.one (X := X) (scope := scope) (ifs := ifs) (elt := elt) ⟨IsT (t k) G1, fun z => ht k kn z G1, fun z G2 q => ?_, fun G2 q => ?_⟩
      · rw [q.2]
        refine R.imp (he k kn q.1.symm z G1) fun u G3 w => ⟨out k, w.1, rfl, ?_, w.2⟩
        rw [List.range_succ, List.filter_append, List.filter_cons_of_pos q.1.symm]
        simp
      · refine ⟨rfl, ?_, q.2⟩
        rw [List.range_succ, List.filter_append, List.filter_cons_of_neg (by rw [← q.1]; decide)]
        simp
    · obtain ⟨l, acc, G3, e1, e2, n0, e3, e4, e5⟩ := q
      subst e3 e4 e5
      exact ⟨l, _, G3, e1, e2, by rw [Int.toNat_natCast], rfl⟩
  exact xs_of (ps_setLcHot hot inPn hN hy hyl hsw hgl hm pa_tw ok hg (fun s H C cl fp => ⟨fun pins st σ H' Q I h => (h (s, H, C, cl, fp)).run pins st I⟩) (fun s H C cl fp => ⟨fun pins st σ H' Q I h => (h (s, H, C, cl, fp)).run pins st I⟩) hst hs go_name) (rs_asg key fun z G2 q => ⟨_, rg_name, by rw [q.1], q.2⟩)
end
end Fsh

set_option Elab.async false
set_option linter.all false
set_option maxRecDepth 100000
set_option maxHeartbeats 2000000
namespace Fsh
open PySem PySem.Spec PyProof.Rows L2
/-! ### defs that are called while the exception p is handled -/
structure Fh (P : Program) (w : World) (K : PySem.W.Frag) (mg : Str → Option Value) (base : Heap) (k : Nat) (x : Str) (ps : List Str) (Z : (Addr × Obj) → Spec) : Prop where
  ex : ∃ f fd, (∀ p xs G Φ, Z p xs G Φ → xs.length = ps.length) ∧ (∀ (A : Around) (outer : List PySem.Env) (s : Shared) (H : Hp) (args : Args) (us : List Value) (vs : List V) (Q : VK) (p : Addr × Obj), L2H.RoomH k A → A.guards = some [] → L2H.Hot1 A p → L2H.PinOk outer H s p → Env0 P w K mg base A outer s H → BindsTo s fd args (ps.zip us) → Vals vs us → spS K (Z p) vs H Q E0 →
      codeAny (model P w) A (.call (.ref f) args) (CR CX0 outer P w H s Q E0) s) ∧ mg x = some (.ref f) ∧ PySem.W.keepIn K (.ref f) = true ∧ Binds K fd ps []
abbrev cxHot (P : Program) (w : World) (K : PySem.W.Frag) (mg : Str → Option Value) (base : Heap) (N : List Str) (q : Str) (sc : Scope) (f : Addr) (cd : Value) (A : Around) (outer : List PySem.Env) (s : Shared) (H : Hp) (p : Addr × Obj) : Cx := (L2H.cxH CX0 P w K mg base N q sc f cd A outer s H E0 p).nox
theorem fh_rule {P : Program} {w : World} {K : PySem.W.Frag} {mg : Str → Option Value} {base : Heap} {k : Nat} {x : Str} {ps : List Str} {Z : (Addr × Obj) → Spec} {st : Stmt} {f : Addr} {fd : FuncData} {N : List Str} (F1 : Fun K x x st f fd) (S : FnScope N ps (defScope st)) (hb : Binds K fd ps []) (hm : mg x = some (.ref f)) (len : ∀ p xs G Φ, Z p xs G Φ → xs.length = ps.length)
    (body : ∀ (cdv : Value) (A : Around) (outer : List PySem.Env) (s : Shared) (H : Hp) (p : Addr × Obj), L2H.Hot1 A p → A.guards = some [] → L2H.RoomH k (A.deeper (envOfC x (defScope st) s.heap.objs.size f cdv)) → ∀ xs G Φ, Z p xs G Φ →
      Xss (cxHot P w K mg base N x (defScope st) f cdv A outer s H p) (defBody st) (start0 N xs) G (fun _ G2 => Φ (.d .none) G2) Φ) : Fh P w K mg base (k + 1) x ps Z := by
  refine ⟨f, fd, len, fun A outer s H args us vs Q p room gds hot pin en bd rel sp => ?_, hm, F1.kp, hb⟩
  obtain ⟨F, G, B, xs, Φ, c, r, z, kk⟩ := sp
  have hlen : vs.length = ps.length := r.len.trans (len p xs G Φ z)
  obtain ⟨oc, od, kV, doc, pm, an, cdv, ct, osl, rfl, look, code⟩ := F1.ex
  have inS := en.mod.kin.keeps fun b o e => (en.bs b o e).1
  have noLim := en.mod.nolimit.keeps fun b o e => (en.bs b o e).1
  have kinds : ∀ y ∈ ps.zip us, (defScope st).names.lookup y.1 = some .local ∨ ((defScope st).names.lookup y.1 = some .cell ∧ ((cellsFrom (s.heap.objs.size + 1) (defScope st).names []).lookup y.1).isSome = true) := fun y hy => by
    obtain ⟨n, v⟩ := y
    rcases S.par n (List.of_mem_zip hy).1 with loc | cel
    · exact Or.inl loc
    · exact Or.inr ⟨cel, PySem.W.cellsFrom_some _ _ _ (Or.inl cel)⟩
  refine codeAny_call_function room.depth (inS _ _ look) rfl S.co S.gen rfl (PySem.W.codeRec_of inS code) (bd _ _ _ _ ?_)
  refine wpAny_newFunctionEnv_cells S.kind kinds fun env0 isE sA inC => ?_
  subst isE
  refine ⟨noLim.keeps inC.toInCall.keep, codeAny_func ?_⟩
  have inv0 : Inv (L2H.cxH CX0 P w K mg base N x (defScope st) f cdv A outer s H E0 p) [] (L2.start N vs) H sA := L2H.inv_startH S pin en hlen rel inC
  have run := body cdv A outer s H p hot gds (room.deeper _) xs G Φ z F (L2.start N vs) B H { nx := fun _ H' => Q .non H', rt := Q } c (slots_start r) (fun ρ' σ' G2 B2 H2 e2 c2 s2 q => kk .non (.d .none) G2 B2 H2 e2 c2 .rnon q) kk
  refine wpAny_mono ((pss_tw (X := cxHot P w K mg base N x (defScope st) f cdv A outer s H p)).nox.run [] sA (L2.start N vs) H _ inv0 run) (fun fl sB hs => ?_) fun _ _ hs => hs
  match fl, hs with
  | .ret u, hs =>
    obtain ⟨v, σ', H', J, rv, q⟩ := hs
    exact ⟨v, H', J.os, J.bare, J.base, J.hok, rv, q⟩
  | .next, hs =>
    obtain ⟨σ', H', J, q⟩ := hs
    exact ⟨V.non, H', J.os, J.bare, J.base, J.hok, rfl, q⟩
  | .brk, hs =>
    obtain ⟨_, _, _, q⟩ := hs
    exact q.elim
  | .cont, hs =>
    obtain ⟨_, _, _, q⟩ := hs
    exact q.elim
section
variable {X : Cx} {e : Expr} {es : List Expr} {ρ : Env} {G : Store} {Φ : Pst} {pos p : Pos} {k : Nat} {x : Str} {ps : List Str} {Z : (Addr × Obj) → Spec} {ph : Addr × Obj}
theorem xh_call {Φl : List DV → Store → Prop} (Fx : Fh X.prog X.w X.K X.mg X.base k x ps Z) (room : L2H.RoomH k X.A) (gds : X.A.guards = some []) (hot : L2H.Hot1 X.A ph) (inPn : ph ∈ X.pn) (ha : Xa X (e :: es) ρ G Φl) (h : ∀ xs G', Φl xs G' → ∃ G1 G2, G' = G1 ++ G2 ∧ Z ph xs G2 fun y G3 => Φ y (G1 ++ G3)) (hg : Gl X x := by rfl) (hdb : (x == ("__debug__" : Str)) = false := by decide)
    (hst : starEach (e :: es) X.env = (false, eval e X.env) :: starEach es X.env := by rfl) (hpl : (backTo pos (starEach es X.env)).any (·.1) = false := by rfl) : Xp X (.Call (.Name x p) (e :: es) [] pos) ρ G Φ := by
  obtain ⟨f, fd, hl, F1, hm, hk, hb⟩ := Fx.ex
  have pe : PE X (.Call (.Name x p) (e :: es) [] pos) (fun σ H Q => twA X (e :: es) σ H fun vs H1 => spS X.K (Z ph) vs H1 Q E0) := by
    refine ⟨fun pins s σ H Q I hq => wpAny_Call_Name_kw (ld_glob I hg hm ?_ hdb)⟩
    refine PySem.W.callWith_K (h₀ := X.base) I.ok.mod.kin hk (thn (pa_tw.run pos pins s σ H _ I hq) fun us s1 got => ?_) hst hpl
    obtain ⟨vs, H1, I1, r, q⟩ := got
    refine ⟨I1.kIn, ?_⟩
    have hlen : (us ++ []).length = ps.length := by
      obtain ⟨F, G, B, xs, Φ, _, r2, z, _⟩ := q
      rw [List.append_nil, ← r.length, r2.len]
      exact hl ph xs G Φ z
    have bd := hb s1 us I1.kIn hlen
    rw [List.append_nil] at bd
    have P1 := I1.pin ph (List.mem_append_left _ inPn)
    have pin : L2H.PinOk X.stack H1 s1 ph := ⟨P1.1, P1.2.1, fun z => (List.mem_cons.mp (I1.stkSub ph.1 z)).elim P1.2.2.1 P1.2.2.2.1, P1.2.2.2.2⟩
    refine wpAny_call (codeAny_mono (F1 X.A X.stack s1 H1 ⟨us, []⟩ us vs Q ph room gds hot pin I1.env0 bd r q) fun r s' hq => ?_)
    match r, hq with
    | .error e, hq => exact hq.elim
    | .ok (.ret u), hq => exact I1.after hq
    | .ok .next, hq => exact hq.elim
    | .ok .brk, hq => exact hq.elim
    | .ok .cont, hq => exact hq.elim
  refine xp_of pe fun F σ B H Q c s kk => ha F σ B H _ c s fun vs xs G2 B2 H2 e2 c2 r2 q => ?_
  obtain ⟨G3, G4, eG, z⟩ := h xs G2 q
  subst eG
  obtain ⟨F', c4, fr⟩ := c2.frame
  exact ⟨F', G4, B2, xs, _, c4, r2, z, fun v y G5 B5 H5 e5 c5 r5 q5 => kk v y _ B5 H5 (e2.trans e5) (fr G5 B5 H5 e5 c5) r5 q5⟩
end
/-! ### try: .. except C as n: .. -/
theorem Cfg.tail {K : PySem.W.Frag} {F B H : Hp} {G : Store} {p : Addr × Cell} (c : Cfg K F (p :: G) B H) : Cfg K F G B H :=
  ⟨c.ex, c.fr, fun x hx => c.ce x (List.mem_cons_of_mem _ hx), c.fb, fun x hx => c.gb x (List.mem_cons_of_mem _ hx), fun x hx => c.gf x (List.mem_cons_of_mem _ hx), (List.nodup_cons.mp c.nd).2⟩
section
variable {X : Cx} {x n : Str} {c : Value} {i : Nat} {body suite : List Stmt} {b₀ : Stmt} {np pos pos' : Pos} {ρ : Env} {G : Store} {Φ : Pst} {Ψ : XPst} {N : Env → Store → Prop}
theorem xs_try (hs : X.stack = X.env :: X.outer) (hf : X.env.frame = some X.env.locals) (hN : X.N.Nodup) (hi : X.N[i]? = some n) (hln : X.env.kindOf n = some .local) (hc : Names X x c)
    (hb : ∀ (W : WX) (pn : List (Addr × Obj)) (xe : Value → Shared → Prop), L2N.Takes (X.tr pn xe) W → Yss (X.tr pn xe) W body ρ G N Φ Ψ)
    (hh : ∀ cls fs ρ' G2, Ψ cls fs ρ' G2 → PySem.W.exmOne X.K cls c = some true ∧ ∀ (a dd : Addr) (oe : Obj) (pn : List (Addr × Obj)), L2N.Zn cls (some dd) oe → (∃ vs, oe.data = .fields vs) →
      Xss (X.suite a ((a, oe) :: pn)) (b₀ :: suite) (ρ'.set i (some (.a a))) ((dd, .xd fs) :: G2) (fun ρ3 G3 => ∃ q G4, G3 = q :: G4 ∧ N (ρ3.set i none) G4) (fun y G3 => ∃ q G4, G3 = q :: G4 ∧ Φ y G4)) :
    Xs X (.Try body [.ExceptHandler (some (.Name x np)) (some n) (b₀ :: suite) pos'] [] [] pos) ρ G N Φ := by
  have no : L2N.Takes X (fun _ _ _ _ => False) := fun u s' z => by
    obtain ⟨_, _, _, _, _, _, _, _, _, _, _, _, _, _, _, _, w⟩ := z
    exact w.elim
  refine xs_of (L2N.ps_try_as hs hf hN hi hln hc no (tb := fun W D σ H => ∀ pn xe, L2N.Takes (X.tr pn xe) W → twSs (X.tr pn xe) body D σ H) (ts := fun a cls d D σ H => ∀ oe pn, L2N.Zn cls d oe → (∃ vs, oe.data = .fields vs) → twSs (X.suite a ((a, oe) :: pn)) (b₀ :: suite) D σ H)
    (fun W pn xe tk _ => ⟨fun pins s σ H D I h => (h pn xe tk).run pins s I⟩) (fun a oe cls d pn z1 z2 => ⟨fun pins s σ H D I h => (h oe pn z1 z2).run pins s I⟩)) fun F σ B H D cf s nn kk => fun pn xe tk => ?_
  refine hb _ pn xe tk F σ B H D cf s nn kk fun cls dd fs ρ' σ' G2 B2 H2 e2 c2 s2 q => ?_
  obtain ⟨m1, m2⟩ := hh cls fs ρ' G2 q
  refine ⟨true, m1, fun _ a na => fun oe pn z1 z2 => ?_, fun z => nomatch z⟩
  refine m2 a dd oe pn z1 z2 F (σ'.set i (some (.ref a))) B2 H2 _ c2 (s2.set (x := .a a) rfl i) (fun ρ3 σ3 G3 B3 H3 e3 c3 s3 q3 => ?_) fun v y G3 B3 H3 e3 c3 r3 q3 => ?_
  · obtain ⟨w, G4, eG, q4⟩ := q3
    subst eG
    exact nn _ _ G4 B3 H3 (e2.trans e3) c3.tail (s3.clear i) q4
  · obtain ⟨w, G4, eG, q4⟩ := q3
    subst eG
    exact kk v y G4 B3 H3 (e2.trans e3) c3.tail r3 q4
end
end Fsh

set_option Elab.async false
set_option linter.all false
set_option maxRecDepth 100000
set_option maxHeartbeats 2000000
namespace Fsh
open PySem PySem.Spec PyProof.Rows L2
/-! ### a lambda is made: its code object is new, or found in the table -/
abbrev lamQ (X : Cx) : Str := X.env.qual ++ "<lambda>"
theorem lam_make {X : Cx} {pins : List (Addr × Obj)} {σ : L2.St} {H B F : Hp} {G1 G2 : Store} {s : Shared} {c P : Addr} {params : Arguments} {body : Expr} {scope : Scope} {pos : Pos} {E : Value → Shared → Prop} {Q : Value → Shared → Prop} (I : Inv X pins σ H s) (TB : LamX.TabB X.base X.mg c P) (isC : X.env.code = .ref c)
    (cf : Cfg X.K F (G1 ++ (P, .tab (lamQ X)) :: G2) B H) (nod : defaultsOf params X.env = ([], [])) (caught : ∀ y ∈ scope.names, y.2 = .free → ∃ c, X.env.cells.lookup y.1 = some c)
    (h : ∀ (f c' : Addr) (pm ctv : Value) (B1 H1 : Hp) (s' : Shared), Inv X pins σ H1 s' → Ex B B1 → Cfg X.K F (G1 ++ (P, .tab (lamQ X)) :: G2) B1 H1 →
      s'.heap.get? f = some (PySem.W.kla_obj "<lambda>" (lamQ X) params body scope (cloFrom X.env.cells scope.names []) pm c' ctv) → H1 f = none → f ∉ frs X.stack → B1 c' = some (LamX.CodeO c' (lamQ X)) → Q (.ref f) s') :
    wpAny (model X.prog X.w) X.A (eval (.Lambda params body scope pos) X.env) Q E s := by
  obtain ⟨ps, atP, tri, known⟩ := cf.ce (P, .tab (lamQ X)) (List.mem_append_right _ List.mem_cons_self)
  have nBP : B P = none := cf.gb (P, .tab (lamQ X)) (List.mem_append_right _ List.mem_cons_self)
  refine PySem.W.kla_eval nod ?_
  have bP : s.heap.BuiltinsAt X.mg P := TB.bm.keeps I.bk
  have tabP : s.heap.get? P = some { cls := .none, data := .fields ps } := I.hok P _ atP
  have offStack : ∀ f, s.heap.objs.size ≤ f → f ∉ frs X.stack := fun f big z => by
    rcases List.mem_cons.mp (I.stkSub _ z) with e | e
    · have lt := I.lt
      rw [← e] at lt
      exact Nat.lt_irrefl _ (Nat.lt_of_lt_of_le lt big)
    · exact I.nofs big e
  cases among : codeAmong pos ps.toList with
  | some cv =>
    obtain ⟨c', e, isCode⟩ := known pos cv among
    subst e
    refine PySem.W.kla_makeFunctionHit (mg := X.mg) (c := c) (P := P) (ps := ps) (closure_ok caught) I.ok.glob (I.mod.glob.keeps I.bk) isC (TB.code.keeps I.bk) tabP tri among bP fun ctv h' tk kept big => ?_
    have I1 : Inv X pins σ H { s with heap := h'.push (PySem.W.kla_obj "<lambda>" (lamQ X) params body scope (cloFrom X.env.cells scope.names []) ((X.mg "__name__").getD .none) c' ctv), toks := tk } := I.kept fun b o e => Heap.get?_push_of_some _ (kept b o e)
    exact h h'.objs.size c' _ ctv B H _ I1 (Evl.Ex.refl B) cf (Heap.get?_push_size _ rfl) (I.hok.fresh big) (offStack _ big) isCode
  | none =>
    refine PySem.W.kla_makeFunction (mg := X.mg) (c := c) (P := P) (ps := ps) (closure_ok caught) I.ok.glob (I.mod.glob.keeps I.bk) isC (TB.code.keeps I.bk) tabP tri among TB.gP bP fun c' ctv h' tk kept above below rec_ newTab => ?_
    obtain ⟨c2, oc, vs, t, e2, isO, isD, isV⟩ := rec_
    cases e2
    have big : s.heap.objs.size ≤ h'.objs.size := Nat.le_trans above (Nat.le_of_lt below)
    have freeC : H c' = none := I.hok.fresh above
    have Pc : P ≠ c' := ne_of_none atP freeC
    have eL : (ps ++ #[rawInt pos.line, rawInt pos.col, .ref c']).toList = ps.toList ++ [rawInt pos.line, rawInt pos.col, .ref c'] := by
      simp
    have I1 := LamX.inv_table (t' := tk) (q := lamQ X) (more := #[rawInt pos.line, rawInt pos.col, .ref c']) (h' := h'.push (PySem.W.kla_obj "<lambda>" (lamQ X) params body scope (cloFrom X.env.cells scope.names []) ((X.mg "__name__").getD .none) c' ctv)) I atP
      (fun b o hb e => Heap.get?_push_of_some _ (kept b o hb e)) (Heap.get?_push_of_some _ newTab) above ⟨oc, vs, t, Heap.get?_push_of_some _ isO, isD, isV⟩
    have c1 := cf.new freeC (LamX.CodeO c' (lamQ X))
    have eB : Ex B (upd B c' (LamX.CodeO c' (lamQ X))) := ex_new (Ex.free cf.ex freeC) _
    have swap : upd (upd H P (.tbl (ps ++ #[rawInt pos.line, rawInt pos.col, .ref c']))) c' (LamX.CodeO c' (lamQ X)) = upd (upd H c' (LamX.CodeO c' (lamQ X))) P (.tbl (ps ++ #[rawInt pos.line, rawInt pos.col, .ref c'])) := by
      funext b
      by_cases e1 : b = c'
      · subst e1
        rw [upd_same, upd_ne (Ne.symm Pc), upd_same]
      · by_cases e2 : b = P
        · subst e2
          rw [upd_ne e1, upd_same, upd_same]
        · rw [upd_ne e1, upd_ne e2, upd_ne e2, upd_ne e1]
    rw [swap] at I1
    have c3 : Cfg X.K F (G1 ++ (P, .tab (lamQ X)) :: G2) (upd B c' (LamX.CodeO c' (lamQ X))) (upd (upd H c' (LamX.CodeO c' (lamQ X))) P (.tbl (ps ++ #[rawInt pos.line, rawInt pos.col, .ref c']))) := by
      refine c1.set (x' := .tab (lamQ X)) ⟨_, upd_same, by rw [eL]; exact PySem.TriplesOk_snoc _ _ _ _ tri, fun p' cv hcv => ?_⟩
      rw [eL] at hcv
      rcases LamX.among_app _ tri hcv with z | z
      · obtain ⟨c0, e1, e2⟩ := known p' cv z
        exact ⟨c0, e1, eB _ _ e2⟩
      · exact ⟨c', z, upd_same⟩
    refine h h'.objs.size c' _ ctv _ _ _ I1 eB c3 (Heap.get?_push_size _ rfl) ?_ (offStack _ big) upd_same
    have n2 : h'.objs.size ≠ P := Nat.ne_of_gt (Nat.lt_of_lt_of_le (Heap.lt_size tabP) big)
    rw [upd_ne n2, upd_ne (Nat.ne_of_gt below)]
    exact I.hok.fresh big
/-! ### the body of a lambda, entered at s from the frames outer -/
abbrev cxLam (X : Cx) (A : Around) (outer : List PySem.Env) (s : Shared) (H : Hp) (E : XK) (scope : Scope) (f c' : Addr) : Cx :=
  (LamX.lamCx X A outer s H (fun _ _ _ => False) scope f c').tr [] (fun e s' => wpAny (model X.prog X.w) (A.deeper (LamX.lamEnv X scope s.heap.objs.size f c')) (leaving (LamX.lamEnv X scope s.heap.objs.size f c') e) (fun _ s'' => L2N.CX X.prog X.w outer H s E e s'') (fun e' s'' => L2N.CX X.prog X.w outer H s E e' s'') s')
theorem takes_lam {X : Cx} {A : Around} {outer : List PySem.Env} {s : Shared} {H : Hp} {E : XK} {scope : Scope} {f c' : Addr} : L2N.Takes (cxLam X A outer s H E scope f c') (WE0 E) := L2N.takes_of rfl rfl rfl rfl
/-- ask(), in the def at g that got the lambda f -/
def tAsk (X : Cx) (k : Nat) (scope : Scope) (f c' : Addr) (body : Expr) (σ : L2.St) (W : WX) : TE := fun σZ HZ Q => σZ[0]? = some (some (.ref f)) ∧ HZ c' = some (LamX.CodeO c' (lamQ X)) ∧
  ∀ (A : Around) (outer : List PySem.Env) (s1 : Shared), Room k (A.deeper (LamX.lamEnv X scope s1.heap.objs.size f c')) → A.guards = some [] → tw (cxLam X A outer s1 HZ (fun cls d H' => W cls d σZ H') scope f c') body σ HZ Q
theorem pe_ask {X : Cx} {pins : List (Addr × Obj)} {σ : L2.St} {H : Hp} {s : Shared} {Ng : List Str} {qg : Str} {sg : Scope} {g f c' : Addr} {cdg pm ctv : Value} {params : Arguments} {body : Expr} {scope : Scope} {k : Nat} {a : Str} {pn : List (Addr × Obj)} {xe : Value → Shared → Prop} {W : WX} {p1 p2 : Pos}
    (I : Inv X pins σ H s) (L : LamX.LamS X.env.scope scope) (atF : s.heap.get? f = some (PySem.W.kla_obj "<lambda>" (lamQ X) params body scope (cloFrom X.env.cells scope.names []) pm c' ctv)) (nF : H f = none) (offF : f ∉ frs X.stack)
    (bind0 : bindArgs (PySem.W.kla_fn "<lambda>" (lamQ X) params body scope (cloFrom X.env.cells scope.names []) pm (.ref c') ctv) ⟨[], []⟩ = pure [])
    (tk : L2N.Takes ((cxOf CX0 X.prog X.w X.K X.mg X.base Ng qg sg g cdg X.A X.stack s H E0).tr pn xe) W) (room : Room (k + 1) (X.A.deeper (envOfC qg sg s.heap.objs.size g cdg))) (gds : X.A.guards = some [])
    (hN : Ng[0]? = some a) (hv : Vis sg a) (hd : (a == ("__debug__" : Str)) = false := by decide) (hcd : (a == ("__classdict__" : Str)) = false := by decide) :
    PE ((cxOf CX0 X.prog X.w X.K X.mg X.base Ng qg sg g cdg X.A X.stack s H E0).tr pn xe) (.Call (.Name a p1) [] [] p2) (tAsk X k scope f c' body σ W) := by
  refine ⟨fun pinsZ sZ σZ HZ Q IZ wish => ?_⟩
  obtain ⟨slot, isCode, run⟩ := wish
  refine wpAny_Call_Name_kw (thn ((pe_var (pos := p1) (i := 0) hN hv hd hcd).run pinsZ sZ σZ HZ (fun v H1 => v = .ref f ∧ H1 = HZ) IZ ⟨.ref f, slot, rfl, rfl⟩) fun u s1 got => ?_)
  obtain ⟨v, H1, I1, r1, ev, eH⟩ := got
  subst ev
  rw [eH] at I1
  obtain rfl : u = Value.ref f := r1
  have of1 : s1.heap.get? f = some (PySem.W.kla_obj "<lambda>" (lamQ X) params body scope (cloFrom X.env.cells scope.names []) pm c' ctv) := I1.base.keep f _ atF nF offF (fun z => nomatch (show f ∈ ([] : List Addr) from z))
  refine PySem.W.callWith_F0 ⟨_, _, _, _, of1⟩ ?_
  have un : Un (frs X.stack) [] H HZ s.heap s1.heap := I1.base
  obtain ⟨⟨oc, vs, t, isO, isD, isV⟩, _, _⟩ := I1.hok c' _ isCode
  have ends : codeAny (model X.prog X.w) (X.A.deeper (envOfC qg sg s.heap.objs.size g cdg)) (.call (.ref f) ⟨[], []⟩) (CR (L2N.CX X.prog X.w) (envOfC qg sg s.heap.objs.size g cdg :: X.stack) X.prog X.w HZ s1 Q (fun cls d H' => W cls d σZ H')) s1 := by
    refine PySem.W.kla_callFunE room.depth of1 rfl L.co L.gen rfl ⟨c', oc, vs, t, rfl, isO, isD, isV⟩ ?_
    rw [bind0]
    refine wpAny_pure (wpAny_newFunctionEnv (fun nm inN => (L.own nm inN).2) (fun nm inN => absurd inN (by simp)) (fun h₁ hns hsb => ⟨I1.nolimit.fresh _ hsb, ?_⟩) L.kind)
    show codeAny _ _ (.expr body (LamX.lamEnv X scope s1.heap.objs.size f c')) _ _
    have kept : ∀ b o, s1.heap.get? b = some o → h₁.get? b = some o := fun b o e => hsb.extBut b o (Nat.ne_of_lt (Heap.lt_size e)) (Heap.get?_push_of_some _ e)
    have J0 : Inv (LamX.lamCx X (X.A.deeper (envOfC qg sg s.heap.objs.size g cdg)) (envOfC qg sg s.heap.objs.size g cdg :: X.stack) s1 HZ (fun _ _ _ => False) scope f c') [] σ HZ { s1 with heap := h₁, toks := s1.toks + ([] : List (Str × Value)).length } :=
      LamX.lam_start2 I L I1.env0 room.hd un hns kept
    have J : Inv (cxLam X (X.A.deeper (envOfC qg sg s.heap.objs.size g cdg)) (envOfC qg sg s.heap.objs.size g cdg :: X.stack) s1 HZ (fun cls d H' => W cls d σZ H') scope f c') [] σ HZ { s1 with heap := h₁, toks := s1.toks + ([] : List (Str × Value)).length } := J0.toTry _
    refine PySem.W.kla_codeExpr (wpAny_mono ((run _ _ s1 (room.deeper _) gds).run [] _ J) (fun v s' hq => ?_) fun e s' hq => hq)
    obtain ⟨w', H', J', rv, q⟩ := hq
    exact ⟨w', H', J'.os, J'.bare, J'.base, J'.hok, rv, q⟩
  refine wpAny_call (codeAny_mono ends fun r s' hq => ?_)
  match r, hq with
  | .error e, hq => exact tk e s' (L2N.XE.of_call I1 (fun _ _ _ z => z) hq)
  | .ok (.ret u), hq => exact I1.after hq
  | .ok .next, hq => exact hq.elim
  | .ok .brk, hq => exact hq.elim
  | .ok .cont, hq => exact hq.elim
end Fsh

set_option Elab.async false
set_option linter.all false
set_option maxRecDepth 100000
set_option maxHeartbeats 2000000
namespace Fsh
open PySem PySem.Spec PyProof.Rows L2
/-! ### what a lambda has captured -/
def Cap (σ : L2.St) : List Nat → List V → Prop
  | [], [] => True
  | i :: is, v :: vs => σ[i]? = some (some v) ∧ Cap σ is vs
  | _, _ => False
def capE (n : Nat) : List Nat → List PyData → Env
  | i :: is, d :: ds => (capE n is ds).set i (some (.d d))
  | _, _ => List.replicate n none
theorem slots_cap {K : PySem.W.Frag} {B : Hp} {σ : L2.St} : ∀ {is : List Nat} {vs : List V} {ds : List PyData}, Cap σ is vs → Rps K B vs ds → Slots K B σ (capE σ.length is ds)
  | [], [], _, _, .nil => ⟨by unfold capE; rw [List.length_replicate], fun i x h => by
    unfold capE at h
    rw [List.getElem?_replicate] at h
    split at h <;> cases h⟩
  | i :: is, v :: vs, _, c, .cons (ds := ds) (d := d) r rs => by
    have ih := slots_cap c.2 rs
    have z := ih.set (x := .d d) r i
    have e : σ.set i (some v) = σ := by
      obtain ⟨hl, he⟩ := List.getElem?_eq_some_iff.mp c.1
      rw [← he, List.set_getElem_self]
    rw [e] at z
    exact z
  | [], _ :: _, _, c, _ => c.elim
  | _ :: _, [], _, c, _ => c.elim
theorem cap_of {K : PySem.W.Frag} {B : Hp} {σ : L2.St} {ρ : Env} (s : Slots K B σ ρ) : ∀ {is : List Nat} {ds : List PyData}, is.length = ds.length → (∀ p ∈ is.zip ds, ρ[p.1]? = some (some (.d p.2))) → ∃ vs, Cap σ is vs ∧ Rps K B vs ds
  | [], [], _, _ => ⟨[], trivial, .nil⟩
  | i :: is, d :: ds, hl, h => by
    obtain ⟨vs, c, r⟩ := cap_of s (is := is) (ds := ds) (Nat.succ.inj hl) fun p hp => h p (List.mem_cons_of_mem _ hp)
    obtain ⟨v, e, rv⟩ := s.2 i (.d d) (h (i, d) List.mem_cons_self)
    exact ⟨v :: vs, ⟨e, c⟩, .cons rv r⟩
  | [], _ :: _, hl, _ => nomatch hl
  | _ :: _, [], hl, _ => nomatch hl
/-! ### x(lambda: body), x a def that calls what it got -/
section
variable {X : Cx} {ρ : Env} {G1 G2 : Store} {x a : Str} {g c P : Addr} {fd : FuncData} {st : Stmt} {Ng : List Str} {k : Nat} {params : Arguments} {body : Expr} {scope : Scope} {p lpos pos : Pos} {is : List Nat} {ds : List PyData} {y : DV} {Φb : Store → Pst} {Ψb : Store → XPst0}
theorem xi_lamcall (F1 : Fun X.K x x st g fd) (Sg : FnScope Ng [a] (defScope st)) (hb : Binds X.K fd [a] []) (hm : X.mg x = some (.ref g)) (hNg : Ng[0]? = some a) (hva : Vis (defScope st) a) (TB : LamX.TabB X.base X.mg c P) (isC : X.env.code = .ref c) (room : Room (k + 2) X.A) (gds : X.A.guards = some [])
    (L : LamX.LamS X.env.scope scope) (nod : defaultsOf params X.env = ([], [])) (bind0 : ∀ (q : Str) (cl : List (Str × Addr)) (pm cv ctv : Value), bindArgs (PySem.W.kla_fn "<lambda>" q params body scope cl pm cv ctv) ⟨[], []⟩ = pure [])
    (hl : is.length = ds.length) (cap : ∀ p ∈ is.zip ds, ρ[p.1]? = some (some (.d p.2)))
    (hbody : ∀ (A : Around) (outer : List PySem.Env) (s1 : Shared) (H1 : Hp) (E : XK) (f c' : Addr), Room k (A.deeper (LamX.lamEnv X scope s1.heap.objs.size f c')) → A.guards = some [] → ∀ G, Yp (cxLam X A outer s1 H1 E scope f c') (WE0 E) body (capE X.N.length is ds) G (Φb G) (fun cls fs _ G2 => Ψb G cls fs G2))
    (hout : ∀ (cdv : Value) (s' : Shared) (H1 : Hp) (lam : DV), (∀ (W : WX) (pn : List (Addr × Obj)) (xe : Value → Shared → Prop), L2N.Takes ((cxOf CX0 X.prog X.w X.K X.mg X.base Ng x (defScope st) g cdv X.A X.stack s' H1 E0).nox.tr pn xe) W → ∀ (ρ1 : Env) (G : Store) (p1 p2 : Pos), ρ1[0]? = some (some lam) →
        Yp ((cxOf CX0 X.prog X.w X.K X.mg X.base Ng x (defScope st) g cdv X.A X.stack s' H1 E0).nox.tr pn xe) W (.Call (.Name a p1) [] [] p2) ρ1 G (Φb G) (fun cls fs ρ' G2 => ρ' = ρ1 ∧ Ψb G cls fs G2)) →
      Xss (cxOf CX0 X.prog X.w X.K X.mg X.base Ng x (defScope st) g cdv X.A X.stack s' H1 E0).nox (defBody st) (start0 Ng [lam]) [] (fun _ _ => False) (fun z G3 => z = y ∧ G3 = []))
    (hg : Gl X x := by rfl) (hdb : (x == ("__debug__" : Str)) = false := by decide) (hd : (a == ("__debug__" : Str)) = false := by decide) (hcd : (a == ("__classdict__" : Str)) = false := by decide) :
    Xp X (.Call (.Name x p) [.Lambda params body scope lpos] [] pos) ρ (G1 ++ (P, .tab (lamQ X)) :: G2) (Is y (G1 ++ (P, .tab (lamQ X)) :: G2)) := by
  intro F σ B H Q cf sl kk
  refine ⟨fun pins s I => ?_⟩
  refine wpAny_Call_Name_kw (ld_glob I hg hm ?_ hdb)
  refine PySem.W.callWith_K (h₀ := X.base) I.ok.mod.kin F1.kp ?_ (by rfl) (by rfl)
  show wpAny _ X.A (spliced ((false, eval (.Lambda params body scope lpos) X.env) :: backTo pos (starEach [] X.env))) _ _ s
  refine Calls.spliced_cons (lam_make I TB isC cf nod (L.has I.ok) fun f c' pm ctv B1 H1 s' I1 e1 c1 atF nF offF isCode => ?_)
  refine Calls.spliced_nil ⟨I1.kIn, ?_⟩
  obtain ⟨vs, capV, rps⟩ := cap_of (sl.mono e1) hl cap
  obtain ⟨F', c4, fr⟩ := Cfg.frame (G1 := G1 ++ (P, .tab (lamQ X)) :: G2) (G2 := []) (by rw [List.append_nil]; exact c1)
  have lamV : Rvs X.K B1 [V.ref f] [.lam f c' (lamQ X) vs ds] := .cons ⟨rfl, isCode, rps⟩ .nil
  have nσ : σ.length = X.N.length := I.len
  have ran := run_at (Q := Q) F1 Sg (vs := [.ref f]) rfl room I1.env0 (hb s' [.ref f] I1.kIn rfl) (.cons rfl .nil) fun cdv => ⟨_, pss_tw, hout cdv s' H1 (.lam f c' (lamQ X) vs ds) (fun W pn xe tk ρ1 G p1 p2 at0 => ?_) F' (L2.start Ng [.ref f]) B1 H1 { nx := fun _ H' => Q .non H', rt := Q } c4 (slots_start lamV) (fun _ _ _ _ _ _ _ _ z => z.elim) (fun v z G3 B3 H3 e3 c3 r3 q3 => ?_)⟩
  · refine wpAny_call (codeAny_mono ran fun r s2 hq => ?_)
    match r, hq with
    | .error e, hq => exact hq.elim
    | .ok (.ret u), hq => exact I1.after hq
    | .ok .next, hq => exact hq.elim
    | .ok .brk, hq => exact hq.elim
    | .ok .cont, hq => exact hq.elim
  · refine yp_of (pe_ask (X := X) (k := k) (cdg := cdv) (pn := pn) (xe := xe) (W := W) I1 L atF nF offF (bind0 _ _ _ _ _) tk (room.deeper _) gds hNg hva hd hcd) fun Fz σz Bz Hz Qz cz sz kz ky => ?_
    obtain ⟨v, e0, rv⟩ := sz.2 0 _ at0
    obtain ⟨ev, code, rz⟩ := rv
    subst ev
    refine ⟨e0, cz.ex _ _ code, fun A outer s1 rm gd => ?_⟩
    have slz : Slots X.K Bz σ (capE X.N.length is ds) := by
      rw [← nσ]
      exact slots_cap capV rz
    exact hbody A outer s1 Hz _ f c' rm gd G Fz σ Bz Hz Qz cz slz kz fun cls d fs ρ' σ' G3 B3 H3 e3 c3 s3 q3 => ky cls d fs ρ1 σz G3 B3 H3 e3 c3 (sz.mono e3) ⟨rfl, q3⟩
  · obtain ⟨q1, q2⟩ := q3
    subst q1 q2
    have c5 := fr [] B3 H3 e3 c3
    rw [List.append_nil] at c5
    exact kk v _ _ B3 H3 (e1.trans e3) c5 r3 ⟨rfl, rfl⟩
end
end Fsh

set_option Elab.async false
set_option linter.all false
set_option maxRecDepth 100000
set_option maxHeartbeats 2000000
namespace Fsh
open PySem PySem.Spec PyProof.Rows L2
/-! ### the law's own call, with one table of code objects -/
theorem law_endT {l : PySem.W.OpenLaw} {n k : Nat} {q : Program} {loose : List Str} {XP : (Str → Option Value) → Heap → Prop} {YP : World → Heap → Prop} {d : DefRec} {Kf : Params → PySem.W.Frag} {st : Stmt} {N : List Str} {x lq : Str} {c P : Addr}
    (most : l.most = some n) (most2 : n ≤ 1000) (nodef : d.params.defaults = []) (S : FnScope N [x] (defScope st)) (room : Room (k + 1) callerA) (inY : ∀ (w : World) (h : Heap), YP w h → (Kf w.params).In h)
    (tabY : ∀ (w : World) (h : Heap), YP w h → h.get? P = some { cls := .none, data := .fields #[] }) (noT : ∀ w : World, (Kf w.params).lookup P = none) (codeT : ∀ (w : World) (h : Heap), (Kf w.params).In h → PySem.W.CodeHd h c P)
    (bnd : ∀ (K : PySem.W.Frag) (f : Addr) (fd : FuncData), Fun K d.name d.name st f fd → Binds K fd [x] [])
    (D : PySem.W.Frag → (Str → Option Value) → Prop) (defs : ∀ (w : World) (mg : Str → Option Value) (h : Heap), (Kf w.params).In h → h.Ns mainGlobals mg → D (Kf w.params) mg) (lawD : ∀ (K : PySem.W.Frag) (mg : Str → Option Value), D K mg → DefIn K mg d.name st)
    (body : ∀ (w : World) (K : PySem.W.Frag) (mg : Str → Option Value) (base : Heap) (f : Addr) (cdv : Value) (s : Shared) (H : Hp) (cs : List Int), D K mg → LamX.TabB base mg c P → cs.length ≤ n →
      Xss (cxOf CX0 l.prog w K mg base N d.name (defScope st) f cdv callerA [] s H E0).nox (defBody st) (start0 N [.d (.list (cs.map PyData.int))]) [(P, .tab lq)] (fun _ _ => False) (fun y _ => y = .d (.bool true))) :
    PySem.W.WalkO q loose XP YP l.row.toRowW d [] (fun f vs => PySem.call f vs) := by
  refine Att.attach_call most nodef fun w s₀ s₁ mg mb fa o pm cd doc a vs ns Gr Y _ _ _ hmg hobj hints hlen hgen => ?_
  have inH := inY w _ Y
  have atP := tabY w _ Y
  have noP := noT w
  have dd := defs w mg _ inH Gr.T.g
  obtain ⟨f, fd, F1, hm⟩ := lawD _ _ dd
  have ef : fa = f := by
    have := hmg.symm.trans hm
    cases this
    rfl
  subst ef
  have rel := vals_ints hints
  have hz : ns.length ≤ sizeLine := Nat.le_trans hlen (Nat.le_trans most2 (by decide))
  have aP : a ≠ P := fun z => by
    rw [z, atP] at hobj
    have w2 : Data.fields #[] = Data.seq vs.toArray _ := congrArg Obj.data (Option.some.inj hobj)
    cases w2
  have key : ∀ H : Hp, H P = some (.tbl #[]) → (∀ b, H b = none ∨ b = P ∨ ∃ o xs, H b = some (.frz o (.lst xs))) → SqL (Kf w.params) (fun b => if b = P then none else H b) a (ns.map V.int) → HOk l.prog w H s₁.heap → (∀ b, H b ≠ none → (b = a ∧ (Kf w.params).lookup a = none) ∨ b = P) →
      codeAny (model l.prog w) callerA (.call (.ref fa) ⟨[.ref a], []⟩) (fun r s' => r = .ok (.ret (.bool true)) ∧ OldK s₁.heap s'.heap ∧ s'.os = s₁.os ∧ AllBare s'.gens) s₁ := by
    intro H hP only seq hok here
    have notA : ∀ {b : Addr} {ob : Obj}, s₁.heap.get? b = some ob → (∀ vs n, ob.data ≠ .seq vs n) → ob.data ≠ .fields #[] → H b = none := fun {b ob} e d1 d2 => by
      rcases Classical.em (H b = none) with z | z
      · exact z
      · rcases here b z with ⟨eb, _⟩ | eb
        · subst eb
          have e2 := hobj.symm.trans e
          cases e2
          exact (d1 _ _ rfl).elim
        · subst eb
          have e2 := atP.symm.trans e
          cases e2
          exact (d2 rfl).elim
    have dictA : ∀ {b : Addr} {ob : Obj} {es : Array DictEntry} {ep : Nat}, s₁.heap.get? b = some ob → ob.data = .dict es ep → H b = none := fun {b ob es ep} e dd => notA e (fun vs n z => by rw [dd] at z; cases z) fun z => by rw [dd] at z; cases z
    have nsB : ∀ {b : Addr} {m : Str → Option Value}, s₁.heap.Ns b m → (hidT s₁.heap H).Ns b m := fun {b m} z => by
      obtain ⟨ob, es, ep, e, dd, r⟩ := z
      exact ⟨ob, es, ep, hidT_get e (dictA e dd), dd, r⟩
    have inB : (Kf w.params).In (hidT s₁.heap H) := fun b ob e => hidT_get (inH b ob e) (by
      rcases Classical.em (H b = none) with z | z
      · exact z
      · rcases here b z with ⟨eb, no⟩ | eb
        · subst eb
          rw [no] at e
          cases e
        · subst eb
          rw [noP] at e
          cases e)
    have md : Mod (Kf w.params) mg (hidT s₁.heap H) := ⟨inB, nsB Gr.T.g, ⟨mb, nsB Gr.T.b, Gr.T.builtins⟩, by
      obtain ⟨mc, z1, z2⟩ := Gr.T.nolimit
      exact ⟨mc, nsB z1, z2⟩⟩
    have tb : LamX.TabB (hidT s₁.heap H) mg c P := by
      refine ⟨codeT w _ inB, ?_, fun z => ?_⟩
      · obtain ⟨bm, ob, b1, b2, b3, b4, b5, b6⟩ := Gr.T.bmain
        have nG : bm ≠ mainGlobals := fun z => by
          obtain ⟨o2, es, ep, e, hd, _⟩ := Gr.T.g
          rw [z, e] at b3
          cases b3
          rw [hd] at b6
          cases b6
        have nP : bm ≠ P := fun z => by
          rw [z, atP] at b3
          cases b3
          cases b6
        exact ⟨bm, ob, b1, b2, nG, nP, hidT_get b3 (notA b3 (fun vs n z => by rw [b6] at z; cases z) fun z => by rw [b6] at z; cases z), b4, b5, b6⟩
      · obtain ⟨o2, es, ep, e, hd, _⟩ := Gr.T.g
        rw [z, atP] at e
        cases e
        cases hd
    have en : Env0 l.prog w (Kf w.params) mg (hidT s₁.heap H) callerA [] s₁ H := ⟨rfl, md, fun b ob e => of_hidT e, Nat.le_of_eq (hidT_size _ _), trivial, fun b hb => absurd (show b ∈ ([] : List Addr) from hb) (by simp), hok, .of_eq hgen⟩
    have cf : Cfg (Kf w.params) (fun _ => none) [(P, .tab lq)] (fun b => if b = P then none else H b) H := by
      refine ⟨fun b ob e => ?_, (fun b ob e => nomatch e), fun p hp => ?_, (fun q hq => absurd rfl hq), fun p hp => ?_, fun p hp => rfl, by simp⟩
      · have e : (if b = P then none else H b) = some ob := e
        by_cases z : b = P
        · rw [if_pos z] at e
          cases e
        · rw [if_neg z] at e
          exact e
      · rw [List.mem_singleton.mp hp]
        exact ⟨#[], hP, True.intro, fun pos cv hc => by
          have z : codeAmong pos [] = some cv := hc
          simp [codeAmong] at z⟩
      · rw [List.mem_singleton.mp hp]
        exact if_pos rfl
    have rsc : Rp (Kf w.params) (fun b => if b = P then none else H b) (.ref a) (.list (ns.map PyData.int)) := .rlst seq (Rps.of_ints ns)
    refine codeAny_mono (run_at (Q := fun v _ => v = .bl true) F1 S rfl room en (bnd _ _ _ F1 s₁ [.ref a] inH rfl) (show Vals [V.ref a] [Value.ref a] from .cons rfl .nil) fun cdv => ⟨_, pss_tw, body w _ mg (hidT s₁.heap H) fa cdv s₁ H ns dd tb hlen (fun _ => none) (L2.start N [.ref a]) _ H _ cf (slots_start (.cons rsc .nil)) (fun _ _ _ _ _ _ _ _ z => z.elim) (fun v y G2 B2 H2 _ _ r e => ?_)⟩) fun r s' h => ?_
    · subst e
      cases (show Rp _ _ v (.bool true) from r)
      rfl
    · match r, h with
      | .error e, h => exact h.elim
      | .ok .next, h => exact h.elim
      | .ok .brk, h => exact h.elim
      | .ok .cont, h => exact h.elim
      | .ok (.ret u), h =>
        obtain ⟨v, H', os, bare, un, hok', rl, ev⟩ := h
        have ev : v = .bl true := ev
        subst ev
        obtain rfl : u = Value.bool true := rl
        have old : ∀ b o, b ≠ P → s₁.heap.get? b = some o → s'.heap.get? b = some o := fun b o nb e => by
          rcases only b with z | z | ⟨ob2, xs, z⟩
          · exact un.keep b o e z (by intro y; exact absurd (show b ∈ ([] : List Addr) from y) (by simp)) (by simp)
          · exact absurd z nb
          · obtain ⟨g1, _⟩ := hok b _ z
            obtain ⟨g2, _⟩ := hok' b _ (un.frzs b ob2 _ z)
            rw [e] at g1
            cases g1
            exact g2
        obtain ⟨more, grown⟩ := un.tbls P #[] hP
        have grown2 : s'.heap.get? P = some { cls := .none, data := .fields (#[] ++ more) } := hok' P _ grown
        refine ⟨rfl, ⟨fun b o e => ?_, fun b o e => ?_⟩, os, bare⟩
        · by_cases nb : b = P
          · subst nb
            rw [atP] at e
            cases e
            exact .inr (.inl ⟨((codeT w _ inH).tab atP).isCodeTable, rfl, #[], #[] ++ more, rfl, by rw [Array.empty_append]; exact grown2⟩)
          · exact .inl (old b o nb e)
        · by_cases nb : b = P
          · subst nb
            exact ⟨_, grown2⟩
          · exact ⟨o, old b o nb e⟩
  cases lk : (Kf w.params).lookup a with
  | some ob =>
    have e := inH a ob lk
    rw [hobj] at e
    cases e
    refine key (fun b => if b = P then some (.tbl #[]) else none) (if_pos rfl) (fun b => ?_) (.inr ⟨_, vs.toArray, _, lk, rfl, rfl, rfl, by rw [List.size_toArray, hints.length]; exact hz, by simpa using rel⟩) (fun b u z => ?_) fun b z => ?_
    · by_cases e : b = P
      · exact .inr (.inl e)
      · exact .inl (if_neg e)
    · by_cases e : b = P
      · have z := (if_pos e).symm.trans z
        cases z
        rw [e]
        exact atP
      · have z := (if_neg e).symm.trans z
        cases z
    · by_cases e : b = P
      · exact .inr e
      · exact absurd (if_neg e) z
  | none =>
    refine key (fun b => if b = P then some (.tbl #[]) else if b = a then some (.frz { cls := .type "list", data := .seq vs.toArray } (.lst (ns.map V.int))) else none) (if_pos rfl) (fun b => ?_) (.inl (.inr ⟨{ cls := .type "list", data := .seq vs.toArray }, ?_⟩)) (fun b u z => ?_) fun b z => ?_
    · by_cases e : b = P
      · exact .inr (.inl e)
      · by_cases e2 : b = a
        · exact .inr (.inr ⟨_, _, (if_neg e).trans (if_pos e2)⟩)
        · exact .inl ((if_neg e).trans (if_neg e2))
    · show (if a = P then none else if a = P then some (HO.tbl #[]) else if a = a then _ else none) = _
      rw [if_neg aP, if_neg aP, if_pos rfl]
    · by_cases e : b = P
      · have z := (if_pos e).symm.trans z
        cases z
        rw [e]
        exact atP
      · have z := (if_neg e).symm.trans z
        by_cases e2 : b = a
        · have z := (if_pos e2).symm.trans z
          cases z
          rw [e2]
          exact ⟨hobj, by rw [List.length_map]; exact hz, vs, _, rel, hobj⟩
        · have z := (if_neg e2).symm.trans z
          cases z
    · by_cases e : b = P
      · exact .inr e
      · by_cases e2 : b = a
        · exact .inl ⟨e2, lk⟩
        · exact absurd ((if_neg e).trans (if_neg e2)) z
end Fsh

set_option Elab.async false
set_option linter.all false
set_option maxRecDepth 100000
set_option maxHeartbeats 2000000
namespace Fsh
open PySem PySem.Spec PyProof.Rows L2
/-! ### an own exception class of one field, as the top leaves it -/
structure XcF (K : PySem.W.Frag) (mg : Str → Option Value) (x base f qual : Str) (st : Stmt) (C : Addr) : Prop where
  at_ : mg x = some (.ref C)
  ox : OexC K C
  ek : ExcK K C
  no : PySem.W.findIn K (.ref C) f = some none
  ba : ∃ D, mg base = some (.ref D) ∧ BaseI K D
  ini : ∃ fI fd, PySem.W.findIn K (.ref C) "__init__" = some (some (.ref fI)) ∧ PySem.W.typeIn K (.ref fI) = some (.type "function") ∧ Fun K "__init__" qual st fI fd
theorem xcf_ox {K : PySem.W.Frag} {C : Addr} {nm q : Str} {N : Addr} {bs bm : List Value} {sn : List Str} {sub : List Value} {ab : Bool} {col : Option Bool} {dd : Option Addr} {k0 k1 k2 k3 k5 : Option Value}
    (lC : K.lookup C = some (excClassObj nm q C N bs bm true sn sub ab col dd k0 k1 k2 k3 k5 "ValueError.__new__")) (rv : PySem.HandSPX.refsVE bm = true) (sa : PySem.W.findIn K (.ref C) "__setattr__" = some (some (.builtin "object.__setattr__"))) (exC : PySem.W.subIn K (.ref C) (.type "BaseException") = some true)
    (tyC : PySem.W.typeIn K (.ref C) = some (.type "type")) (kC : PySem.W.keepIn K (.ref C) = true) : OexC K C := ⟨⟨nm, q, N, bs, bm, sn, sub, ab, col, dd, k0, k1, k2, k3, k5, lC, rv⟩, sa, exC, tyC, kC⟩
theorem xcf_ini {K : PySem.W.Frag} {C fI : Addr} {qual : Str} {st : Stmt} {od an : Option Addr} {sl : Array (Option Value)} {oc kV dc pm cd ct : Value} (i1 : PySem.W.findIn K (.ref C) "__init__" = some (some (.ref fI))) (i2 : PySem.W.typeIn K (.ref fI) = some (.type "function"))
    (l : K.lookup fI = some ⟨oc, od, .func (PySem.W.fnOf "__init__" qual (defArgs st) (defBody st) (defScope st) .none kV dc pm an cd ct), sl⟩) (c : PySem.W.codeIn K cd qual = true) (k : PySem.W.keepIn K (.ref fI) = true) :
    ∃ fI fd, PySem.W.findIn K (.ref C) "__init__" = some (some (.ref fI)) ∧ PySem.W.typeIn K (.ref fI) = some (.type "function") ∧ Fun K "__init__" qual st fI fd := ⟨fI, _, i1, i2, fun_mk l c k⟩
/-- a class of the program by its name -/
structure ClsAt (K : PySem.W.Frag) (mg : Str → Option Value) (x : Str) (C : Addr) (b : Bool) : Prop where
  ex : ∃ T, mg x = some (.ref T) ∧ PySem.W.kitOne K (.ref C) (.ref T) = some b
theorem cls_mk {K : PySem.W.Frag} {h : Heap} {mg : Str → Option Value} {x : Str} {C T : Addr} {b : Bool} (X : K.In h) (G : h.Ns mainGlobals mg) (a : PySem.W.nsIn K mainGlobals x = some (some (.ref T))) (e : PySem.W.kitOne K (.ref C) (.ref T) = some b) : ClsAt K mg x C b := ⟨T, PySem.W.mg_of X G a, e⟩
structure ExmAt (K : PySem.W.Frag) (mg : Str → Option Value) (x : Str) (C : Addr) : Prop where
  ex : ∃ T, mg x = some (.ref T) ∧ PySem.W.exmOne K (.ref C) (.ref T) = some true
theorem exm_mk {K : PySem.W.Frag} {h : Heap} {mg : Str → Option Value} {x : Str} {C T : Addr} (X : K.In h) (G : h.Ns mainGlobals mg) (a : PySem.W.nsIn K mainGlobals x = some (some (.ref T))) (e : PySem.W.exmOne K (.ref C) (.ref T) = some true) : ExmAt K mg x C := ⟨T, PySem.W.mg_of X G a, e⟩
/-! ### a def whose code object is known -/
structure DefInC (K : PySem.W.Frag) (mg : Str → Option Value) (x : Str) (st : Stmt) (c : Addr) : Prop where
  ex : ∃ f oc od kV dc pm an ct sl, K.lookup f = some ⟨oc, od, .func (PySem.W.fnOf x x (defArgs st) (defBody st) (defScope st) .none kV dc pm an (.ref c) ct), sl⟩ ∧ PySem.W.codeIn K (.ref c) x = true ∧ PySem.W.keepIn K (.ref f) = true ∧ mg x = some (.ref f)
theorem defC_mk {x : Str} {st : Stmt} {K : PySem.W.Frag} {h : Heap} {mg : Str → Option Value} {f c : Addr} {od an : Option Addr} {sl : Array (Option Value)} {oc kV dc pm ct : Value} (X : K.In h) (G : h.Ns mainGlobals mg)
    (a : PySem.W.nsIn K mainGlobals x = some (some (.ref f))) (l : K.lookup f = some ⟨oc, od, .func (PySem.W.fnOf x x (defArgs st) (defBody st) (defScope st) .none kV dc pm an (.ref c) ct), sl⟩) (cd : PySem.W.codeIn K (.ref c) x = true) (k : PySem.W.keepIn K (.ref f) = true) : DefInC K mg x st c :=
  ⟨f, oc, od, kV, dc, pm, an, ct, sl, l, cd, k, PySem.W.mg_of X G a⟩
theorem fg_ruleC {P : Program} {w : World} {K : PySem.W.Frag} {mg : Str → Option Value} {base : Heap} {k : Nat} {x : Str} {ps : List Str} {Z : Spec} {st : Stmt} {N : List Str} {c : Addr} (D : DefInC K mg x st c) (S : FnScope N ps (defScope st)) (bnd : ∀ (f : Addr) (fd : FuncData), Fun K x x st f fd → Binds K fd ps []) (len : ∀ xs G Φ, Z xs G Φ → xs.length = ps.length)
    (body : ∀ (f : Addr) (A : Around) (outer : List PySem.Env) (s : Shared) (H : Hp), Room k (A.deeper (envOfC x (defScope st) s.heap.objs.size f (.ref c))) → A.guards = some [] → ∀ xs G Φ, Z xs G Φ →
      Xss (cxOf CX0 P w K mg base N x (defScope st) f (.ref c) A outer s H E0).nox (defBody st) (start0 N xs) G (fun _ G2 => Φ (.d .none) G2) Φ) : Fg P w K mg base (k + 1) x ps Z := by
  obtain ⟨f, oc, od, kV, dc, pm, an, ct, sl, look, code, kp, hm⟩ := D.ex
  have F1 : Fun K x x st f _ := fun_mk look code kp
  refine ⟨f, _, len, fun A outer s H args us vs Q room hg en bd rel sp => ?_, hm, kp, bnd f _ F1⟩
  obtain ⟨F, G, B, xs, Φ, cf, r, z, kk⟩ := sp
  have hlen : vs.length = ps.length := r.len.trans (len xs G Φ z)
  have inS := en.mod.kin.keeps fun b o e => (en.bs b o e).1
  have noLim := en.mod.nolimit.keeps fun b o e => (en.bs b o e).1
  have kinds : ∀ y ∈ ps.zip us, (defScope st).names.lookup y.1 = some .local ∨ ((defScope st).names.lookup y.1 = some .cell ∧ ((cellsFrom (s.heap.objs.size + 1) (defScope st).names []).lookup y.1).isSome = true) := fun y hy => by
    obtain ⟨n, v⟩ := y
    rcases S.par n (List.of_mem_zip hy).1 with loc | cel
    · exact Or.inl loc
    · exact Or.inr ⟨cel, PySem.W.cellsFrom_some _ _ _ (Or.inl cel)⟩
  refine codeAny_call_function room.depth (inS _ _ look) rfl S.co S.gen rfl (PySem.W.codeRec_of inS code) (bd _ _ _ _ ?_)
  refine wpAny_newFunctionEnv_cells S.kind kinds fun env0 isE sA inC => ?_
  subst isE
  refine ⟨noLim.keeps inC.toInCall.keep, codeAny_func ?_⟩
  have inv0 : Inv (cxOf CX0 P w K mg base N x (defScope st) f (.ref c) A outer s H E0) [] (L2.start N vs) H sA := inv_start S room.hd en hlen rel inC
  have run := body f A outer s H (room.deeper _) hg xs G Φ z F (L2.start N vs) B H { nx := fun _ H' => Q .non H', rt := Q } cf (slots_start r) (fun ρ' σ' G2 B2 H2 e2 c2 s2 q => kk .non (.d .none) G2 B2 H2 e2 c2 .rnon q) kk
  refine wpAny_mono ((pss_tw (X := (cxOf CX0 P w K mg base N x (defScope st) f (.ref c) A outer s H E0).nox)).nox.run [] sA (L2.start N vs) H _ inv0 run) (fun fl sB hs => ?_) fun _ _ hs => hs
  match fl, hs with
  | .ret u, hs =>
    obtain ⟨v, σ', H', J, rv, q⟩ := hs
    exact ⟨v, H', J.os, J.bare, J.base, J.hok, rv, q⟩
  | .next, hs =>
    obtain ⟨σ', H', J, q⟩ := hs
    exact ⟨V.non, H', J.os, J.bare, J.base, J.hok, rfl, q⟩
  | .brk, hs =>
    obtain ⟨_, _, _, q⟩ := hs
    exact q.elim
  | .cont, hs =>
    obtain ⟨_, _, _, q⟩ := hs
    exact q.elim
end Fsh

set_option Elab.async false
set_option linter.all false
set_option maxRecDepth 100000
set_option maxHeartbeats 4000000
namespace Fsh
open PySem PySem.Spec PyProof.Rows L2
/-! ### sets of texts: their members told by a list without repetition -/
def txOf (v : Value) : Str := match v with
  | .str x _ => x
  | _ => Str.empty
def txP (p : Int × Value) : Str := txOf p.2
structure TxE (w : World) (p : Int × Value) : Prop where
  ex : ∃ x t, p.2 = Value.str x t ∧ p.1 = hashStr w x
structure TxS (w : World) (h : Heap) (a : Addr) (L : List Str) : Prop where
  ex : ∃ (ob : Obj) (vv : Array (Int × Value)) (nn : Nat) (tb : SetTable), h.get? a = some ob ∧ ob.ExactSet ∧ ob.data = .set vv nn tb ∧ (∀ p ∈ vv.toList, TxE w p) ∧ (vv.toList.map txP).Perm L ∧ L.Nodup ∧
    vv.size < scanBound ∧ tb.fits vv.size = true ∧ Ris tb.place.toList ∧ (w.params.followText "set-order" = true ∨ tb.led = true)
section
variable {P : Program} {w : World} {h h2 : Heap} {a : Addr} {L : List Str}
theorem TxS.go (z : TxS w h a L) (k : ∀ ob, h.get? a = some ob → h2.get? a = some ob) : TxS w h2 a L := by
  obtain ⟨ob, vv, nn, tb, h1, z⟩ := z.ex
  exact ⟨ob, vv, nn, tb, k ob h1, z⟩
theorem txs_new (hq : h.get? a = some { cls := .type "set", dict := none, data := .set #[] 0 (.fresh 0 0 (!w.params.followText "set-order")) }) : TxS w h a [] := by
  refine ⟨_, #[], 0, _, hq, ⟨rfl, rfl, rfl⟩, rfl, fun p hp => ?_, .refl _, .nil, by decide, by rfl, .nil, ?_⟩
  · simp at hp
  · show _ ∨ (!w.params.followText "set-order") = true
    cases w.params.followText "set-order" <;> simp
theorem txe_elems {l : List (Int × Value)} (g : ∀ p ∈ l, TxE w p) : ElemsOf (PySem.strKind P w) l := fun p hp => by
  obtain ⟨x, t, e1, e2⟩ := (g p hp).ex
  refine ⟨⟨x, ?_, e2⟩, ?_⟩
  · rw [e1]
    exact PySem.strKind_is _ _ _ _
  · rw [e1]
    rfl
theorem txe_is {p : Int × Value} (g : TxE w p) (x : Str) : (PySem.strKind P w).is x p.2 = true ↔ txP p = x := by
  obtain ⟨y, t, e1, _⟩ := g.ex
  unfold txP
  rw [e1]
  show Value.isStrOf x (.str y t) = true ↔ y = x
  constructor
  · intro z
    obtain ⟨u, z2⟩ := Value.isStrOf_shape z
    injection z2
  · intro z
    subst z
    exact PySem.strKind_is P w y t
theorem txe_mem {l : List (Int × Value)} (g : ∀ p ∈ l, TxE w p) (x : Str) : x ∈ l.map txP ↔ ∃ p ∈ l, (PySem.strKind P w).is x p.2 = true := by
  rw [List.mem_map]
  exact ⟨fun ⟨p, hp, q⟩ => ⟨p, hp, (txe_is (g p hp) x).mpr q⟩, fun ⟨p, hp, q⟩ => ⟨p, hp, (txe_is (g p hp) x).mp q⟩⟩
theorem TxS.setOf (z : TxS w h a L) : h.SetOf (PySem.strKind P w) a (fun x => decide (x ∈ L)) L.length := by
  obtain ⟨ob, vv, nn, tb, h1, hx, hd, g, pm, nd, hb, hf, hr, hl⟩ := z.ex
  refine ⟨ob, vv, nn, tb, h1, hx, hd, txe_elems g, fun x => ?_, hb, hf, ?_⟩
  · rw [decide_eq_true_eq, ← pm.mem_iff]
    exact txe_mem g x
  · rw [← Array.length_toList, ← pm.length_eq, List.length_map]
end
def addTx (L : List Str) (x : Str) : List Str := if x ∈ L then L else x :: L
theorem addTx_mem {L : List Str} {x y : Str} : y ∈ addTx L x ↔ y = x ∨ y ∈ L := by
  unfold addTx
  by_cases z : x ∈ L
  · rw [if_pos z]
    exact ⟨.inr, fun q => q.elim (fun e => e ▸ z) id⟩
  · rw [if_neg z]
    exact List.mem_cons
theorem addTx_nd {L : List Str} {x : Str} (n : L.Nodup) : (addTx L x).Nodup := by
  unfold addTx
  by_cases z : x ∈ L
  · rw [if_pos z]
    exact n
  · rw [if_neg z]
    exact List.nodup_cons.mpr ⟨z, n⟩
theorem addTx_len (L : List Str) (x : Str) : (addTx L x).length ≤ L.length + 1 := by
  unfold addTx
  by_cases z : x ∈ L
  · rw [if_pos z]
    omega
  · rw [if_neg z]
    exact Nat.le_refl _
section
variable {P : Program} {w : World} {A : Around} {E : Value → Shared → Prop} {s : Shared} {a : Addr} {L : List Str}
theorem tx_tail {gv : Bool → Sem Unit} (hg : ∀ (b : Bool) (s1 : Shared) (Q1 : Unit → Shared → Prop), Q1 () s1 → wpAny (model P w) A (gv b) Q1 E s1) {ob : Obj} {vv : Array (Int × Value)} {nn : Nat} {tb : SetTable} (h1 : s.heap.get? a = some ob) (hx : ob.ExactSet) (hd : ob.data = .set vv nn tb)
    {v1 : Array (Int × Value)} {t2 : SetTable} {M : List Str} (g1 : ∀ p ∈ v1.toList, TxE w p) (p1 : (v1.toList.map txP).Perm M) (nd : M.Nodup) (hb1 : v1.size < scanBound) (hf2 : t2.fits v1.size = true) (hr : Ris t2.place.toList) (hl : w.params.followText "set-order" = true ∨ t2.led = true) {wd : Bool} {R : Option Bool → Shared → Prop}
    (hR : ∀ h2, Heap.SameBut a s.heap h2 → TxS w h2 a M → R (some true) { s with heap := h2 }) :
    wpAny (model P w) A (do
        storeSet a v1 t2
        if (!wd && t2.tooFull) = true then do
            gv (relayAll t2 v1 (SetTable.grown v1.size)).2.2
            storeSet a (relayAll t2 v1 (SetTable.grown v1.size)).1 (relayAll t2 v1 (SetTable.grown v1.size)).2.1
            pure (some true)
          else pure (some true)) R E s := by
  refine wpAny_bind (wpAny_storeSet_of h1 hd ?_ (fits_of_scanBound hb1))
  have at1 := L2.store_at (es' := v1) (t' := t2) h1 hd
  have same1 := Heap.SameBut.update s.heap a (Obj.putSet v1 t2)
  split
  · have q1 := relayAll_perm t2 v1 (SetTable.grown v1.size)
    have q2 := relayAll_fits t2 v1 (SetTable.grown v1.size)
    have q3 := relayAll_ris t2 v1 (SetTable.grown v1.size)
    have q4 := relayAll_led t2 v1 (SetTable.grown v1.size)
    generalize relayAll t2 v1 (SetTable.grown v1.size) = Y at q1 q2 q3 q4 ⊢
    obtain ⟨v2, t3, gave⟩ := Y
    dsimp only at q1 q2 q3 q4 ⊢
    have sz : v2.size = v1.size := by rw [← Array.length_toList, q1.length_eq, Array.length_toList]
    have b2 : v2.size < scanBound := sz ▸ hb1
    refine wpAny_bind (hg _ _ _ ?_)
    refine wpAny_bind (wpAny_storeSet_of at1 rfl ?_ (fits_of_scanBound b2))
    have at2 := L2.store_at (es' := v2) (t' := t3) at1 rfl
    refine wpAny_pure (hR _ (same1.trans (Heap.SameBut.update _ a _)) ⟨_, v2, _, t3, at2, hx, rfl, fun p hp => g1 p (q1.mem_iff.mp hp), (q1.map txP).trans p1, nd, b2, q2, q3, ?_⟩)
    exact hl.imp id fun z => by rw [q4]; exact z
  · exact wpAny_pure (hR _ same1 ⟨_, v1, _, t2, at1, hx, rfl, g1, p1, nd, hb1, hf2, hr, hl⟩)
theorem tx_put {x : Str} {tk : Tok} {Q : Bool → Shared → Prop} (z : TxS w s.heap a L) (room : L.length + 1 < scanBound)
    (hQ : ∀ b h2, Heap.SameBut a s.heap h2 → TxS w h2 a (addTx L x) → Q b { s with heap := h2 }) : wpAny (model P w) A (setAddHashed a (.str x tk) ((PySem.strKind P w).hash x)) Q E s := by
  obtain ⟨ob, vv, nn, tb, h1, hx, hd, g, pm, nd, hb, hf, hr, hl⟩ := z.ex
  have key : (PySem.strKind P w).is x (.str x tk) = true := PySem.strKind_is P w x tk
  have sc : (Value.str x tk).scannable = true := rfl
  have el : ElemsOf (PySem.strKind P w) vv.toList := txe_elems g
  have szv : vv.size = L.length := by rw [← Array.length_toList, ← pm.length_eq, List.length_map]
  unfold setAddHashed setAddHashedIn
  refine wpAny_holding (wpAny_bind (wpAny_setState_of h1 hd hf ?_))
  dsimp only
  rw [byScan_of sc hb el]
  simp only [↓reduceIte]
  unfold setAddByScan
  refine wpAny_bind ?_
  refine wpAny_bind (wpAny_rule ?_)
  refine wpAny_bind (wpAny_setScan_of key h1 hd hf el ?_)
  cases hfi : List.findIdx? (fun p => (PySem.strKind P w).is x p.2) vv.toList with
  | some j =>
    dsimp only
    obtain ⟨hj, pj, _⟩ := List.findIdx?_eq_some_iff_getElem.mp hfi
    have inL : x ∈ L := pm.mem_iff.mp ((txe_mem (P := P) g x).mpr ⟨vv.toList[j], List.getElem_mem hj, pj⟩)
    refine wpAny_pure (wpAny_pure ?_)
    refine hQ _ s.heap (Heap.SameBut.refl a s.heap) ⟨ob, vv, nn, tb, h1, hx, hd, g, ?_, addTx_nd nd, hb, hf, hr, hl⟩
    unfold addTx
    rw [if_pos inL]
    exact pm
  | none =>
    dsimp only
    have outL : x ∉ L := fun q => by
      obtain ⟨p, hp, q2⟩ := (txe_mem (P := P) g x).mp (pm.mem_iff.mpr q)
      have q3 := List.findIdx?_eq_none_iff.mp hfi p hp
      rw [q2] at q3
      cases q3
    have gw : ∀ (b : Bool) {s1 : Shared} {Q1 : Unit → Shared → Prop}, Q1 () s1 → wpAny (model P w) A (match b with | true => rule "set.scan.the-table-gave-way" | false => pure ()) Q1 E s1 := fun b s1 Q1 q => by
      cases b
      · exact wpAny_pure q
      · exact wpAny_rule q
    have q1 := layNew_perm tb vv ((PySem.strKind P w).hash x) (.str x tk)
    have q2 := layNew_fits tb vv ((PySem.strKind P w).hash x) (.str x tk)
    have q3 := layNew_ris tb vv ((PySem.strKind P w).hash x) (.str x tk) hr
    have q4 := layNew_led tb vv ((PySem.strKind P w).hash x) (.str x tk)
    generalize layNew tb vv ((PySem.strKind P w).hash x) (.str x tk) = Y at q1 q2 q3 q4 ⊢
    obtain ⟨v1, t1, wd, gave⟩ := Y
    dsimp only at q1 q2 q3 q4 ⊢
    rw [Array.toList_push] at q1
    have pc : v1.toList.Perm (((PySem.strKind P w).hash x, Value.str x tk) :: vv.toList) := q1.trans (List.perm_append_singleton _ _)
    have g1 : ∀ p ∈ v1.toList, TxE w p := fun p hp => by
      rcases List.mem_cons.mp (pc.mem_iff.mp hp) with e | e
      · exact ⟨x, tk, by rw [e], by rw [e]; rfl⟩
      · exact g p e
    have p1 : (v1.toList.map txP).Perm (addTx L x) := by
      unfold addTx
      rw [if_neg outL]
      exact (pc.map txP).trans (.cons x pm)
    have sz1 : v1.size < scanBound := by
      have := pc.length_eq
      rw [List.length_cons, Array.length_toList, Array.length_toList] at this
      omega
    have led1 : w.params.followText "set-order" = true ∨ t1.led = true := hl.imp id fun e => by rw [q4]; exact e
    refine wpAny_bind (gw _ ?_)
    split
    · refine wpAny_bind ?_
      rw [hashByValue_scannable 8 sc]
      refine wpAny_pure ?_
      refine tx_tail ?_ h1 hx hd g1 p1 (addTx_nd nd) sz1 ?_ ?_ ?_ ?_
      · intro b s1 Q1 q
        cases b
        · exact wpAny_pure q
        · exact wpAny_rule q
      · first | (split <;> first | exact q2 | exact SetTable.fits_plain_off q2) | exact q2
      · first | (split <;> exact q3) | exact q3
      · first | (split <;> exact led1) | exact led1
      · intro h2 sb r
        dsimp only
        exact wpAny_pure (hQ _ h2 sb r)
    · refine wpAny_bind (wpAny_pure ?_)
      simp only [↓reduceIte]
      refine tx_tail ?_ h1 hx hd g1 p1 (addTx_nd nd) sz1 q2 q3 led1 ?_
      · intro b s1 Q1 q
        cases b
        · exact wpAny_pure q
        · exact wpAny_rule q
      · intro h2 sb r
        dsimp only
        exact wpAny_pure (hQ _ h2 sb r)
/-- S.add(x) -/
theorem tx_add {x : Str} {tk : Tok} {Q : Value → Shared → Prop} (z : TxS w s.heap a L) (room : L.length + 1 < scanBound)
    (hQ : ∀ h2, Heap.SameBut a s.heap h2 → TxS w h2 a (addTx L x) → Q .none { s with heap := h2, toks := s.toks + 1 }) : wpAny (model P w) A (call (.builtin "set.add") [.ref a, .str x tk]) Q E s := by
  have so : s.heap.SetOf (PySem.strKind P w) a (fun y => decide (y ∈ L)) L.length := z.setOf
  refine wpAny_call_entry F.slot_set_add so.typeIs F.entry_set_add ?_ (F.args_set_add_2 _ _)
  unfold Builtin.«set.add» Builtin.Frozenset.oneOther
  simp only [List.isEmpty_nil, bind_assoc]
  unfold Builtin.Frozenset.addrOf setAdd
  refine wpAny_bind (wpAny_pure ?_)
  try dsimp only
  refine wpAny_bind (wpAny_pure ?_)
  try dsimp only
  refine wpAny_bind ?_
  refine wpAny_holding ?_
  refine wpAny_bind ((PySem.strKind P w).pyHash (PySem.strKind_is P w x tk) ?_)
  refine tx_put (s := { s with toks := s.toks + 1 }) z room fun b h2 sb r => ?_
  show wpAny _ _ (ret Value.none) _ _ _
  exact wpAny_pure ⟨_, rfl, hQ h2 sb r⟩
end
end Fsh

set_option Elab.async false
set_option linter.all false
set_option maxRecDepth 100000
set_option maxHeartbeats 4000000
namespace Fsh
open PySem PySem.Spec PyProof.Rows L2
/-! ### sets of texts as tracked things -/
def TxO (w : World) (a : Addr) (L : List Str) : HO := .ext fun h => TxS w h a L
theorem txo_new {w : World} {P : Program} {H : Hp} {h : Heap} {a : Addr} {L : List Str} (z : TxS w h a L) : ObjOk P w H h a (TxO w a L) := by
  have ⟨ob, _, _, _, h1, _⟩ := z.ex
  exact ⟨z, ⟨ob, h1⟩, fun _ _ p k => TxS.go p k⟩
section
variable {X : Cx}
theorem txo_get {pins : List (Addr × Obj)} {σ : L2.St} {H : Hp} {s : Shared} {a : Addr} {L : List Str} (I : Inv X pins σ H s) (ha : H a = some (TxO X.w a L)) : TxS X.w s.heap a L := (I.hok a _ ha).1
theorem txo_add {pins : List (Addr × Obj)} {σ : L2.St} {H : Hp} {s : Shared} {E : Value → Shared → Prop} {a : Addr} {L : List Str} {x : Str} {tk : Tok} {Q : Value → Shared → Prop} (I : Inv X pins σ H s) (ha : H a = some (TxO X.w a L)) (room : L.length + 1 < scanBound)
    (h : ∀ z, Inv X pins σ (upd H a (TxO X.w a (addTx L x))) z → Q .none z) : wpAny (model X.prog X.w) X.A (call (.builtin "set.add") [.ref a, .str x tk]) Q E s := by
  refine tx_add (txo_get I ha) room fun h2 sb new => ?_
  have there : ∃ u, h2.get? a = some u := by
    have ⟨ob, _, _, _, h1, _⟩ := new.ex
    exact ⟨ob, h1⟩
  exact h _ (I.write (e := a) (t' := s.toks + 1) (by rw [ha]; trivial) (.inl rfl) (fun b u nb hu => (sb.2 b nb).trans hu) there (txo_new new))
/-- {elt for tg in iter if ..}, elt a text -/
def tScX (w : World) (wi : TI) (g : TG) (tt : TT) (te : TE) (vs : List Nat) : TE := fun σ H Q => wi σ H fun J H1 => ∀ D, H1 D = none → ∃ W : Nat → Nat → Hp → Prop, (∃ m, W 0 m (upd H1 D (TxO w D []))) ∧ ∀ i m H, W i m H →
  (J.stop i H ∧ Q (.ref D) H) ∨ (J.go i H ∧ ∃ Nx : Hp → Prop, (∀ H2, Nx H2 → ∃ m2, m2 < m ∧ W (i + 1) m2 H2) ∧ ∀ y H2, J.yld i H y H2 → g y (wipe σ vs) H2 fun σ2 H3 => wipe σ2 vs = wipe σ vs ∧ tt σ2 H3 fun b H4 =>
    if b = true then te σ2 H4 fun z H5 => ∃ (x : Str) (L : List Str), z = .str x ∧ H5 D = some (TxO w D L) ∧ L.length + 1 < scanBound ∧ Nx (upd H5 D (TxO w D (addTx L x))) else Nx H4)
set_option maxHeartbeats 8000000 in
theorem pe_scX {elt tg iter : Expr} {ifs : List Expr} {scope : Scope} {own : List (Str × Nat)} {pos : Pos} {wi : TI} {g : TG} {tt : TT} {te : TE} (hc : X.calm = true) (hN : X.N.Nodup) (hi : PI X tg iter wi) (ok : BlkOk X.N X.env.scope scope own)
    (hg : ∀ (z : Shared) (H : Hp) (C : Addr) (cl : List (Str × Addr)) (fp : List Addr), PG (X.blk z H scope (compEnvC scope cl C X.env) fp) tg g) (ht : ∀ (z : Shared) (H : Hp) (C : Addr) (cl : List (Str × Addr)) (fp : List Addr), PTs (X.blk z H scope (compEnvC scope cl C X.env) fp) ifs tt)
    (he : ∀ (z : Shared) (H : Hp) (C : Addr) (cl : List (Str × Addr)) (fp : List Addr), PE (X.blk z H scope (compEnvC scope cl C X.env) fp) elt te) (hs : ∀ x, foldedSetIterable iter X.env x = pure x) :
    PE X (.SetComp elt [⟨tg, iter, ifs, 0⟩] scope pos) (tScX X.w wi g tt te (own.map (·.2))) := by
  refine ⟨fun pins s σ H Q I wish => ?_⟩
  rw [PpSet.eval_SetComp]
  have caught : ∀ y ∈ scope.names, y.2 = .free → ∃ c, X.env.cells.lookup y.1 = some c := fun y hy fr => (ok.free y hy fr).elim (fun z => I.ok.has _ (Or.inl z)) fun z => I.ok.has _ (Or.inr z)
  refine wpAny_comprehension_free rfl hs (closure_ok caught) ok.kind (fun y hy loc => by rw [ok.uniq y hy, loc]) ?_
  refine thn (hi.run pins s σ H _ I wish) fun xv s1 hx => thn hx fun itv s2 got => ?_
  obtain ⟨it, fp, tn, J, H2, e0, I2, T, st2, f2, wish⟩ := got
  subst e0
  refine PpSet.newSet_ok (newEnv_comp ?_)
  generalize hD : s2.heap.objs.size = D
  have freshD : H2 D = none := I2.hok.fresh (Nat.le_of_eq hD)
  obtain ⟨W, ⟨m0, w0⟩, turn⟩ := wish D freshD
  generalize hB : ({ s2 with heap := s2.heap.push { cls := .type "set", dict := none, data := .set #[] 0 (.fresh 0 0 (!X.w.params.followText "set-order")) } } : Shared) = sB
  have heapB : sB.heap = s2.heap.push { cls := .type "set", dict := none, data := .set #[] 0 (.fresh 0 0 (!X.w.params.followText "set-order")) } := by rw [← hB]
  have IB : Inv X pins σ (upd H2 D (TxO X.w D [])) sB := by
    rw [← hB]
    refine I2.laid (t' := s2.toks) (fun b o z => Heap.get?_push_of_some _ z) (Nat.le_of_eq hD) (txo_new (txs_new ?_))
    rw [← hD]
    exact Heap.get?_push_size _ rfl
  have fpLt : ∀ b ∈ fp, b < s2.heap.objs.size := fun b hb => by
    obtain ⟨o, q, _⟩ := T.obj _ _ st2 b hb
    exact Heap.lt_size q
  have fpB : ∀ b ∈ fp, FpOk X pins (upd H2 D (TxO X.w D [])) b ∧ b < sB.heap.objs.size := fun b hb => by
    have lt := fpLt b hb
    have ne : b ≠ D := by
      rw [← hD]
      exact Nat.ne_of_lt lt
    refine ⟨⟨by rw [upd_ne ne]; exact (f2 b hb).1, (f2 b hb).2⟩, ?_⟩
    rw [heapB, Heap.size_push]
    exact Nat.lt_succ_of_lt lt
  have stB : tn 0 sB.heap := T.keep _ _ _ st2 fun b _ o z => by
    rw [heapB]
    exact Heap.get?_push_of_some _ z
  have IC0 := block_start IB ok hN fpB
  have pg := hg sB (upd H2 D (TxO X.w D [])) sB.heap.objs.size (cellsFrom (sB.heap.objs.size + 1) scope.names (cloFrom X.env.cells scope.names [])) fp
  have pt := ht sB (upd H2 D (TxO X.w D [])) sB.heap.objs.size (cellsFrom (sB.heap.objs.size + 1) scope.names (cloFrom X.env.cells scope.names [])) fp
  have pe := he sB (upd H2 D (TxO X.w D [])) sB.heap.objs.size (cellsFrom (sB.heap.objs.size + 1) scope.names (cloFrom X.env.cells scope.names [])) fp
  show codeAny _ _ (.compStart (.SetComp elt [⟨tg, iter, ifs, 0⟩] scope pos) 0 (.ref it) (.ref D) (compEnvC scope (cellsFrom (sB.heap.objs.size + 1) scope.names (cloFrom X.env.cells scope.names [])) sB.heap.objs.size X.env))
    (compPost (model X.prog X.w) X.A X.xe _ _ (.ref D) sB.heap.objs.size) { sB with heap := pushCells (sB.heap.push { cls := .type "dict", data := .dict #[] }) scope.names }
  generalize hE : compEnvC scope (cellsFrom (sB.heap.objs.size + 1) scope.names (cloFrom X.env.cells scope.names [])) sB.heap.objs.size X.env = ev at IC0 pg pt pe ⊢
  have evL : ev.locals = sB.heap.objs.size := by
    subst hE
    rfl
  generalize hH : upd H2 D (TxO X.w D []) = HB at IB IC0 pg pt pe w0 fpB
  generalize hC : ({ sB with heap := pushCells (sB.heap.push { cls := .type "dict", data := .dict #[] }) scope.names } : Shared) = sC at IC0 ⊢
  have stC : tn 0 sC.heap := T.keep _ _ _ stB fun b _ o z => by
    rw [← hC]
    exact pushCells_keeps _ _ _ _ (Heap.get?_push_of_some _ z)
  have stat : ∀ {τ : L2.St} {HH : Hp} {z : Shared}, Inv (X.blk sB HB scope ev fp) [] τ HH z → (∀ b ∈ fp, HH b = none) → ∀ b ∈ fp, FpOk (X.blk sB HB scope ev fp) [] HH b := fun {τ HH z} J0 nn b hb =>
    ⟨nn b hb, (J0.ok.exf b hb).1, J0.ok.exfs b hb, .inl hb, fun y c e => (J0.ok.exf b hb).2 y c e, fun q hq => absurd (show q ∈ ([] : List (Addr × Obj)) ++ [] from hq) (by simp)⟩
  have loop : codeAny (model X.prog X.w) X.A (.compLoop (.SetComp elt [⟨tg, iter, ifs, 0⟩] scope pos) 0 (.ref it) (.ref D) ev) (compPost (model X.prog X.w) X.A X.xe none (fun v s' => ∃ (x : V) (H' : Hp), Inv X pins σ H' s' ∧ RelV x v ∧ Q x H') (.ref D) sB.heap.objs.size) sC := by
    refine PpSet.compLoopS_any (fun m z => ∃ (i : Nat) (HH : Hp), Inv (X.blk sB HB scope ev fp) [] (wipe σ (own.map (·.2))) HH z ∧ tn i z.heap ∧ (∀ b ∈ fp, HH b = none) ∧ W i m HH) ?_ m0 ⟨0, HB, IC0, stC, fun b hb => (fpB b hb).1.1, w0⟩
    intro m z5 hyp
    obtain ⟨i, H5, I5, t5, n5, w5⟩ := hyp
    rcases turn i m H5 w5 with ⟨stop, wished⟩ | ⟨go, Nx, hNx, step⟩
    · refine thnF (T.done (X.blk sB HB scope ev fp) rfl rfl rfl hc i [] z5 _ H5 (fun _ _ => False) I5 (stat I5 n5) t5 stop) fun r z6 got => ?_
      obtain ⟨er, I6⟩ := got
      subst er
      have I7 : Inv X pins σ H5 z6 := IB.call' (ch := fp) I6.os I6.base I6.hok I6.bare fun b hb => ⟨(fpB b hb).1.2.2.2.1, (fpB b hb).1.2.1, (fpB b hb).1.2.2.2.2.1, (fpB b hb).1.2.2.2.2.2⟩
      have freeE : H5 sB.heap.objs.size = none := by
        have w : H5 ev.locals = none := I6.free
        rw [evL] at w
        exact w
      obtain ⟨mp, hn, _⟩ := I6.loc
      have hn : z6.heap.Ns ev.locals mp := hn
      rw [evL] at hn
      refine ⟨mp, hn, fun h3 sb => ?_⟩
      obtain ⟨g0, g1, g2, g3, g4, g5⟩ := IB.fpOk (Nat.le_refl _) freeE
      exact ⟨.ref D, H5, I7.turned (t' := z6.toks) (fun b o hb e => (sb.2 b hb).trans e) g0 g1 g3 g4 g5, rfl, wished⟩
    · refine thnF (T.item (X.blk sB HB scope ev fp) rfl rfl rfl hc i [] z5 _ H5 (fun _ _ => False) I5 (stat I5 n5) t5 go) fun r z6 got => ?_
      obtain ⟨u, er, h6⟩ := got
      subst er
      refine thnF h6 fun _ z7 got => ?_
      obtain ⟨yv, H7, I7, r7, y7, t7, n7⟩ := got
      have I7p := I7.pinned (stat I7 n7) (T.obj _ _ t7)
      refine thnF (pg.run _ z7 _ H7 yv u _ I7p r7 (step yv H7 y7)) fun _ z8 got8 => ?_
      obtain ⟨σ8, H8, I8, hw8, q8⟩ := got8
      refine thnF (pt.run _ z8 σ8 H8 _ I8 q8) fun b z9 got9 => ?_
      obtain ⟨H9, I9, q9⟩ := got9
      have fin : ∀ {zz : Shared} {HH : Hp}, Inv (X.blk sB HB scope ev fp) ([] ++ pinsAt fp z7.heap) σ8 HH zz → Nx HH → ∃ m2, m2 < m ∧ ∃ (i : Nat) (HH : Hp), Inv (X.blk sB HB scope ev fp) [] (wipe σ (own.map (·.2))) HH zz ∧ tn i zz.heap ∧ (∀ b ∈ fp, HH b = none) ∧ W i m2 HH := fun {zz HH} J0 nx => by
        obtain ⟨m2, less, w'⟩ := hNx HH nx
        have held : ∀ b ∈ fp, ∀ o, z7.heap.get? b = some o → zz.heap.get? b = some o ∧ HH b = none := fun b hb o e =>
          have zp := J0.pin (b, o) (List.mem_append_right _ (List.mem_append_right _ (mem_pinsAt hb e)))
          ⟨zp.1, zp.2.1⟩
        have hl : (wipe σ (own.map (·.2))).length = σ8.length := by rw [← hw8, wipe_length]
        refine ⟨m2, less, i + 1, HH, (J0.unpinned (pins := [])).weak hl (fun j v e => ?_), T.keep _ _ _ t7 fun b hb o e => (held b hb o e).1, fun b hb => ?_, w'⟩
        · rw [← hw8] at e
          exact (wipe_some e).1
        · obtain ⟨o, e, _⟩ := T.obj _ _ t7 b hb
          exact (held b hb o e).2
      cases b with
      | false =>
        simp only [Bool.false_eq_true, if_false] at q9 ⊢
        exact fin I9 q9
      | true =>
        simp only [if_true] at q9 ⊢
        refine thnF (pe.run _ z9 σ8 H9 _ I9 q9) fun w z10 got => ?_
        obtain ⟨zv, H10, I10, r10, x, L, ez, atD, room, nx⟩ := got
        subst ez
        obtain ⟨tk, rfl⟩ := r10
        exact txo_add (X := X.blk sB HB scope ev fp) I10 atD room fun z11 I11 => fin I11 nx
  exact PpSet.codeAny_compStart_set loop (T.self X.A 0 _ _ _ stC loop)
end
end Fsh

set_option Elab.async false
set_option linter.all false
set_option maxRecDepth 100000
set_option maxHeartbeats 4000000
namespace Fsh
open PySem PySem.Spec PyProof.Rows L2
/-! ### set(list of texts), sorted(set of texts) -/
abbrev bare (w : World) : Obj := { cls := .type "set", dict := none, data := .set #[] 0 (.fresh 0 0 (!w.params.followText "set-order")) }
def allTx (xs : List Str) : List Str := xs.foldl addTx []
theorem foldTx_nd : ∀ (xs L : List Str), L.Nodup → (xs.foldl addTx L).Nodup
  | [], _, n => n
  | x :: r, L, n => foldTx_nd r _ (addTx_nd n)
theorem foldTx_mem {y : Str} : ∀ (xs L : List Str), y ∈ xs.foldl addTx L ↔ y ∈ xs ∨ y ∈ L
  | [], L => by simp
  | x :: r, L => by
    rw [List.foldl_cons, foldTx_mem r (addTx L x), addTx_mem, List.mem_cons]
    constructor
    · rintro (h | h | h)
      · exact .inl (.inr h)
      · exact .inl (.inl h)
      · exact .inr h
    · rintro ((h | h) | h)
      · exact .inr (.inl h)
      · exact .inl h
      · exact .inr (.inr h)
theorem foldTx_len : ∀ (xs L : List Str), (xs.foldl addTx L).length ≤ L.length + xs.length
  | [], L => Nat.le_refl _
  | x :: r, L => by
    have h1 := foldTx_len r (addTx L x)
    have h2 := addTx_len L x
    rw [List.foldl_cons, List.length_cons]
    omega
section
variable {P : Program} {w : World} {A : Around} {E : Value → Shared → Prop} {s : Shared}
theorem tx_loop {I : Addr} {fp wr : List Addr} {Gs : Array GenState → Array GenState → Prop} {n : Nat} {Pv : Nat → Value → Prop} {St : Nat → Shared → Prop} {R : Result → Shared → Prop} (W : WalksS P w A.in1 I fp wr Gs n Pv St) (D : Addr) (out : D ∉ fp) (xs : List Str) (hn : n = xs.length) (small : xs.length + 1 < scanBound)
    (val : ∀ i v, Pv i v → ∃ x t, xs[i]? = some x ∧ v = .str x t) : ∀ (k i : Nat) (s : Shared), n - i = k → i ≤ n → St i s → TxS w s.heap D ((xs.take i).foldl addTx []) → (∀ z, Moved (D :: wr) Gs s z → TxS w z.heap D (allTx xs) → R (.ok (.ret .none)) z) →
      codeAny (model P w) A (.builtin "set.update.loop" ⟨[.ref D, .ref I], []⟩) R s := by
  have outW : D ∉ wr := fun q => out (W.sub _ q)
  have more : ∀ b ∈ wr, b ∈ D :: wr := fun b hb => List.mem_cons_of_mem _ hb
  intro k
  induction k with
  | zero =>
    intro i s ek le st z hR
    obtain rfl : i = n := by omega
    refine codeAny_builtin F.entry_set_update_loop ?_
    rw [Around.under_plainId F.plain_set_update_loop _]
    show wpAny _ A.in1 (pyNext (.ref I) >>= _) _ _ s
    refine wpAny_bind (W.done s _ _ st fun s2 mv => ?_)
    show wpAny _ A.in1 (ret Value.none) _ _ s2
    rw [List.take_of_length_le (by omega)] at z
    exact wpAny_pure (hR s2 (mv.mono more) (z.go fun o e => mv.heap D o outW e))
  | succ k ih =>
    intro i s ek le st z hR
    have lt : i < n := by omega
    refine codeAny_builtin F.entry_set_update_loop ?_
    rw [Around.under_plainId F.plain_set_update_loop _]
    show wpAny _ A.in1 (pyNext (.ref I) >>= _) _ _ s
    refine wpAny_bind (W.item i s _ _ lt st fun v s2 hP st2 mv => ?_)
    obtain ⟨x, tk, hx, rfl⟩ := val i v hP
    have z2 : TxS w s2.heap D ((xs.take i).foldl addTx []) := z.go fun o e => mv.heap D o outW e
    have le2 := foldTx_len (xs.take i) []
    rw [List.length_take, List.length_nil] at le2
    show wpAny _ A.in1 (holding [Value.str x tk] (setAdd D (.str x tk)) >>= _) _ _ s2
    refine wpAny_bind (wpAny_holding ?_)
    unfold setAdd
    refine wpAny_holding ?_
    refine wpAny_bind ((PySem.strKind P w).pyHash (PySem.strKind_is P w x tk) ?_)
    refine tx_put (s := { s2 with toks := s2.toks + 1 }) z2 (by omega) fun b h2 sb z3 => ?_
    have z4 : TxS w h2 D ((xs.take (i + 1)).foldl addTx []) := by
      rw [List.take_add_one, hx, Option.toList_some, List.foldl_append]
      exact z3
    refine wpAny_pure ⟨plainId_quiet F.plain_set_update_loop _, ih (i + 1) _ (by omega) lt (W.frame _ s2 _ _ st2 (Nat.le_succ _) fun c hc o e => ?_) z4 fun s3 mv3 z5 => ?_⟩
    · rw [sb.2 c fun q : c = D => out (q ▸ hc)]
      exact e
    · refine hR s3 (Moved.trans W.gtrans ((mv.mono more).then_heap (Nat.le_succ _) fun c o hc e => ?_) mv3) z5
      rw [sb.2 c fun q : c = D => hc (q ▸ List.mem_cons_self)]
      exact e
set_option maxHeartbeats 6400000 in
theorem call_set_tx {l : Addr} {its : Array Value} (xs : List Str) {Q : Value → Shared → Prop} (calm : A.handled = none) (hl : s.heap.IsList l its) (hit : StrsAre its.toList xs) (small : xs.length + 1 < scanBound)
    (hQ : ∀ (h2 : Heap) (tk : Nat), TxS w h2 s.heap.objs.size (allTx xs) → (∀ b o, s.heap.get? b = some o → h2.get? b = some o) → Q (.ref s.heap.objs.size) { s with heap := h2, toks := tk }) :
    wpAny (model P w) A (call (.type "set") [.ref l]) Q E s := by
  have sz : its.size = xs.length := by rw [← StrsAre.len_eq hit, Array.length_toList]
  obtain ⟨c, tl, hmro⟩ := F.called_set.mro
  have hmade := F.called_set.made
  have hsub := F.called_set.sub
  refine wpAny_call (codeAny_of_tree ?_)
  show wpAny _ _ (callAny (.type "set") _) _ _ _
  refine wpAny_pure (And.intro (Code.quiet_builtin _ (by decide +kernel)) (codeAny_builtin F.entry_type_call ?_))
  rw [Around.under_plain (weight_type_call_type "set" [.ref l] []) rfl]
  have h1 := F.called_set.notType
  have h2 := F.called_set.canCreate
  have hct := F.typeCall_set_1 (.ref l)
  repeat (any_goals (first | assumption | wp_step))
  refine codeAny_mono (code_set_led1 (.ref l) (E := E) (Q₁ := fun v s2 => v = .ref s.heap.objs.size ∧ s2 = { s with heap := s.heap.push (bare w) }) ⟨rfl, rfl⟩) fun r s2 got => ?_
  cases r with
  | error e => exact got
  | ok fl =>
    cases fl with
    | ret v =>
      obtain ⟨rfl, rfl⟩ := got
      have atD : (s.heap.push (bare w)).get? s.heap.objs.size = some (bare w) := Heap.get?_push_size _ rfl
      have hT : Shared.TypeIs { s with heap := s.heap.push (bare w) } (.ref s.heap.objs.size) "set" := ⟨_, atD, rfl⟩
      have hli := F.called_set.init.lookup
      have hbi := F.called_set.init.bind (.ref s.heap.objs.size)
      repeat (any_goals (first | assumption | wp_step))
      refine codeAny_mono (codeAny_call_builtin (R := wants (fun v s3 => v = .none ∧ ∃ h2 tk, s3 = { s with heap := h2, toks := tk } ∧ TxS w h2 s.heap.objs.size (allTx xs) ∧ (∀ b o, s.heap.get? b = some o → h2.get? b = some o)) E) F.called_set.init.plain F.entry_set_init (check_set_init_1 hT ?_)) fun r3 s3 got3 => ?_
      · obtain ⟨oL, atL, cL, nL, dL⟩ := hl
        obtain ⟨oc, od, odt, osl⟩ := oL
        simp only at cL dL
        subst cL; subst dL
        have atL2 : (s.heap.push (bare w)).get? l = some { cls := .type "list", dict := od, data := .seq its nL, slots := osl } := Heap.get?_push_of_some _ atL
        have hsls := F.sub_list_set
        have hslf := F.sub_list_frozenset
        have noDict : (Value.type "list" == Value.type "dict") = false := by decide
        have isL : (s.heap.push (bare w)).IsList l its := ⟨_, atL2, rfl, nL, rfl⟩
        unfold Builtin.«set.__init__» noKeywords Builtin.Frozenset.updateFrom
        generalize hPI : pyIter = PI
        wp_walk
        subst hPI
        refine wpAny_pyIter_list isL ?_
        refine wpAny_bind (wpAny_runValue ?_)
        have lLt : l < s.heap.objs.size := Heap.lt_size atL
        have calm3 : A.in1.in1.in1.handled = none := by simp [calm]
        have szp : (s.heap.push (bare w)).objs.size = s.heap.objs.size + 1 := Heap.size_push ..
        have lne : l ≠ (s.heap.push (bare w)).objs.size := Nat.ne_of_lt (Nat.lt_of_lt_of_eq (Nat.lt_succ_of_lt lLt) (Heap.size_push ..).symm)
        have Dout : s.heap.objs.size ∉ [(s.heap.push (bare w)).objs.size, l] := fun q => by
          rcases List.mem_cons.mp q with e | e
          · exact Nat.ne_of_lt (Nat.lt_of_lt_of_eq (Nat.lt_succ_self _) (Heap.size_push ..).symm) e
          · exact Nat.ne_of_gt lLt (List.mem_singleton.mp e)
        have val : ∀ (i : Nat) (v : Value), its[i]? = some v → ∃ x t, xs[i]? = some x ∧ v = .str x t := fun i v hv => by
          have lt : i < xs.length := by rw [← sz]; exact (Array.getElem?_eq_some_iff.mp hv).1
          obtain ⟨t, e⟩ := SS.strs_at hit i v (by rw [Array.getElem?_toList]; exact hv)
          refine ⟨xs[i], t, List.getElem?_eq_getElem lt, ?_⟩
          rw [e, List.getD_eq_getElem?_getD, List.getElem?_eq_getElem lt]
          rfl
        refine tx_loop ((Walks.list calm3 _ l lne its).toS) s.heap.objs.size Dout xs sz small val (its.size - 0) 0 _ (by omega) (Nat.zero_le _) ⟨⟨_, Heap.get?_push_size _ rfl, rfl, rfl⟩, (isL.push _)⟩ ?first ?last
        case first =>
          refine txs_new ?_
          exact Heap.get?_push_of_some _ atD
        case last =>
          intro s4 mv z
          obtain ⟨h4, g4, d4, tk4, os4⟩ := s4
          obtain rfl : g4 = s.gens := mv.gens
          obtain rfl : d4 = s.drawn := mv.drawn
          obtain rfl : os4 = s.os := mv.os
          show wpAny _ _ _ _ _ _
          refine wpAny_pure ?_
          show wpAny _ _ (ret Value.none) _ _ _
          refine wpAny_pure ⟨rfl, h4, tk4, rfl, z, fun b o e => ?_⟩
          have blt := Heap.lt_size e
          refine mv.heap b o (fun q => ?_) (Heap.get?_push_of_some _ (Heap.get?_push_of_some _ e))
          rcases List.mem_cons.mp q with e2 | e2
          · exact Nat.ne_of_lt blt e2
          · exact Nat.ne_of_lt (Nat.lt_of_lt_of_eq (Nat.lt_succ_of_lt blt) (Heap.size_push ..).symm) (List.mem_singleton.mp e2)
      · cases r3 with
        | error e => exact got3
        | ok f3 =>
          cases f3 with
          | ret v3 =>
            obtain ⟨rfl, h4, tk, rfl, z, keep⟩ := got3
            repeat (any_goals (first | assumption | wp_step))
            exact hQ _ _ z keep
          | _ => exact got3.elim
    | _ => exact got.elim
/-- sorted(S) -/
theorem sorted_tx {a : Addr} {L : List Str} {Q : Value → Shared → Prop} (z : TxS w s.heap a L) (calm : A.handled = none) (small : L.length < 64)
    (hQ : ∀ s2 p (out : Array Value) (c : Nat) (ys : List Str), (∀ b o, s.heap.get? b = some o → s2.heap.get? b = some o) → s2.gens = s.gens → s2.os = s.os → s.heap.objs.size ≤ p → s2.heap.get? p = some (seqObj "list" out c) → StrsAre out.toList ys → ys.Perm L → sortedS ys = true → Q (.ref p) s2) :
    wpAny (model P w) A (call (.builtin "sorted") [.ref a]) Q E s := by
  obtain ⟨ob, vv, nn, tb, h1, hx, hd, g, pm, nd, hb, hf, hr, hl⟩ := z.ex
  have szv : vv.size = L.length := by rw [← Array.length_toList, ← pm.length_eq, List.length_map]
  refine Calls.call_function_entry kind_sorted plain_sorted entry_sorted (args_sorted1 (.ref a)) ?_
  unfold Builtin.«sorted»
  refine wpAny_bind (m := checkCount "sorted" 1 1 _) (wpAny_pure ?_)
  refine wpAny_bind (collect_set (A := A.in1) calm ⟨ob, h1, hx.1, hd⟩ hf hb hr hl fun s1 vs keep1 up g1 o1 perm => ?_)
  have vl : vs.length = L.length := by rw [perm.length_eq, List.length_map, Array.length_toList, szv]
  have allS : ∀ v ∈ vs, ∃ x t, v = Value.str x t := fun v hv => by
    obtain ⟨e, he, q⟩ := List.mem_map.mp (perm.mem_iff.mp hv)
    obtain ⟨x, t, e1, _⟩ := (g e he).ex
    exact ⟨x, t, q ▸ e1⟩
  have hS : StrsAre vs (vs.map strOf) := strsAre_map vs allS
  have same : ∀ v ∈ vs, strOf v = txOf v := fun v hv => by
    obtain ⟨x, t, e⟩ := allS v hv
    rw [e]
    rfl
  have pL : (vs.map strOf).Perm L := by
    rw [List.map_congr_left same]
    have q := perm.map txOf
    rw [List.map_map] at q
    exact q.trans pm
  refine wpAny_bind (wpAny_newList ?_ (by rw [vl, sizeLine_eq]; omega))
  have newL : (s1.heap.push (seqObj "list" vs.toArray 0)).get? s1.heap.objs.size = some (seqObj "list" vs.toArray 0) := Heap.get?_push_size _ rfl
  refine wpAny_bind (wpAny_holding (wpAny_call_entry slot_list_sort ⟨_, newL, rfl⟩ entry_list_sort (list_sort_treeK strKind_oneLt newL hS.keysOf (fun v1 v2 r e => keyKind_strs (by rw [← e]; exact hS)) (by rw [vl]; exact small) fun st q1 q2 => ⟨_, rfl, ?_⟩) (args_list_sort _)))
  obtain ⟨ys, y1, y2, y3⟩ := sorted_out_str hS q1 q2
  obtain ⟨c, hc⟩ := sortedHeap_at (vs := vs) (out := (arrOf st).map (·.2)) newL
  refine wpAny_pure ⟨_, rfl, hQ _ s1.heap.objs.size _ c ys (fun b u e => ?_) g1 o1 up hc y1 (y2.trans pL) y3⟩
  have q := keep1 b u e
  have lt := Heap.lt_size q
  show (sortedHeap (s1.heap.push (seqObj "list" vs.toArray 0)) s1.heap.objs.size vs _).get? b = some u
  rw [sortedHeap_old (Nat.ne_of_lt lt) (by rw [Heap.size_push]; exact Nat.lt_succ_of_lt lt)]
  exact Heap.get?_push_of_some _ q
end
section
variable {X : Cx}
def rSetTx (K : PySem.W.Frag) (w : World) : List V → Hp → VK → Prop := fun vs H Q => ∃ (p : Addr) (xs : List Str), vs = [V.ref p] ∧ SqL K H p (xs.map V.str) ∧ xs.length ≤ 1000 ∧ ∀ D, H D = none → Q (.ref D) (upd H D (TxO w D (allTx xs)))
theorem cr_setTx (hc : X.calm = true) : CallR X (.type "set") (rSetTx X.K X.w) := by
  intro pins s σ H vs us Q I r h
  obtain ⟨p, xs, rfl, hs, small, q⟩ := h
  obtain ⟨its, rv, hl, _⟩ := I.list hs
  rw [Vals.ref1 r]
  refine call_set_tx xs (I.ok.hd hc) hl.isList rv.strs (by unfold scanBound; omega) fun h2 tk z keep => ?_
  exact ⟨.ref _, _, I.laid (t' := tk) keep (Nat.le_refl _) (txo_new z), rfl, q _ (I.hok.fresh (Nat.le_refl _))⟩
def rSortTx (w : World) : List V → Hp → VK → Prop := fun vs H Q => ∃ (a : Addr) (L : List Str), vs = [V.ref a] ∧ H a = some (TxO w a L) ∧ L.length < 64 ∧ ∀ (ys : List Str) (p : Addr), ys.Perm L → sortedS ys = true → H p = none → Q (.ref p) (upd H p (.lst (ys.map V.str)))
theorem cr_sortTx (hc : X.calm = true) : CallR X (.builtin "sorted") (rSortTx X.w) := by
  intro pins s σ H vs us Q I r h
  obtain ⟨a, L, rfl, ha, small, q⟩ := h
  rw [Vals.ref1 r]
  refine sorted_tx (txo_get I ha) (I.ok.hd hc) small fun s2 p out c ys keep g o up at2 are perm srt => ?_
  have le : (ys.map V.str).length ≤ sizeLine := by rw [List.length_map, perm.length_eq, sizeLine_eq]; omega
  have new : H p = none := I.hok.fresh up
  have J : Inv X pins σ (upd H p (.lst (ys.map V.str))) { s with heap := s2.heap, gens := s2.gens, drawn := s2.drawn, toks := s2.toks } :=
    I.call (ch := []) (Un.laid keep up new) (I.hok.laid keep up ⟨le, out.toList, c, vals_of_strs are, at2⟩) (by rw [g]; exact I.bare) (fun _ e => nomatch e)
  have same : s2 = { s with heap := s2.heap, gens := s2.gens, drawn := s2.drawn, toks := s2.toks } := by
    cases s2
    cases s
    cases o
    rfl
  rw [same]
  exact ⟨.ref p, _, J, rfl, q ys p perm srt new⟩
end
end Fsh

set_option Elab.async false
set_option linter.all false
set_option maxRecDepth 100000
set_option maxHeartbeats 4000000
namespace Fsh
open PySem PySem.Spec PyProof.Rows L2
/-! ### texts in order -/
abbrev leT (a b : Str) : Prop := a.cps.toList ≤ b.cps.toList
theorem leT_of {a b : Str} (h : ltCps b.cps.toList a.cps.toList = false) : leT a b := by
  rw [ltCps_eq] at h
  exact of_decide_eq_false h
theorem rising_pw : ∀ (l : List Str) (p : Str), risingS p l = true → (p :: l).Pairwise leT
  | [], p, _ => List.pairwise_singleton _ _
  | x :: r, p, h => by
    unfold risingS at h
    rw [Bool.and_eq_true, Bool.not_eq_true'] at h
    have ih := rising_pw r x h.2
    have px := leT_of h.1
    refine List.pairwise_cons.mpr ⟨fun y hy => ?_, ih⟩
    rcases List.mem_cons.mp hy with e | e
    · exact e ▸ px
    · exact List.le_trans px ((List.pairwise_cons.mp ih).1 y e)
theorem sorted_pw : ∀ (l : List Str), sortedS l = true → l.Pairwise leT
  | [], _ => .nil
  | x :: r, h => rising_pw r x h
theorem leT_anti {a b : Str} (h : leT a b) (k : leT b a) : a = b := by
  have e := List.le_antisymm h k
  cases a
  cases b
  exact congrArg Str.mk (Array.toList_inj.mp e)
theorem pw_eq : ∀ (l m : List Str), l.Perm m → l.Pairwise leT → m.Pairwise leT → l = m
  | [], m, p, _, _ => (List.nil_perm.mp p).symm
  | x :: r, m, p, h, k => by
    cases m with
    | nil => exact absurd p.length_eq (by simp)
    | cons y t =>
      have e : x = y := by
        have hx : x ∈ y :: t := p.mem_iff.mp List.mem_cons_self
        have hy : y ∈ x :: r := p.mem_iff.mpr List.mem_cons_self
        rcases List.mem_cons.mp hx with e | hx
        · exact e
        · rcases List.mem_cons.mp hy with e | hy
          · exact e.symm
          · exact leT_anti ((List.pairwise_cons.mp h).1 y hy) ((List.pairwise_cons.mp k).1 x hx)
      subst e
      rw [pw_eq r t (List.Perm.cons_inv p) (List.pairwise_cons.mp h).2 (List.pairwise_cons.mp k).2]
open Classical in
noncomputable def tsort (L : List Str) : List Str := if h : ∃ ys : List Str, ys.Perm L ∧ sortedS ys = true then Classical.choose h else L
theorem tsort_is {L ys : List Str} (p : ys.Perm L) (s : sortedS ys = true) : ys = tsort L := by
  have h : ∃ ys : List Str, ys.Perm L ∧ sortedS ys = true := ⟨ys, p, s⟩
  unfold tsort
  rw [dif_pos h]
  obtain ⟨q1, q2⟩ := Classical.choose_spec h
  exact pw_eq _ _ (p.trans q1.symm) (sorted_pw _ s) (sorted_pw _ q2)
theorem rps_strs {K : PySem.W.Frag} {B : Hp} : ∀ l : List Str, Rps K B (l.map V.str) (l.map PyData.str)
  | [] => .nil
  | x :: r => .cons (.rstr x) (rps_strs r)
/-! ### what is hidden is forgotten -/
theorem Cfg.drop {K : PySem.W.Frag} {F B H : Hp} {G : Store} {p : Addr} {o : HO} (c : Cfg K (upd F p o) G B H) (nF : F p = none) : Cfg K F G B H where
  ex := c.ex
  fr := fun q u hq => c.fr q u (by rw [upd_ne (fun e => by rw [e, nF] at hq; cases hq)]; exact hq)
  ce := c.ce
  fb := fun q hq => c.fb q (by rw [upd_ne (fun e : q = p => hq (by rw [e]; exact nF))]; exact hq)
  gb := c.gb
  gf := fun x hx => by
    have h := c.gf x hx
    rw [upd_ne (c.hidG x hx)] at h
    exact h
  nd := c.nd
/-! ### set comprehensions of texts over data -/
section
variable {K : PySem.W.Frag} {w : World} {ρ : Env} {G : Store} {te : TE} {tt : TT} {g : TG} {js vs : List Nat}
def MidS (K : PySem.W.Frag) (w : World) (F B : Hp) (D : Addr) (I : List PyData → Store → Prop) (n : Nat) (H : Hp) : Prop :=
  ∃ (ns : List Str) (G1 : Store) (B1 : Hp), Ex B B1 ∧ ns.length ≤ n ∧ Cfg K (upd F D (TxO w D (allTx ns))) G1 B1 H ∧ I (ns.map PyData.str) G1
theorem mid_turnS {F B B1 : Hp} {D : Addr} {J : List PyData → Store → Prop} {n : Nat} {H : Hp} {σ : L2.St} {v : V} {d : PyData} {ρ2 : Env} {ns : List Str} {G1 : Store} (hJ : ∀ acc G, J acc G → ∃ ms : List Str, acc = ms.map PyData.str) (nF : F D = none) (hn : n < 1000) (hj : ∀ j ∈ js, j ∈ vs) (s : Slots K B σ ρ) (e1 : Ex B B1) (r : Rp K B1 v d) (hl : ns.length ≤ n)
    (c1 : Cfg K (upd F D (TxO w D (allTx ns))) G1 B1 H) (hg : RG K g js (.d d) (wipeE ρ vs) ρ2) (ht : Turn1 K tt te ρ2 G1 J (ns.map PyData.str)) :
    g v (wipe σ vs) H fun σ2 H2 => wipe σ2 vs = wipe σ vs ∧ tt σ2 H2 fun b H3 =>
      if b = true then te σ2 H3 fun z H4 => ∃ (x : Str) (L : List Str), z = .str x ∧ H4 D = some (TxO w D L) ∧ L.length + 1 < scanBound ∧ MidS K w F B D J (n + 1) (upd H4 D (TxO w D (addTx L x))) else MidS K w F B D J (n + 1) H3 := by
  refine hg (wipe σ vs) B1 H v _ c1.ex ((s.mono e1).wiped vs) r fun σ2 s2 w2 => ⟨(w2 vs hj).trans (wipe_wipe vs), ?_⟩
  refine ht _ σ2 B1 H _ c1 s2 fun b G2 B2 H2 e2 c2 p2 => ?_
  cases b with
  | true =>
    rw [if_pos rfl] at p2 ⊢
    refine p2 _ σ2 B2 H2 _ c2 (s2.mono e2) fun y yx G3 B3 H3 e3 c3 r3 q => ?_
    obtain ⟨z, ez, p3⟩ := q
    subst ez
    obtain ⟨ms, em⟩ := hJ _ _ p3
    have hx : ∃ x, z = .str x := by
      have hm : z ∈ ms.map PyData.str := em ▸ List.mem_append_right _ (List.mem_singleton.mpr rfl)
      obtain ⟨x, _, e⟩ := List.mem_map.mp hm
      exact ⟨x, e.symm⟩
    obtain ⟨x, rfl⟩ := hx
    cases r3
    have small := foldTx_len ns []
    rw [List.length_nil] at small
    refine ⟨x, allTx ns, rfl, c3.fr _ _ upd_same, by unfold scanBound; unfold allTx; omega, ns ++ [x], G3, B3, (e1.trans e2).trans e3, by rw [List.length_append]; simp; omega, ?_, by rw [List.map_append]; exact p3⟩
    have ea : addTx (allTx ns) x = allTx (ns ++ [x]) := by
      unfold allTx
      rw [List.foldl_append]
      rfl
    rw [ea]
    exact c3.hidF nF
  | false =>
    rw [if_neg Bool.false_ne_true] at p2 ⊢
    exact ⟨ns, G2, B2, e1.trans e2, by omega, c2, p2⟩
/-- the set, told to what comes next -/
theorem r_scG {wi : TI} {xs : List PyData} (hw : Wi K wi ρ xs) (I : Nat → List PyData → Store → Prop) (hI : ∀ i acc G, I i acc G → ∃ ms : List Str, acc = ms.map PyData.str) (hj : ∀ j ∈ js, j ∈ vs) (hz : xs.length ≤ 1000) (h0 : I 0 [] G)
    (hs : ∀ i d acc G1, xs[i]? = some d → I i acc G1 → ∃ ρ2, RG K g js (.d d) (wipeE ρ vs) ρ2 ∧ Turn1 K tt te ρ2 G1 (I (i + 1)) acc) {F : Hp} {σ : L2.St} {B H : Hp} {Q : VK} (c : Cfg K F G B H) (s : Slots K B σ ρ)
    (k : ∀ D ns G2 B2 H2, Ex B B2 → F D = none → Cfg K (upd F D (TxO w D (allTx ns))) G2 B2 H2 → ns.length ≤ xs.length → I xs.length (ns.map PyData.str) G2 → Q (.ref D) H2) : tScX w wi g tt te vs σ H Q := by
  refine hw F σ G B H _ c s fun J B2 H2 e c2 wd D hD => ?_
  have nF : F D = none := Ex.free c2.fr hD
  refine ⟨fun i m H => m = xs.length - i ∧ i ≤ xs.length ∧ MidS K w F B2 D (I i) i H, ⟨_, rfl, Nat.zero_le _, [], G, B2, Evl.Ex.refl _, Nat.le_refl _, c2.hide hD, h0⟩, fun i m H1 hyp => ?_⟩
  obtain ⟨em, hi, md⟩ := hyp
  obtain ⟨ns, G1, B1, e1, hl, c1, p1⟩ := id md
  by_cases lt : i < xs.length
  · refine .inr ⟨wd.goes e1 c1 i lt, MidS K w F B2 D (I (i + 1)) (i + 1), fun H' md' => ⟨_, by omega, rfl, lt, md'⟩, fun v H' y => ?_⟩
    obtain ⟨d, B', hd, eB, cB, rv⟩ := wd.yields e1 c1 i v H' lt y
    obtain ⟨ρ2, g1, b1⟩ := hs i d _ G1 hd p1
    exact mid_turnS (hI (i + 1)) nF (by omega) hj (s.mono e) (e1.trans eB) rv hl cB g1 b1
  · have ei : i = xs.length := by omega
    subst ei
    exact .inl ⟨wd.stops e1 c1, k D ns G1 B1 H1 (e.trans e1) nF c1 hl p1⟩
end
noncomputable def sortO (ds : List PyData) : Option PyData := (strs? ds).map fun l => .list ((tsort (allTx l)).map PyData.str)
theorem strs_map : ∀ l : List Str, strs? (l.map PyData.str) = some l
  | [] => rfl
  | x :: r => by
    show (strs? (r.map PyData.str)).map (x :: ·) = _
    rw [strs_map r]
    rfl
theorem strs_cut {a b : List PyData} {l : List Str} (h : strs? (a ++ b) = some l) : ∃ m : List Str, a = m.map PyData.str := by
  have e := strs_of h
  obtain ⟨l1, l2, e1, e2, e3⟩ := List.map_eq_append_iff.mp e.symm
  exact ⟨l1, e2.symm⟩
section
variable {X : Cx} {e elt tg : Expr} {ifs : List Expr} {scope : Scope} {own : List (Str × Nat)} {g : TG} {js : List Nat} {ρ : Env} {pos p pos2 : Pos}
/-- sorted({elt for tg in e if ..}), texts -/
theorem ev_sortSc {ox : Option (List PyData)} {cc : PyData → Option Bool} {f : PyData → Option PyData} {ρ' : PyData → Env} (hN : X.N.Nodup) (hso : X.mg "sorted" = none) (hi : EIt X tg e ρ ox) (ok : BlkOk X.N X.env.scope scope own)
    (hg : ∀ (s : Shared) (H : Hp) (C : Addr) (cl : List (Str × Addr)) (fp : List Addr), PG (X.blk s H scope (compEnvC scope cl C X.env) fp) tg g) (hj : ∀ j ∈ js, j ∈ own.map (·.2))
    (hr : ∀ x t, cc x = some t → RG X.K g js (.d x) (wipeE ρ (own.map (·.2))) (ρ' x)) (ht : ∀ x (z : Fz), ETs (bx X scope z) ifs (ρ' x) (cc x)) (he : ∀ x (z : Fz), EV (bx X scope z) elt (ρ' x) (f x))
    (hgl : Gl X "sorted" := by rfl) (hst : starEach [.SetComp elt [⟨tg, e, ifs, 0⟩] scope pos2] X.env = (false, eval (.SetComp elt [⟨tg, e, ifs, 0⟩] scope pos2) X.env) :: starEach [] X.env := by rfl) (hpl : (backTo pos (starEach [] X.env)).any (·.1) = false := by rfl)
    (hc : X.calm = true := by rfl) (hf : ∀ x, foldedSetIterable e X.env x = pure x := by intro _; rfl) :
    EV X (.Call (.Name "sorted" p) [.SetComp elt [⟨tg, e, ifs, 0⟩] scope pos2] [] pos) ρ ((ox.bind fun xs => if xs.length ≤ 60 then lcO cc f xs else none).bind sortO) := ⟨fun d hd G => by
  obtain ⟨ds, e0, h3⟩ := bind_some hd
  obtain ⟨xs, e1, h2⟩ := bind_some e0
  obtain ⟨l, el, ed⟩ := Option.map_eq_some_iff.mp h3
  by_cases hz : xs.length ≤ 60
  · rw [if_pos hz] at h2
    obtain ⟨wi, p1, w1⟩ := hi.run xs e1 (by omega)
    refine xp_of (pe_callB (cr_sortTx hc) hgl hso (by decide +kernel) (pa_cons (pe_scX (te := blkE X scope elt) (tt := blkT X scope ifs) hc hN p1 ok hg (fun s H C cl fp => ⟨fun pins st σ H' Q I h => (h (s, H, C, cl, fp)).run pins st I⟩) (fun s H C cl fp => ⟨fun pins st σ H' Q I h => (h (s, H, C, cl, fp)).run pins st I⟩) hf) pa_nil hst) (by decide) (by decide) hst hpl) fun F σ B H Q c sl kk => ?_
    show tScX X.w wi g (blkT X scope ifs) (blkE X scope elt) (own.map (·.2)) σ H fun x H1 => rSortTx X.w [x] H1 Q
    refine r_scG w1 (fun i acc G' => G' = G ∧ ∃ rest, lcO cc f (xs.drop i) = some rest ∧ acc ++ rest = ds) (fun i acc G' q => ?_) hj (by omega) ⟨rfl, ds, h2, rfl⟩ (fun i d acc G1 hd q => ?_) c sl fun D ns G2 B2 H2 ex nF c2 hl q => ?_
    · obtain ⟨_, rest, _, q2⟩ := q
      exact strs_cut (q2 ▸ el)
    · obtain ⟨eG, rest, q1, q2⟩ := q
      subst eG
      have hi := List.getElem?_eq_some_iff.mp hd
      rw [List.drop_eq_getElem_cons hi.1, hi.2] at q1
      obtain ⟨t, hcd, q3⟩ := bind_some q1
      refine ⟨ρ' d, hr d t hcd, Turn.one ⟨IsT t G1, fun z => (ht d z).run t hcd G1, fun z G2 w => ?_, fun G2 w => ?_⟩⟩
      · obtain ⟨w1, w2⟩ := w
        subst w1 w2
        rw [if_pos rfl] at q3
        obtain ⟨y, ys, f1, f2, f3⟩ := bin2_some q3
        cases f3
        exact ((he d z).run y f1 G2).imp fun y2 G3 w => ⟨y, w.1, w.2, ys, f2, by rw [List.append_assoc]; exact q2⟩
      · obtain ⟨w1, w2⟩ := w
        subst w1 w2
        rw [if_neg Bool.false_ne_true] at q3
        exact ⟨rfl, rest, q3, q2⟩
    · obtain ⟨rfl, rest, q1, q2⟩ := q
      rw [List.drop_length] at q1
      cases q1
      rw [List.append_nil] at q2
      have en : ns = l := by
        rw [← q2, strs_map] at el
        exact Option.some.inj el
      subst en
      have small := foldTx_len ns []
      rw [List.length_nil] at small
      refine ⟨D, allTx ns, rfl, c2.fr _ _ upd_same, by unfold allTx; omega, fun ys q perm srt nq => ?_⟩
      have ey := tsort_is perm srt
      subst ey
      have c3 := (c2.drop nF).new nq (.lst ((tsort (allTx ns)).map V.str))
      have en := ex_new (B := B2) (Ex.free c2.ex nq) (.lst ((tsort (allTx ns)).map V.str))
      subst ed
      refine (kk.mono (ex.trans en)).ret (x := .d (.list ((tsort (allTx ns)).map PyData.str))) c3 (.rlst (Evl.sq_of upd_same) ?_) ⟨rfl, rfl⟩
      exact rps_strs _
  · rw [if_neg hz] at h2
    cases h2⟩
end
end Fsh

set_option Elab.async false
set_option linter.all false
set_option maxRecDepth 100000
set_option maxHeartbeats 4000000
namespace Fsh
open PySem PySem.Spec PyProof.Rows L2
open AutoSeq1 (wpAny_loadPart')
/-! ### enumerate(a tuple) -/
theorem meets_enumT (p : Addr) (its : Array Value) (n : Nat) (od : Option Addr) (sl : Array (Option Value)) :
    Meets (Builtin.«enumerate.__new__» ⟨[.type "enumerate", .ref p], []⟩) (fun _ R s => s.heap.get? p = some { cls := .type "tuple", dict := od, data := .seq its n, slots := sl } ∧
      R (.ok (.ret (.ref (s.heap.push { cls := .type "tuple_iterator", data := .fields #[.ref p, .int 0 0] }).objs.size)))
        { s with heap := (s.heap.push { cls := .type "tuple_iterator", data := .fields #[.ref p, .int 0 0] }).push { cls := .type "enumerate", data := .fields #[.none, .bool false, .ref s.heap.objs.size, rawInt 0, .none, .none] } }) :=
  .of_wp fun prog w A R s h => by
    obtain ⟨hp, g, d, tk, os⟩ := s
    obtain ⟨atP, h⟩ := h
    have subE := sub_enumerate
    have isT : Heap.IsTuple (Shared.heap ⟨hp, g, d, tk, os⟩) p its := ⟨_, atP, rfl, n, rfl⟩
    wp_walk using wpAny_loadPart' atP
    refine wpAny_stack_any fun st => wpAny_pure ?_
    split
    · rename_i c _ _ _ _ _
      cases (c == Value.type "enumerate")
      · wp_walk using wpAny_loadPart' atP, wpAny_pyIter_tuple isT
        exact ⟨_, rfl, h⟩
      · wp_walk using wpAny_loadPart' atP, wpAny_pyIter_tuple isT
        exact ⟨_, rfl, h⟩
    · wp_walk using wpAny_loadPart' atP, wpAny_pyIter_tuple isT
      exact ⟨_, rfl, h⟩
theorem call_enumT {prog : Program} {w : World} {A : Around} {E : Value → Shared → Prop} {s : Shared} {p : Addr} {its : Array Value} {Q : Value → Shared → Prop} (isT : s.heap.IsTuple p its)
    (h : ∀ h2, IsEnum h2 (s.heap.objs.size + 1) s.heap.objs.size 0 .none → h2.IsTupleIter s.heap.objs.size p 0 → (∀ b o, s.heap.get? b = some o → h2.get? b = some o) → Q (.ref (s.heap.objs.size + 1)) { s with heap := h2 }) :
    wpAny (model prog w) A (call (.type "enumerate") [.ref p]) Q E s := by
  obtain ⟨⟨c, od, dt, sl⟩, atP, hc, n, hd⟩ := isT
  obtain rfl : c = .type "tuple" := hc
  obtain rfl : dt = .seq its n := hd
  refine callType_new F.called_enumerate (by decide) (F.typeCall_enumerate_1 _) (F.newCall_enumerate_1 _) (fun obj => F.args_object_init_2 obj _) F.entry_enumerate_new (meets_enumT p its n od sl) ⟨atP, ?_⟩
  have sz : (s.heap.push { cls := .type "tuple_iterator", data := .fields #[.ref p, .int 0 0] }).objs.size = s.heap.objs.size + 1 := Heap.size_push ..
  show _ ∧ _
  rw [sz]
  have isE := Heap.get?_push_size (s.heap.push { cls := .type "tuple_iterator", data := .fields #[.ref p, .int 0 0] }) (o := { cls := .type "enumerate", data := .fields #[.none, .bool false, .ref s.heap.objs.size, rawInt 0, .none, .none] }) rfl
  rw [sz] at isE
  exact ⟨⟨_, isE, rfl⟩, h _ isE ⟨_, Heap.get?_push_of_some _ (Heap.get?_push_size _ rfl), rfl, rfl⟩ fun b o x => Heap.get?_push_of_some _ (Heap.get?_push_of_some _ x)⟩
def IteT (K : PySem.W.Frag) (a : Addr) : It :=
  ⟨fun i H => ∃ (xs : List V) (x : V), SqT K H a xs ∧ xs[i]? = some x, fun i H v H2 => ∃ T x, v = .ref T ∧ H T = none ∧ H2 = upd H T (.tup [.int (i : Nat), x]) ∧ ∀ xs, SqT K H a xs → xs[i]? = some x, fun i H => ∃ xs : List V, SqT K H a xs ∧ xs.length = i⟩
theorem turn_enumT {P : Program} {w : World} {K : PySem.W.Frag} {elts : List Expr} {kk : Nat} {tpos : Pos} (a e it : Addr) : L2.Turn P w K (.Tuple elts kk tpos) (IteT K a) [e, it] e (fun i h => (∃ old, IsEnum h e it ((i : Nat) : Int) old) ∧ h.IsTupleIter it a i ∧ e ≠ it ∧ a ≠ it) where
  mem := List.mem_cons_self
  obj := fun i h st b hb => by
    obtain ⟨⟨old, he⟩, ⟨o, ho, hc, hd⟩, _⟩ := st
    rcases List.mem_cons.mp hb with z | z
    · subst z
      exact ⟨_, he, fun v q => nomatch q⟩
    · obtain rfl := List.mem_singleton.mp z
      exact ⟨o, ho, fun v q => by rw [hd] at q; cases q⟩
  keep := fun i h h2 st k => by
    obtain ⟨⟨old, he⟩, hi, ne, ne2⟩ := st
    exact ⟨⟨old, k e List.mem_cons_self _ he⟩, hi.at fun o q => k it (List.mem_cons_of_mem _ List.mem_cons_self) o q, ne, ne2⟩
  item := by
    intro X hP hw hK hc i pins s σ H E I hf st hg
    subst hP hw hK
    obtain ⟨⟨old, he⟩, hit, ne, ne2⟩ := st
    obtain ⟨xs, x, hq, hx⟩ := hg
    obtain ⟨its, rv, p, hz⟩ := I.tuple hq
    have isT : s.heap.IsTuple a its.toArray := p
    have eLt : e < s.heap.objs.size := Heap.lt_size he
    have itLt : it < s.heap.objs.size := by
      obtain ⟨_, q, _⟩ := hit
      exact Heap.lt_size q
    have ea : e ≠ a := fun z => by
      subst z
      obtain ⟨o, ho, hcl, _⟩ := isT
      rw [he] at ho
      cases ho
      exact absurd (show Value.type "enumerate" = Value.type "tuple" from hcl) (by decide)
    have D := Draws.tuple (prog := X.prog) (w := X.w) (A := X.A.in1) (by have := I.ok.hd hc; simpa using this) it a ne2 its.toArray
    have lt : i < its.toArray.size := by
      have h1 := (List.getElem?_eq_some_iff.mp hx).1
      have h2 := rv.length
      rw [List.size_toArray]
      omega
    refine wpAny_pyNext_enum_itemD D he ⟨hit, isT⟩ lt ne (fun z => (List.mem_cons.mp z).elim ne fun z => ea (List.mem_singleton.mp z)) fun u h2 tk hu ho hst hT hsz hk => ?_
    obtain ⟨u', hu', ru⟩ := rv.get hx
    obtain rfl : u' = u := by
      have z : its.toArray[i]? = some u := hu
      rw [List.getElem?_toArray, hu'] at z
      exact Option.some.inj z
    refine ⟨_, rfl, wpAny_letOwnedTupleGo_enum (s := { s with heap := h2, toks := tk + 1 }) ho fun h3 he3 sb => ?_⟩
    have newLt : s.heap.objs.size ≠ e := Nat.ne_of_gt eLt
    have hT3 := (sb.2 _ newLt).trans hT
    have new : ObjOk X.prog X.w (upd H s.heap.objs.size (.tup [.int (i : Nat), x])) h3 s.heap.objs.size (.tup [.int (i : Nat), x]) := ⟨by show 2 ≤ sizeLine; decide, [.int i tk, u'], .cons ⟨_, rfl⟩ (.cons ru .nil), ⟨_, hT3, rfl, _, rfl⟩⟩
    have I2 : Inv X pins σ (upd H s.heap.objs.size (.tup [.int (i : Nat), x])) { s with heap := h3, toks := tk + 1 } := I.turnedNew (ch := [e, it]) (fun b o hb q => by
      have b1 : b ≠ e := fun z => hb (z ▸ List.mem_cons_self)
      have b2 : b ≠ it := fun z => hb (z ▸ List.mem_cons_of_mem _ List.mem_cons_self)
      exact (sb.2 b b1).trans (hk b o b1 b2 q)) hf (Nat.le_refl _) new
    refine ⟨.ref s.heap.objs.size, _, I2, rfl, ⟨_, x, rfl, I.hok.fresh (Nat.le_refl _), rfl, fun ys hy => ?_⟩, ⟨⟨u', ?_⟩, hst.1.at fun o q => (sb.2 it (Ne.symm ne)).trans q, ne, ne2⟩, fun b hb => ?_⟩
    · rw [I.tuple_inj hy hq]
      exact hx
    · have e1 : ((i + 1 : Nat) : Int) = (i : Int) + 1 := by omega
      rw [e1]
      exact he3
    · have old : b < s.heap.objs.size := by
        rcases List.mem_cons.mp hb with z | z
        · exact z ▸ eLt
        · exact List.mem_singleton.mp z ▸ itLt
      rw [upd_ne (Nat.ne_of_lt old)]
      exact (hf b hb).1
  done := by
    intro X hP hw hK hc i pins s σ H E I hf st hg
    subst hP hw hK
    obtain ⟨⟨old, he⟩, hit, ne, ne2⟩ := st
    obtain ⟨xs, hq, hx⟩ := hg
    obtain ⟨its, rv, p, hz⟩ := I.tuple hq
    have isT : s.heap.IsTuple a its.toArray := p
    obtain ⟨f0, f1, f2, f3, f4, f5⟩ := hf it (List.mem_cons_of_mem _ List.mem_cons_self)
    have D := Draws.tuple (prog := X.prog) (w := X.w) (A := X.A.in1) (by have := I.ok.hd hc; simpa using this) it a ne2 its.toArray
    obtain rfl : its.toArray.size = i := by
      have := rv.length
      rw [List.size_toArray]
      omega
    exact wpAny_pyNext_enum_endD D he ⟨hit, isT⟩ fun h2 eb => ⟨rfl, I.turned (t' := s.toks) (fun b o hb q => eb b o hb q) f0 f1 f3 f4 f5⟩
  self := fun A i s Q E st h => by
    obtain ⟨⟨_, he⟩, _⟩ := st
    exact wpAny_pyIter_enum he h
def iEnT (K : PySem.W.Frag) (ta : TA) : TI := fun σ H R => ta σ H fun vs H1 => ∃ a xs, vs = [.ref a] ∧ SqT K H1 a xs ∧ R (IteT K a) H1
theorem pi_enT {X : Cx} {e : Expr} {ta : TA} {p pos tpos : Pos} {elts : List Expr} {kk : Nat} (hg : Gl X "enumerate") (hm : X.mg "enumerate" = none) (ha : PA X [e] ta) (hst : starEach [e] X.env = [(false, eval e X.env)]) : PI X (.Tuple elts kk tpos) (.Call (.Name "enumerate" p) [e] [] pos) (iEnT X.K ta) := by
  refine ⟨fun pins s σ H R I wish => ?_⟩
  refine Call_ (ld_blt I hg hm boot_enumerate (PyProof.Rows.callWith_type1 (thn (ha.run pos pins s σ H _ I wish) fun us s1 got => ?_) hst rfl))
  obtain ⟨vs, H1, I1, r1, a, xs, ev, hq, q⟩ := got
  subst ev
  match r1 with
  | .cons r .nil =>
    obtain rfl : _ = Value.ref a := r
    obtain ⟨its, rv, p1, hz⟩ := I1.tuple hq
    have isT : s1.heap.IsTuple a its.toArray := p1
    have aLt : a < s1.heap.objs.size := by
      obtain ⟨_, z, _⟩ := isT
      exact Heap.lt_size z
    refine call_enumT isT fun h2 he hit keep => wpAny_pyIter_enum he ?_
    refine ⟨s1.heap.objs.size + 1, [s1.heap.objs.size + 1, s1.heap.objs.size], _, _, H1, rfl, I1.kept (t' := s1.toks) keep, turn_enumT a (s1.heap.objs.size + 1) s1.heap.objs.size, ⟨⟨.none, he⟩, hit, Nat.succ_ne_self _, Nat.ne_of_lt aLt⟩, fun b hb => ?_, q⟩
    have le : s1.heap.objs.size ≤ b := by
      rcases List.mem_cons.mp hb with z | z
      · exact z ▸ Nat.le_succ _
      · exact List.mem_singleton.mp z ▸ Nat.le_refl _
    exact I1.fpOk le (I1.hok.fresh le)
def enD : Nat → List PyData → List PyData
  | _, [] => []
  | k, x :: r => .tuple [.int k, x] :: enD (k + 1) r
theorem enD_at : ∀ (xs : List PyData) (k i : Nat), (enD k xs)[i]? = (xs[i]?).map fun x => .tuple [.int ((k + i : Nat) : Int), x]
  | [], _, _ => rfl
  | x :: r, k, 0 => rfl
  | x :: r, k, i + 1 => by
    show (enD (k + 1) r)[i]? = _
    rw [enD_at r (k + 1) i, List.getElem?_cons_succ, show k + 1 + i = k + (i + 1) by omega]
theorem enD_len : ∀ (xs : List PyData) (k : Nat), (enD k xs).length = xs.length
  | [], _ => rfl
  | x :: r, k => congrArg (· + 1) (enD_len r (k + 1))
theorem wi_enT {K : PySem.W.Frag} {ρ : Env} {ta : TA} {xs : List PyData} (h : ∀ G, RA K ta ρ G (IsA [.d (.tuple xs)] G)) : Wi K (iEnT K ta) ρ (enD 0 xs) := fun F σ G B H Q c s k =>
  h G F σ B H _ c s fun vs xs' G2 B2 H2 e c2 r q => by
    rw [q.1] at r
    rw [q.2] at c2
    cases r with
    | cons r1 r =>
      cases r
      cases (show Rp _ _ _ _ from r1) with
      | rtup p rr =>
        rename_i a ws
        have hl : (enD 0 xs).length = ws.length := by rw [enD_len, rr.len]
        refine ⟨a, ws, rfl, Evl.ex_t c2.ex p, k _ B2 H2 e c2 ⟨fun {F G B H} ex c i hi => ?_, fun {F G B H} ex c => ⟨ws, Evl.ex_t (ex.trans c.ex) p, hl.symm⟩, fun {F G B H} ex c i v H' hi y => ?_⟩⟩
        · have h1 : i < ws.length := by omega
          exact ⟨ws, ws[i], Evl.ex_t (ex.trans c.ex) p, by simp [h1]⟩
        · obtain ⟨T, x, e1, hT, e2, g1⟩ := y
          subst e1 e2
          obtain ⟨d1, x1, x2⟩ := rr.back (g1 _ (Evl.ex_t (ex.trans c.ex) p))
          have en := ex_new (B := B) (Ex.free c.ex hT) (.tup [.int (i : Nat), x])
          refine ⟨.tuple [.int (i : Nat), d1], _, ?_, en, c.new hT _, .rtup (Evl.st_of upd_same) (.cons (.rint _) (.cons (x2.mono (ex.trans en)) .nil))⟩
          rw [enD_at, x1, Nat.zero_add]
          rfl
def enumO : PyData → Option (List PyData)
  | .tuple xs => some (enD 0 xs)
  | _ => none
section
variable {X : Cx} {e a : Expr} {ρ : Env} {pos p p2 : Pos} {oa : Option PyData}
theorem it_enum {elts : List Expr} {kk : Nat} {tpos : Pos} (k0 : Kx X) (ha : EV X a ρ oa) (hgl : Gl X "enumerate" := by rfl) (hst : starEach [a] X.env = [(false, eval a X.env)] := by rfl) : EIt X (.Tuple elts kk tpos) (.Call (.Name "enumerate" p) [a] [] p2) ρ (oa.bind enumO) := ⟨fun xs hx _ => by
  obtain ⟨x, e1, h2⟩ := bind_some hx
  cases x <;> first | cases h2 | skip
  exact ⟨_, pi_enT hgl k0.enum pa_tw hst, wi_enT (xad_cons (ha.run _ e1) xa_nil hst)⟩⟩
/-- sum of a list of whole numbers -/
def ints? : List PyData → Option (List Int)
  | [] => some []
  | .int n :: r => (ints? r).map (n :: ·)
  | _ :: _ => none
theorem ints_of : ∀ {ds : List PyData} {l : List Int}, ints? ds = some l → ds = l.map PyData.int
  | [], l, h => by
    cases h
    rfl
  | d :: ds, l, h => by
    cases d <;> first | cases h | skip
    obtain ⟨m, e1, e2⟩ := Option.map_eq_some_iff.mp h
    subst e2
    rw [ints_of e1]
    rfl
theorem ints_map : ∀ l : List Int, ints? (l.map PyData.int) = some l
  | [] => rfl
  | x :: r => by
    show (ints? (r.map PyData.int)).map (x :: ·) = _
    rw [ints_map r]
    rfl
def sumO : PyData → Option PyData
  | .list ds => (ints? ds).map fun l => .int l.sum
  | _ => none
theorem ev_sum (k : Kx X) (ha : EV X e ρ oa) (hc : X.calm = true := by rfl) (hg : Gl X "sum" := by rfl) (he : starEach [e] X.env = (false, eval e X.env) :: starEach [] X.env := by rfl) (hpl : (backTo pos (starEach [] X.env)).any (·.1) = false := by rfl) : EV X (.Call (.Name "sum" p) [e] [] pos) ρ (oa.bind sumO) := ⟨fun d hd => by
  obtain ⟨x, e1, h2⟩ := bind_some hd
  cases x <;> first | cases h2 | skip
  obtain ⟨l, e2, e3⟩ := Option.map_eq_some_iff.mp h2
  subst e3
  have e4 := ints_of e2
  subst e4
  exact xd_sum k.bn (ha.run _ e1) hg hc he hpl⟩
end
end Fsh

set_option Elab.async false
set_option linter.all false
set_option maxRecDepth 100000
set_option maxHeartbeats 4000000
namespace Fsh
open PySem PySem.Spec PyProof.Rows L2
/-! ### [elt for tg in e if .. for tg1 in e1 if ..] over data -/
def lc2O (c : PyData → Option Bool) (it : PyData → Option (List PyData)) (c1 : PyData → PyData → Option Bool) (f1 : PyData → PyData → Option PyData) : List PyData → Option (List PyData)
  | [] => some []
  | x :: r => (c x).bind fun t => if t then ((it x).bind fun ys => if ys.length ≤ 100000 then lcO (c1 x) (f1 x) ys else none).bind fun a => (lc2O c it c1 f1 r).bind fun b => some (a ++ b) else lc2O c it c1 f1 r
section
variable {K : PySem.W.Frag} {ρ : Env} {G : Store} {te : TE} {tt tt1 : TT} {g g1 : TG} {js js1 vs vs1 : List Nat}
def Keep (K : PySem.W.Frag) (F B : Hp) (D : Addr) (G : Store) (I : List PyData → Prop) (H : Hp) : Prop := ∃ (av : List V) (acc : List PyData) (B1 : Hp), Ex B B1 ∧ Rps K B1 av acc ∧ Cfg K (upd F D (.lst av)) G B1 H ∧ I acc
theorem r_lc2 {wi wi1 : TI} {xs ds : List PyData} {c : PyData → Option Bool} {it : PyData → Option (List PyData)} {c1 : PyData → PyData → Option Bool} {f1 : PyData → PyData → Option PyData} {ρ' : PyData → Env} {ρ'' : PyData → PyData → Env} (hw : Wi K wi ρ xs) (hj : ∀ j ∈ js, j ∈ vs) (hj1 : ∀ j ∈ js1, j ∈ vs1)
    (hr : ∀ x t, c x = some t → RG K g js (.d x) (wipeE ρ vs) (ρ' x)) (ht : ∀ x t, c x = some t → ∀ G, RT K tt (ρ' x) G (IsT t G)) (hi : ∀ x ys, it x = some ys → ys.length ≤ 100000 → Wi K wi1 (ρ' x) ys)
    (hr1 : ∀ x y t, c1 x y = some t → RG K g1 js1 (.d y) (wipeE (ρ' x) vs1) (ρ'' x y)) (ht1 : ∀ x y t, c1 x y = some t → ∀ G, RT K tt1 (ρ'' x y) G (IsT t G)) (he : ∀ x y d, f1 x y = some d → ∀ G, R K te (ρ'' x y) G (Is (.d d) G))
    (hd : lc2O c it c1 f1 xs = some ds) (hl : ds.length ≤ 100000) : R K (tLc2 wi g tt wi1 g1 tt1 te vs vs1) ρ G (New ds G) := fun F σ B H Q cf s k => by
  refine hw F σ G B H _ cf s fun J B2 H2 e c2 wd D hD => ?_
  have nF : F D = none := Ex.free c2.fr hD
  let I : Nat → List PyData → Prop := fun i acc => ∃ rest, lc2O c it c1 f1 (xs.drop i) = some rest ∧ acc ++ rest = ds
  refine ⟨fun i m H => m = xs.length - i ∧ i ≤ xs.length ∧ Keep K F B2 D G (I i) H, ⟨_, rfl, Nat.zero_le _, [], [], B2, Evl.Ex.refl _, .nil, c2.hide hD, ds, hd, rfl⟩, fun i m H1 hyp => ?_⟩
  obtain ⟨em, hi1, md⟩ := hyp
  obtain ⟨av, acc, B1, e1, ra, cc, rest, q1, q2⟩ := id md
  by_cases lt : i < xs.length
  · refine .inr ⟨wd.goes e1 cc i lt, Keep K F B2 D G (I (i + 1)), fun H' kp => ⟨_, by omega, rfl, lt, kp⟩, fun v H' y => ?_⟩
    obtain ⟨x, B', hx, eB, cB, rv⟩ := wd.yields e1 cc i v H' lt y
    have hget := List.getElem?_eq_some_iff.mp hx
    rw [List.drop_eq_getElem_cons hget.1, hget.2] at q1
    obtain ⟨t, hcx, q3⟩ := bind_some q1
    refine hr x t hcx (wipe σ vs) B' H' v _ cB.ex (((s.mono e).mono (e1.trans eB)).wiped vs) rv fun σ2 s2 w2 => ⟨(w2 vs hj).trans (wipe_wipe vs), ?_⟩
    refine ht x t hcx G _ σ2 B' H' _ cB s2 fun b G3 B3 H3 e3 c3 p3 => ?_
    obtain ⟨p3, p4⟩ := p3
    subst p3 p4
    cases b with
    | false =>
      rw [if_neg Bool.false_ne_true] at q3 ⊢
      exact ⟨av, acc, B3, (e1.trans eB).trans e3, ra.mono (eB.trans e3), c3, rest, q3, q2⟩
    | true =>
      rw [if_pos rfl] at q3 ⊢
      obtain ⟨a, q3, q4⟩ := bind_some q3
      obtain ⟨ys, hys, q5⟩ := bind_some q3
      obtain ⟨b, q6, q7⟩ := bind_some q4
      cases q7
      by_cases hzy : ys.length ≤ 100000
      · rw [if_pos hzy] at q5
        refine hi x ys hys hzy _ σ2 G3 B3 H3 _ c3 (s2.mono e3) fun J1 B4 H4 e4 c4 wd1 => ?_
        let I1 : Nat → List PyData → Prop := fun j acc => ∃ r1, lcO (c1 x) (f1 x) (ys.drop j) = some r1 ∧ acc ++ (r1 ++ b) = ds
        refine ⟨fun j m H => m = ys.length - j ∧ j ≤ ys.length ∧ Keep K F B4 D G3 (I1 j) H, ⟨_, rfl, Nat.zero_le _, av, acc, B4, Evl.Ex.refl _, ra.mono ((eB.trans e3).trans e4), c4, a, q5, q2⟩, fun j m H5 hyp => ?_⟩
        obtain ⟨em, hj5, kp⟩ := hyp
        obtain ⟨av5, acc5, B5, e5, ra5, cc5, r1, z1, z2⟩ := id kp
        by_cases lt5 : j < ys.length
        · refine .inr ⟨wd1.goes e5 cc5 j lt5, Keep K F B4 D G3 (I1 (j + 1)), fun H' kp => ⟨_, by omega, rfl, lt5, kp⟩, fun v5 H6 y5 => ?_⟩
          obtain ⟨u, B6, hu, e6, c6, rv6⟩ := wd1.yields e5 cc5 j v5 H6 lt5 y5
          have hget5 := List.getElem?_eq_some_iff.mp hu
          rw [List.drop_eq_getElem_cons hget5.1, hget5.2] at z1
          obtain ⟨t5, hc5, z3⟩ := bind_some z1
          refine hr1 x u t5 hc5 (wipe σ2 vs1) B6 H6 v5 _ c6.ex ((((s2.mono e3).mono e4).mono (e5.trans e6)).wiped vs1) rv6 fun σ3 s3 w3 => ⟨(w3 vs1 hj1).trans (wipe_wipe vs1), ?_⟩
          refine ht1 x u t5 hc5 G3 _ σ3 B6 H6 _ c6 s3 fun b7 G7 B7 H7 e7 c7 p7 => ?_
          obtain ⟨p7, p8⟩ := p7
          subst p7 p8
          cases b7 with
          | false =>
            rw [if_neg Bool.false_ne_true] at z3 ⊢
            exact ⟨av5, acc5, B7, (e5.trans e6).trans e7, ra5.mono (e6.trans e7), c7, r1, z3, z2⟩
          | true =>
            rw [if_pos rfl] at z3 ⊢
            obtain ⟨d, r2, f2, z4, z5⟩ := bin2_some z3
            cases z5
            refine he x u d f2 G7 _ σ3 B7 H7 _ c7 (s3.mono e7) fun w wx G8 B8 H8 e8 c8 r8 p8 => ?_
            obtain ⟨p8, p9⟩ := p8
            subst p8 p9
            have small : av5.length < sizeLine := by
              have h1 := congrArg List.length z2
              rw [List.length_append, List.length_append, List.length_cons] at h1
              rw [ra5.len]
              exact Evl.sz_lt (by omega)
            refine ⟨av5, c8.fr _ _ upd_same, small, av5 ++ [w], acc5 ++ [d], B8, ((e5.trans e6).trans e7).trans e8, (ra5.mono ((e6.trans e7).trans e8)).app (.cons r8 .nil), c8.hidF nF, r2, z4, ?_⟩
            rw [← z2]
            simp
        · have ej : j = ys.length := by omega
          subst ej
          rw [List.drop_length] at z1
          cases z1
          exact .inl ⟨wd1.stops e5 cc5, av5, acc5, B5, (((e1.trans eB).trans e3).trans e4).trans e5, ra5, cc5, b, q6, z2⟩
      · rw [if_neg hzy] at q5
        cases q5
  · have ei : i = xs.length := by omega
    subst ei
    rw [List.drop_length] at q1
    cases q1
    rw [List.append_nil] at q2
    subst q2
    exact .inl ⟨wd.stops e1 cc, k (.ref D) (.a D) _ B1 H1 (e.trans e1) (cc.shown nF ra) rfl ⟨D, rfl, rfl⟩⟩
end
def Lc2 (X : Cx) (elt tg e : Expr) (ifs : List Expr) (tg1 e1 : Expr) (ifs1 : List Expr) (scope : Scope) (ρ : Env) (ds : List PyData) : Prop :=
  ∃ (own : List (Str × Nat)) (vs1 : List Nat) (wi wi1 : TI) (g g1 : TG) (tt tt1 : TT) (te : TE), X.calm = true ∧ X.N.Nodup ∧ PI X tg e wi ∧ BlkOk X.N X.env.scope scope own ∧ (∀ i ∈ vs1, i ∈ own.map (·.2)) ∧ (∀ (z : Shared) (H : Hp) (C : Addr) (cl : List (Str × Addr)) (fp : List Addr), PG (X.blk z H scope (compEnvC scope cl C X.env) fp) tg g) ∧
    (∀ (z : Shared) (H : Hp) (C : Addr) (cl : List (Str × Addr)) (fp : List Addr), PTs (X.blk z H scope (compEnvC scope cl C X.env) fp) ifs tt) ∧ (∀ (z : Shared) (H : Hp) (C : Addr) (cl : List (Str × Addr)) (fp : List Addr), PI (X.blk z H scope (compEnvC scope cl C X.env) fp) tg1 e1 wi1) ∧
    (∀ (z : Shared) (H : Hp) (C : Addr) (cl : List (Str × Addr)) (fp : List Addr), PG (X.blk z H scope (compEnvC scope cl C X.env) fp) tg1 g1) ∧ (∀ (z : Shared) (H : Hp) (C : Addr) (cl : List (Str × Addr)) (fp : List Addr), PTs (X.blk z H scope (compEnvC scope cl C X.env) fp) ifs1 tt1) ∧
    (∀ (z : Shared) (H : Hp) (C : Addr) (cl : List (Str × Addr)) (fp : List Addr), PE (X.blk z H scope (compEnvC scope cl C X.env) fp) elt te) ∧ (∀ x, foldedSetIterable e X.env x = pure x) ∧ (∀ env x, foldedSetIterable e1 env x = pure x) ∧ ∀ G, R X.K (tLc2 wi g tt wi1 g1 tt1 te (own.map (·.2)) vs1) ρ G (New ds G)
/-- what is walked in the inner for -/
structure EIn (X : Cx) (scope : Scope) (tg1 e1 : Expr) (ρ' : PyData → Env) (it : PyData → Option (List PyData)) : Prop where
  ex : ∃ wi1 : TI, (∀ (z : Shared) (H : Hp) (C : Addr) (cl : List (Str × Addr)) (fp : List Addr), PI (X.blk z H scope (compEnvC scope cl C X.env) fp) tg1 e1 wi1) ∧ ∀ x ys, it x = some ys → Wi X.K wi1 (ρ' x) ys
section
variable {X : Cx} {elt tg e tg1 e1 a : Expr} {ifs ifs1 es : List Expr} {scope : Scope} {own : List (Str × Nat)} {ρ : Env} {G : Store} {Φ : Pst} {pos p p2 : Pos} {g g1 : TG} {js js1 vs1 : List Nat} {ρ' : PyData → Env} {oa : PyData → Option PyData}
def tupSeqO : PyData → Option (List PyData)
  | .tuple ds => some ds
  | _ => none
theorem blk_r {Φ2 : Pst} {ρ2 : Env} (h : ∀ z : Fz, Xp (bx X scope z) a ρ2 G Φ2) : R X.K (blkE X scope a) ρ2 G Φ2 := fun F σ B H Q c s k z => h z F σ B H Q c s k
theorem ein_tup (h : ∀ x (z : Fz), EV (bx X scope z) e1 (ρ' x) (oa x)) : EIn X scope tg1 e1 ρ' (fun x => (oa x).bind tupSeqO) := ⟨iTup X.K (blkE X scope e1), fun z H C cl fp => pi_tup ⟨fun pins st σ H' Q I h => (h (z, H, C, cl, fp)).run pins st I⟩, fun x ys hx => wi_tup fun G => blk_r fun z => by
  obtain ⟨d, h1, h2⟩ := bind_some hx
  cases d <;> cases h2
  exact (h x z).run _ h1 G⟩
theorem ein_enum {elts : List Expr} {kk : Nat} {tpos : Pos} (hen : X.mg "enumerate" = none) (h : ∀ x (z : Fz), EV (bx X scope z) a (ρ' x) (oa x)) (hgl : ∀ (z : Shared) (H : Hp) (C : Addr) (cl : List (Str × Addr)) (fp : List Addr), Gl (X.blk z H scope (compEnvC scope cl C X.env) fp) "enumerate" := by intros; rfl)
    (hst : ∀ env, starEach [a] env = [(false, eval a env)] := by intros; rfl) (hst2 : ∀ env, starEach [a] env = (false, eval a env) :: starEach [] env := by intros; rfl) : EIn X scope (.Tuple elts kk tpos) (.Call (.Name "enumerate" p) [a] [] p2) ρ' (fun x => (oa x).bind enumO) :=
  ⟨iEnT X.K (tCons (blkE X scope a) tNil), fun z H C cl fp => pi_enT (hgl z H C cl fp) hen (pa_cons ⟨fun pins st σ H' Q I h => (h (z, H, C, cl, fp)).run pins st I⟩ pa_nil (hst2 _)) (hst _), fun x ys hx => by
    obtain ⟨d, h1, h2⟩ := bind_some hx
    cases d <;> first | cases h2 | skip
    refine wi_enT fun G F σ B H Q c s k => ?_
    show blkE X scope a σ H fun v H1 => Q [v] H1
    refine blk_r (fun z => (h x z).run _ h1 G) F σ B H _ c s fun v y G2 B2 H2 e2 c2 r q => ?_
    rw [q.1] at r
    exact k [v] [_] G2 B2 H2 e2 c2 (.cons r .nil) ⟨rfl, q.2⟩⟩
theorem lc2_of {ox : Option (List PyData)} {cc : PyData → Option Bool} {it : PyData → Option (List PyData)} {c1 : PyData → PyData → Option Bool} {f1 : PyData → PyData → Option PyData} {ρ'' : PyData → PyData → Env} {ds : List PyData} (hN : X.N.Nodup) (hi : EIt X tg e ρ ox) (ok : BlkOk X.N X.env.scope scope own) (hv : ∀ i ∈ vs1, i ∈ own.map (·.2))
    (hg : ∀ (z : Shared) (H : Hp) (C : Addr) (cl : List (Str × Addr)) (fp : List Addr), PG (X.blk z H scope (compEnvC scope cl C X.env) fp) tg g) (hg1 : ∀ (z : Shared) (H : Hp) (C : Addr) (cl : List (Str × Addr)) (fp : List Addr), PG (X.blk z H scope (compEnvC scope cl C X.env) fp) tg1 g1) (hj : ∀ j ∈ js, j ∈ own.map (·.2)) (hj1 : ∀ j ∈ js1, j ∈ vs1)
    (hr : ∀ x t, cc x = some t → RG X.K g js (.d x) (wipeE ρ (own.map (·.2))) (ρ' x)) (ht : ∀ x (z : Fz), ETs (bx X scope z) ifs (ρ' x) (cc x)) (hin : EIn X scope tg1 e1 ρ' it)
    (hr1 : ∀ x y t, c1 x y = some t → RG X.K g1 js1 (.d y) (wipeE (ρ' x) vs1) (ρ'' x y)) (ht1 : ∀ x y (z : Fz), ETs (bx X scope z) ifs1 (ρ'' x y) (c1 x y)) (he : ∀ x y (z : Fz), EV (bx X scope z) elt (ρ'' x y) (f1 x y))
    (hd : (ox.bind fun xs => if xs.length ≤ 100000 then (lc2O cc it c1 f1 xs).bind fun ds => if ds.length ≤ 100000 then some ds else none else none) = some ds)
    (hc : X.calm = true := by rfl) (hf : ∀ x, foldedSetIterable e X.env x = pure x := by intro _; rfl) (hf1 : ∀ env x, foldedSetIterable e1 env x = pure x := by intro _ _; rfl) : Lc2 X elt tg e ifs tg1 e1 ifs1 scope ρ ds := by
  obtain ⟨xs, z1, z2⟩ := bind_some hd
  by_cases hz : xs.length ≤ 100000
  · rw [if_pos hz] at z2
    obtain ⟨ds2, z3, z4⟩ := bind_some z2
    obtain ⟨hl, z5⟩ := ite_some z4
    subst z5
    obtain ⟨wi, p1, w1⟩ := hi.run xs z1 hz
    obtain ⟨wi1, p2, w2⟩ := hin.ex
    exact ⟨own, vs1, wi, wi1, g, g1, blkT X scope ifs, blkT X scope ifs1, blkE X scope elt, hc, hN, p1, ok, hv, hg, (fun s H C cl fp => ⟨fun pins st σ H' Q I h => (h (s, H, C, cl, fp)).run pins st I⟩), p2, hg1, (fun s H C cl fp => ⟨fun pins st σ H' Q I h => (h (s, H, C, cl, fp)).run pins st I⟩), (fun s H C cl fp => ⟨fun pins st σ H' Q I h => (h (s, H, C, cl, fp)).run pins st I⟩), hf, hf1,
      fun G => r_lc2 w1 hj hj1 hr (fun x t hx G F σ B H Q c s k z => (ht x z).run t hx G F σ B H Q c s k) (fun x ys hx _ => w2 x ys hx) hr1 (fun x y t hx G F σ B H Q c s k z => (ht1 x y z).run t hx G F σ B H Q c s k) (fun x y d hx G => blk_r fun z => (he x y z).run d hx G) z3 hl⟩
  · rw [if_neg hz] at z2
    cases z2
theorem Lc2.xl {ds : List PyData} (h : Lc2 X elt tg e ifs tg1 e1 ifs1 scope ρ ds) : Xl X (.ListComp elt [⟨tg, e, ifs, 0⟩, ⟨tg1, e1, ifs1, 0⟩] scope pos) ρ ds := by
  obtain ⟨own, vs1, wi, wi1, g, g1, tt, tt1, te, hc, hN, hi, ok, hv, hg, ht, hi1, hg1, ht1, he, hs, hs1, r⟩ := h
  exact fun G => xp_of (pe_lc2 hc hN hi ok hv hg ht hi1 hg1 ht1 he hs hs1) (r G)
theorem xs_setLc2 (i : Nat) {y : Str} {py spos : Pos} {ds : List PyData} {N : Env → Store → Prop} (h : Lc2 X elt tg e ifs tg1 e1 ifs1 scope ρ ds) (q : ∀ l, N (ρ.set i (some (.a l))) ((l, .lst ds) :: G)) (hy : X.N[i]? = some y := by rfl) (hyl : X.env.scope.names.lookup y = some .local := by rfl)
    (hsw : swapsWith (.ListComp elt [⟨tg, e, ifs, 0⟩, ⟨tg1, e1, ifs1, 0⟩] scope pos) (some (.Name y py)) spos.line X.env = pure true := by rfl) : Xs X (.Assign [.Name y py] (.ListComp elt [⟨tg, e, ifs, 0⟩, ⟨tg1, e1, ifs1, 0⟩] scope pos) spos) ρ G N Φ := by
  obtain ⟨own, vs1, wi, wi1, g, g1, tt, tt1, te, hc, hN, hi, ok, hv, hg, ht, hi1, hg1, ht1, he, hs, hs1, r⟩ := h
  refine xs_of (ps_setLc2 hc hN hy hyl hsw hi ok hv hg ht hi1 hg1 ht1 he hs hs1) (rs_asg (js := [i]) (r G) fun z G2 w => ?_)
  obtain ⟨l, e1, e2⟩ := w
  exact ⟨_, rg_name, by rw [e1, e2]; exact q l⟩
theorem xs_setLc2D (i : Nat) {y : Str} {py spos : Pos} {ds : List PyData} (h : Lc2 X elt tg e ifs tg1 e1 ifs1 scope ρ ds) (hy : X.N[i]? = some y := by rfl) (hyl : X.env.scope.names.lookup y = some .local := by rfl)
    (hsw : swapsWith (.ListComp elt [⟨tg, e, ifs, 0⟩, ⟨tg1, e1, ifs1, 0⟩] scope pos) (some (.Name y py)) spos.line X.env = pure true := by rfl) : Xs X (.Assign [.Name y py] (.ListComp elt [⟨tg, e, ifs, 0⟩, ⟨tg1, e1, ifs1, 0⟩] scope pos) spos) ρ G (At (ρ.set i (some (.d (.list ds)))) G) Φ := by
  obtain ⟨own, vs1, wi, wi1, g, g1, tt, tt1, te, hc, hN, hi, ok, hv, hg, ht, hi1, hg1, ht1, he, hs, hs1, r⟩ := h
  refine xs_of (ps_setLc2 hc hN hy hyl hsw hi ok hv hg ht hi1 hg1 ht1 he hs hs1) (rs_asg (js := [i]) (r G).gives fun z G2 w => ?_)
  exact ⟨_, rg_name, by rw [w.1], w.2⟩
end
/-! ### a list is done: from now on it is data -/
theorem RS.freeze {K : PySem.W.Frag} {t : TS} {ρ : Env} {G : Store} {N : Env → Store → Prop} {Φ : Pst} {i : Nat} {l : Addr} {ds : List PyData} (h : RS K t (ρ.set i (some (.d (.list ds)))) G N Φ) : RS K t (ρ.set i (some (.a l))) ((l, .lst ds) :: G) N Φ := fun F σ B H D c s n k => by
  obtain ⟨vs, nB, rr, c2⟩ := c.freeze
  have ex := ex_new nB (.lst vs)
  refine h F σ _ H D c2 ⟨by have := s.1; rw [List.length_set] at this ⊢; exact this, fun j x hx => ?_⟩ (fun ρ3 σ3 G3 B3 H3 e3 c3 s3 p3 => n ρ3 σ3 G3 B3 H3 (ex.trans e3) c3 s3 p3) (k.mono ex)
  by_cases e : i = j
  · subst e
    have lt : i < ρ.length := by
      have := (List.getElem?_eq_some_iff.mp hx).1
      rw [List.length_set] at this
      exact this
    obtain ⟨v, q1, q2⟩ := s.2 i (.a l) (by rw [List.getElem?_set_self lt])
    rw [List.getElem?_set_self lt] at hx
    cases hx
    obtain rfl : v = .ref l := q2
    exact ⟨_, q1, .rlst (Evl.sq_of upd_same) (rr.mono ex)⟩
  · rw [List.getElem?_set_ne e] at hx
    obtain ⟨v, q1, q2⟩ := s.2 j x (by rw [List.getElem?_set_ne e]; exact hx)
    exact ⟨v, q1, q2.mono ex⟩
section
variable {X : Cx} {e o : Expr} {es : List Expr} {ρ : Env} {G : Store} {Φ : Pst} {pos p p2 apos : Pos} {oa : Option PyData}
/-- xs.extend(a new list), xs at the store's head -/
theorem xp_extendN {l : Addr} {xs ys : List PyData} (ho : Xd X o ρ (.a l)) (he : Xl X e ρ ys) (hz : xs.length + ys.length ≤ 100000) (q : Φ (.d .none) ((l, .lst (xs ++ ys)) :: G))
    (hb : attributeBase o "extend" X.env (eval o X.env) = eval o X.env := by rfl) (hf : ((backTo pos (starEach [e] X.env)).all (fun x => !x.1) && (backToKw pos (keywordEach [] X.env)).all (fun x => x.1.isSome) && decide (([e] : List Expr).length + ([] : List Keyword).length + (if ([] : List Keyword).isEmpty then 0 else 1) < 30)) = true := by rfl)
    (hl : (apos.endLine == pos.line) = true := by rfl) (hs : starEach [e] X.env = (false, eval e X.env) :: starEach [] X.env := by rfl) (hp : (backTo pos (starEach [] X.env)).any (·.1) = false := by rfl) : Xp X (.Call (.Attribute o "extend" apos) [e] [] pos) ρ ((l, .lst xs) :: G) Φ :=
  xp_of (pe_bm PySem.F.plainAttrs_list PySem.F.slot_list_extend PySem.F.type_list_extend mt_extend pe_tw (pa_cons pe_tw pa_nil hs) hb hf hl hs hp) fun F σ B H Q c s k => ho _ F σ B H _ c s fun v x G2' B2 H2 e2 c2 r2 q2 => by
    rw [q2.1] at r2
    rw [q2.2] at c2
    have r2 : v = .ref l := r2
    subst r2
    obtain ⟨ws0, h0, _⟩ := c2.ce _ List.mem_cons_self
    refine ⟨.inl ⟨rfl, ws0, .inl (.inl h0)⟩, he ((l, .lst xs) :: G) F σ B2 H2 _ c2 (s.mono e2) fun u y G3 B3 H3 e3 c3 r3 q3 => ?_⟩
    obtain ⟨b, q4, q5⟩ := q3
    subst q4 q5
    obtain rfl : u = .ref b := r3
    obtain ⟨zs, h3, h4⟩ := c3.ce _ List.mem_cons_self
    obtain ⟨ws, h1, h2⟩ := c3.ce (l, .lst xs) (List.mem_cons_of_mem _ List.mem_cons_self)
    have small : ws.length + zs.length ≤ sizeLine := by
      rw [h2.len, h4.len]
      exact Evl.sz_of hz
    refine ⟨l, b, ws, zs, rfl, rfl, h1, h3, small, ?_⟩
    have c4 := c3.lose.set (G1 := []) (x' := .lst (xs ++ ys)) (o := .lst (ws ++ zs)) ⟨_, upd_same, h2.app h4⟩
    exact k .non (.d .none) _ B3 _ (e2.trans e3) c4 .rnon q
end
end Fsh

set_option Elab.async false
set_option linter.all false
set_option maxRecDepth 100000
set_option maxHeartbeats 4000000
namespace Fsh
open PySem PySem.Spec PyProof.Rows L2
section
variable {X : Cx} {elt tg e tg1 e1 elt2 tg2 e2 tg3 e3 a : Expr} {ifs ifs1 ifs2 ifs3 : List Expr} {r : List Stmt} {scope scope2 : Scope} {ρ : Env} {G : Store} {Φ : Pst} {pos p p2 apos : Pos} {oa : Option PyData} {ol ol2 : Option (List PyData)}
structure ELc2 (X : Cx) (elt tg e : Expr) (ifs : List Expr) (tg1 e1 : Expr) (ifs1 : List Expr) (scope : Scope) (ρ : Env) (o : Option (List PyData)) : Prop where
  run : ∀ ds, o = some ds → Lc2 X elt tg e ifs tg1 e1 ifs1 scope ρ ds
theorem ev_lc2 (h : ELc2 X elt tg e ifs tg1 e1 ifs1 scope ρ ol) : EV X (.ListComp elt [⟨tg, e, ifs, 0⟩, ⟨tg1, e1, ifs1, 0⟩] scope pos) ρ (ol.map PyData.list) := ⟨fun d hd => by
  obtain ⟨ds, z1, z2⟩ := Option.map_eq_some_iff.mp hd
  subst z2
  exact (h.run ds z1).xl.data⟩
theorem es_asgLc2 (i : Nat) {y : Str} {py spos : Pos} {f : PyData → Option PyData} (h : ELc2 X elt tg e ifs tg1 e1 ifs1 scope ρ ol) (hr : ∀ d, ES X r (ρ.set i (some (.d d))) (f d)) (hy : X.N[i]? = some y := by rfl) (hyl : X.env.scope.names.lookup y = some .local := by rfl)
    (hsw : swapsWith (.ListComp elt [⟨tg, e, ifs, 0⟩, ⟨tg1, e1, ifs1, 0⟩] scope pos) (some (.Name y py)) spos.line X.env = pure true := by rfl) : ES X (.Assign [.Name y py] (.ListComp elt [⟨tg, e, ifs, 0⟩, ⟨tg1, e1, ifs1, 0⟩] scope pos) spos :: r) ρ ((ol.map PyData.list).bind f) := ⟨fun d hd G N Φ q => by
  obtain ⟨z, z1, z3⟩ := bind_some hd
  obtain ⟨ds, z4, z5⟩ := Option.map_eq_some_iff.mp z1
  subst z5
  exact xss_at (xs_setLc2D i (h.run ds z4) hy hyl hsw) ((hr _).run d z3 G N Φ q)⟩
def joinO (f : PyData → Option PyData) (xs ys : List PyData) : Option PyData := if xs.length + ys.length ≤ 100000 then f (.list (xs ++ ys)) else none
theorem Xl.forget {ds : List PyData} {i : Nat} (h : Xl X e (ρ.set i none) ds) : Xl X e ρ ds := fun G F σ B H Q c s k => h G F σ B H Q c (s.forget i) k
/-- y = [.. for .. for ..]; y.extend([.. for .. for ..]) -/
theorem es_lc2ext (i : Nat) {y : Str} {py py2 spos pos2 pos3 pos4 : Pos} {f : PyData → Option PyData} (hN : X.N.Nodup) (h : ELc2 X elt tg e ifs tg1 e1 ifs1 scope ρ ol) (h2 : ELc2 X elt2 tg2 e2 ifs2 tg3 e3 ifs3 scope2 (ρ.set i none) ol2) (hr : ∀ d, ES X r (ρ.set i (some (.d d))) (f d)) (lt : i < ρ.length)
    (hy : X.N[i]? = some y := by rfl) (hyl : X.env.scope.names.lookup y = some .local := by rfl) (h1 : (y == ("__debug__" : Str)) = false := by decide) (hcd : (y == ("__classdict__" : Str)) = false := by decide)
    (hsw : swapsWith (.ListComp elt [⟨tg, e, ifs, 0⟩, ⟨tg1, e1, ifs1, 0⟩] scope pos) (some (.Name y py)) spos.line X.env = pure true := by rfl) (hs2 : swapsWith (.Call (.Attribute (.Name y py2) "extend" apos) [.ListComp elt2 [⟨tg2, e2, ifs2, 0⟩, ⟨tg3, e3, ifs3, 0⟩] scope2 pos2] [] pos3) none pos4.line X.env = pure false := by rfl)
    (hb : attributeBase (.Name y py2) "extend" X.env (eval (.Name y py2) X.env) = eval (.Name y py2) X.env := by rfl) (hf : ((backTo pos3 (starEach [.ListComp elt2 [⟨tg2, e2, ifs2, 0⟩, ⟨tg3, e3, ifs3, 0⟩] scope2 pos2] X.env)).all (fun x => !x.1) && (backToKw pos3 (keywordEach [] X.env)).all (fun x => x.1.isSome) && decide (([.ListComp elt2 [⟨tg2, e2, ifs2, 0⟩, ⟨tg3, e3, ifs3, 0⟩] scope2 pos2] : List Expr).length + ([] : List Keyword).length + (if ([] : List Keyword).isEmpty then 0 else 1) < 30)) = true := by rfl)
    (hl : (apos.endLine == pos3.line) = true := by rfl) (hst : starEach [.ListComp elt2 [⟨tg2, e2, ifs2, 0⟩, ⟨tg3, e3, ifs3, 0⟩] scope2 pos2] X.env = (false, eval (.ListComp elt2 [⟨tg2, e2, ifs2, 0⟩, ⟨tg3, e3, ifs3, 0⟩] scope2 pos2) X.env) :: starEach [] X.env := by rfl) (hp : (backTo pos3 (starEach [] X.env)).any (·.1) = false := by rfl) :
    ES X (.Assign [.Name y py] (.ListComp elt [⟨tg, e, ifs, 0⟩, ⟨tg1, e1, ifs1, 0⟩] scope pos) spos :: .Expr (.Call (.Attribute (.Name y py2) "extend" apos) [.ListComp elt2 [⟨tg2, e2, ifs2, 0⟩, ⟨tg3, e3, ifs3, 0⟩] scope2 pos2] [] pos3) pos4 :: r) ρ (bin2 (joinO f) ol ol2) := ⟨fun d hd G N Φ q => by
  obtain ⟨xs, ys, z1, z2, z3⟩ := bin2_some hd
  unfold joinO at z3
  by_cases hz : xs.length + ys.length ≤ 100000
  · rw [if_pos hz] at z3
    refine xss_cons (M := fun ρ' G' => ∃ l, ρ' = ρ.set i (some (.a l)) ∧ G' = (l, .lst xs) :: G) (xs_setLc2 i (h.run xs z1) (fun l => ⟨l, rfl, rfl⟩) hy hyl hsw) fun ρ' G' w => ?_
    obtain ⟨l, w1, w2⟩ := w
    subst w1 w2
    refine xss_cons (M := fun ρ' G' => ρ' = ρ.set i (some (.a l)) ∧ G' = (l, .lst (xs ++ ys)) :: G) (xs_expr (Φe := fun y G2 => G2 = (l, .lst (xs ++ ys)) :: G) (xp_extendN (xd_name i hy (Or.inl hyl) (List.getElem?_set_self lt) h1 hcd) (Xl.forget (i := i) ?_) hz rfl hb hf hl hst hp) (fun x G2 w => ⟨rfl, w⟩) hs2) fun ρ' G' w => ?_
    · rw [List.set_set]
      exact (h2.run ys z2).xl
    · obtain ⟨w1, w2⟩ := w
      subst w1 w2
      exact RS.freeze ((hr _).run d z3 G N Φ q)
  · rw [if_neg hz] at z3
    cases z3⟩
/-- sorted(set(a list of texts)) -/
noncomputable def sortSetO : PyData → Option PyData
  | .list ds => (strs? ds).bind fun l => if l.length ≤ 60 then some (.list ((tsort (allTx l)).map PyData.str)) else none
  | _ => none
theorem ev_sortSet {ps : Pos} (hso : X.mg "sorted" = none) (hse : X.mg "set" = none) (ha : EV X a ρ oa) (hg : Gl X "sorted" := by rfl) (hgs : Gl X "set" := by rfl) (hst : starEach [.Call (.Name "set" ps) [a] [] p2] X.env = (false, eval (.Call (.Name "set" ps) [a] [] p2) X.env) :: starEach [] X.env := by rfl) (hst2 : starEach [a] X.env = (false, eval a X.env) :: starEach [] X.env := by rfl)
    (hpl : (backTo pos (starEach [] X.env)).any (·.1) = false := by rfl) (hpl2 : (backTo p2 (starEach [] X.env)).any (·.1) = false := by rfl) (hc : X.calm = true := by rfl) : EV X (.Call (.Name "sorted" p) [.Call (.Name "set" ps) [a] [] p2] [] pos) ρ (oa.bind sortSetO) := ⟨fun d hd G => by
  obtain ⟨x, z1, z2⟩ := bind_some hd
  cases x <;> first | cases z2 | skip
  obtain ⟨l, z3, z4⟩ := bind_some z2
  obtain ⟨hz, z5⟩ := ite_some z4
  subst z5
  have z6 := strs_of z3
  subst z6
  refine xp_of (pe_callB (cr_sortTx hc) hg hso (by decide +kernel) (pa_cons (pe_callTy (cr_setTx hc) hgs hse (by decide +kernel) (pa_cons pe_tw pa_nil hst2) (by decide) (by decide) hst2 hpl2) pa_nil hst) (by decide) (by decide) hst hpl) fun F σ B H Q c sl kk => ?_
  show tw X a σ H fun v H1 => rSetTx X.K X.w [v] H1 fun u H2 => rSortTx X.w [u] H2 Q
  refine ha.run _ z1 G F σ B H _ c sl fun v y G2 B2 H2 e2 c2 r q => ?_
  obtain ⟨q1, q2⟩ := q
  subst q1 q2
  cases r with
  | rlst pl rr =>
    rename_i b vs
    have ev := rr.strs
    subst ev
    refine ⟨b, l, rfl, Evl.ex_l c2.ex pl, by omega, fun D hD => ?_⟩
    have c3 : Cfg X.K (upd F D (TxO X.w D (allTx l))) G2 B2 (upd H2 D (TxO X.w D (allTx l))) := c2.hide hD
    have nF : F D = none := Ex.free c2.fr hD
    have small := foldTx_len l []
    rw [List.length_nil] at small
    refine ⟨D, allTx l, rfl, upd_same, by unfold allTx; omega, fun ys q perm srt nq => ?_⟩
    have ey := tsort_is perm srt
    subst ey
    have c4 := (c3.drop nF).new nq (.lst ((tsort (allTx l)).map V.str))
    have en := ex_new (B := B2) (Ex.free c3.ex nq) (.lst ((tsort (allTx l)).map V.str))
    exact (kk.mono (e2.trans en)).ret (x := .d (.list ((tsort (allTx l)).map PyData.str))) c4 (.rlst (Evl.sq_of upd_same) (rps_strs _)) ⟨rfl, rfl⟩⟩
end
end Fsh

set_option Elab.async false
set_option linter.all false
set_option maxRecDepth 100000
set_option maxHeartbeats 4000000
namespace Fsh
open PySem PySem.Spec PyProof.Rows L2
/-! ### x in xs, x not in xs: data of any kind in a list or a tuple of data of any kind -/
def rInC (K : PySem.W.Frag) (neg : Bool) : R2 := fun x y H Q => ∃ (d : PyData) (ds : List PyData), Dp K H x d ∧ (Dp K H y (.list ds) ∨ Dp K H y (.tuple ds)) ∧ SeqAt.shaped d = true ∧ PyData.canLayAll0 ds = true ∧ Q (.bl (if neg = true then !ds.any (fun z => PyData.eqv z d) else ds.any fun z => PyData.eqv z d)) H
section
variable {X : Cx} {e a b : Expr} {ρ : Env} {G : Store} {Φ : Pst} {pos p p2 apos : Pos} {oa ob : Option PyData}
theorem op_inC0 (hu : X.A.units + 65 < cLine) : OpR X (compareOp .In) (rInC X.K false) := fun pins s σ H x y v u Q I rx ry h => by
  obtain ⟨d, ds, hd, he, sd, se, q⟩ := h
  obtain ⟨as, r1⟩ := Dp.reads I d x v hd rx
  rcases he with he | he
  · obtain ⟨bs, r2⟩ := Dp.reads I _ y u he ry
    exact SeqAt.in_list_reads r2 r1 se (SeqAt.canLay_of_shaped sd) (room_in_shaped sd hu) ⟨.bl _, H, I, rfl, q⟩
  · obtain ⟨bs, r2⟩ := Dp.reads I _ y u he ry
    exact SeqAt.in_tuple_reads r2 r1 se (SeqAt.canLay_of_shaped sd) (room_in_shaped sd hu) ⟨.bl _, H, I, rfl, q⟩
theorem op_inC1 (hu : X.A.units + 65 < cLine) : OpR X (compareOp .NotIn) (rInC X.K true) := fun pins s σ H x y v u Q I rx ry h => by
  obtain ⟨d, ds, hd, he, sd, se, q⟩ := h
  obtain ⟨as, r1⟩ := Dp.reads I d x v hd rx
  rcases he with he | he
  · obtain ⟨bs, r2⟩ := Dp.reads I _ y u he ry
    exact SeqAt.notIn_list_reads r2 r1 se (SeqAt.canLay_of_shaped sd) (room_in_shaped sd hu) ⟨.bl _, H, I, rfl, q⟩
  · obtain ⟨bs, r2⟩ := Dp.reads I _ y u he ry
    exact SeqAt.notIn_tuple_reads r2 r1 se (SeqAt.canLay_of_shaped sd) (room_in_shaped sd hu) ⟨.bl _, H, I, rfl, q⟩
theorem op_inCl {K : PySem.W.Frag} {neg : Bool} {d : PyData} {ds : List PyData} (h1 : SeqAt.shaped d = true) (h2 : PyData.canLayAll0 ds = true) : Op K (rInC K neg) (.d d) (.d (.list ds)) G (Is (.d (.bool (if neg = true then !ds.any (fun z => PyData.eqv z d) else ds.any fun z => PyData.eqv z d))) G) := fun F B H v u Q c r1 r2 k =>
  ⟨d, ds, (Rp.mono c.ex r1).dp, .inl (Rp.mono c.ex r2).dp, h1, h2, k.ret (x := .d (.bool _)) c (.rbl _) ⟨rfl, rfl⟩⟩
theorem op_inCt {K : PySem.W.Frag} {neg : Bool} {d : PyData} {ds : List PyData} (h1 : SeqAt.shaped d = true) (h2 : PyData.canLayAll0 ds = true) : Op K (rInC K neg) (.d d) (.d (.tuple ds)) G (Is (.d (.bool (if neg = true then !ds.any (fun z => PyData.eqv z d) else ds.any fun z => PyData.eqv z d))) G) := fun F B H v u Q c r1 r2 k =>
  ⟨d, ds, (Rp.mono c.ex r1).dp, .inr (Rp.mono c.ex r2).dp, h1, h2, k.ret (x := .d (.bool _)) c (.rbl _) ⟨rfl, rfl⟩⟩
def memO (d : PyData) (ds : List PyData) : Option Bool := if SeqAt.shaped d = true ∧ PyData.canLayAll0 ds = true then some (ds.any fun z => PyData.eqv z d) else none
def inDO : PyData → PyData → Option Bool
  | d, .list ds => memO d ds
  | d, .tuple ds => memO d ds
  | _, _ => none
def ninDO (x y : PyData) : Option Bool := notO (inDO x y)
theorem cs_inD (k : Kx X) : CmpS X .In inDO := ⟨fun {x y t a b pos ρ} h hm ha hb => by
  have hu : X.A.units + 65 < cLine := by have := k.un; omega
  unfold inDO at h
  split at h
  · obtain ⟨z, e⟩ := ite_some h
    subst e
    exact ⟨fun G => x_cmpD (op_inC0 hu) ha hb (op_inCl (neg := false) z.1 z.2) hm, xt_cmpD (op_inC0 hu) ha hb (fun _ => op_inCl (neg := false) z.1 z.2) hm⟩
  · obtain ⟨z, e⟩ := ite_some h
    subst e
    exact ⟨fun G => x_cmpD (op_inC0 hu) ha hb (op_inCt (neg := false) z.1 z.2) hm, xt_cmpD (op_inC0 hu) ha hb (fun _ => op_inCt (neg := false) z.1 z.2) hm⟩
  · cases h⟩
theorem cs_ninD (k : Kx X) : CmpS X .NotIn ninDO := ⟨fun {x y t a b pos ρ} h hm ha hb => by
  have hu : X.A.units + 65 < cLine := by have := k.un; omega
  obtain ⟨t0, h9, e0⟩ := Option.map_eq_some_iff.mp (show Option.map (fun t => !t) (inDO x y) = some t from h)
  clear h
  subst e0
  unfold inDO at h9
  split at h9
  · obtain ⟨z, e⟩ := ite_some h9
    subst e
    exact ⟨fun G => x_cmpD (op_inC1 hu) ha hb (op_inCl (neg := true) z.1 z.2) hm, xt_cmpD (op_inC1 hu) ha hb (fun _ => op_inCl (neg := true) z.1 z.2) hm⟩
  · obtain ⟨z, e⟩ := ite_some h9
    subst e
    exact ⟨fun G => x_cmpD (op_inC1 hu) ha hb (op_inCt (neg := true) z.1 z.2) hm, xt_cmpD (op_inC1 hu) ha hb (fun _ => op_inCt (neg := true) z.1 z.2) hm⟩
  · cases h9⟩
def z3 (f : PyData → PyData → PyData → Option PyData) : Spec := fun xs G Φ => ∃ a b c y, xs = [.d a, .d b, .d c] ∧ f a b c = some y ∧ Φ (.d y) G
def app3 (f : PyData → PyData → PyData → Option PyData) (oa ob oc : Option PyData) : Option PyData := oa.bind fun a => ob.bind fun b => oc.bind fun c => f a b c
theorem ev_call3 {e2 e3 : Expr} {oc : Option PyData} {k : Nat} {x y y2 y3 : Str} {f : PyData → PyData → PyData → Option PyData} (kx : Kx X) (Fx : Fg X.prog X.w X.K X.mg X.base k x [y, y2, y3] (z3 f)) (hr : Room k X.A) (ha : EV X e ρ oa) (hb : EV X e2 ρ ob) (hc : EV X e3 ρ oc) (hg : Gl X x := by rfl) (hdb : (x == ("__debug__" : Str)) = false := by decide)
    (hst : starEach [e, e2, e3] X.env = (false, eval e X.env) :: starEach [e2, e3] X.env := by rfl) (hst2 : starEach [e2, e3] X.env = (false, eval e2 X.env) :: starEach [e3] X.env := by rfl) (hst3 : starEach [e3] X.env = (false, eval e3 X.env) :: starEach [] X.env := by rfl) (hpl : (backTo pos (starEach [e2, e3] X.env)).any (·.1) = false := by rfl) : EV X (.Call (.Name x p) [e, e2, e3] [] pos) ρ (app3 f oa ob oc) := ⟨fun d hd G => by
  obtain ⟨u, e1, h2⟩ := bind_some hd
  obtain ⟨u2, e4, h3⟩ := bind_some h2
  obtain ⟨u3, e5, h4⟩ := bind_some h3
  exact xg_call Fx hr kx.gd (xad_cons (ha.run _ e1) (xad_cons (hb.run _ e4) (xad_cons (hc.run _ e5) xa_nil hst3) hst2) hst G) (fun xs G' q => ⟨[], G', rfl, u, u2, u3, d, q.1, h4, rfl, q.2⟩) hg hdb hst hpl⟩
end
end Fsh

set_option Elab.async false
set_option linter.all false
set_option maxRecDepth 100000
set_option maxHeartbeats 2000000
namespace Fsh
open PySem PySem.Spec PyProof.Rows L2
/-! ### an __init__ of three rows, two fields: Base.__init__(self, f'{f}..{g}'), self.f = f, self.g = g; f a short text -/
def spI2 (K : PySem.W.Frag) (f g : Str) : Sp := fun vs H Q _ => ∃ (a C : Addr) (z : Str) (v : V) (d : PyData), vs = [.ref a, .str z, v] ∧ OexC K C ∧ PySem.W.findIn K (.ref C) f = some none ∧ PySem.W.findIn K (.ref C) g = some none ∧ H a = some (exo a C none) ∧ z.length ≤ 50 ∧ Dp K H v d ∧ FmtOk d ∧
  ∀ dx, H dx = none → dx ≠ a → Q .non (upd (upd (upd H dx (exd dx [(f, .str z)])) a (exo a C (some dx))) dx (exd dx [(g, v), (f, .str z)]))
section
variable {X : Cx} {pl : Sem Bool} {B f g : Str} {D : Addr} {m0 : Str} {j0 : Nat} {p1 p2 p3 p4 p5 p6 p7 p8 p9 p10 p11 q1 q2 q3 q4 r1 r2 r3 r4 : Pos}
theorem init_body2 {a C : Addr} {z : Str} {v : V} {d : PyData} {H : Hp} {Q : VK} (hg : X.A.guards = some []) (hu : X.A.units + 200 < cLine) (hB : Gl X B) (hm : X.mg B = some (.ref D)) (b : BaseI X.K D) (hs : X.N[0]? = some (Str.ofString "self")) (hf : X.N[1]? = some f) (hgg : X.N[2]? = some g) (vs : Vis X.env.scope (Str.ofString "self")) (vf : Vis X.env.scope f) (vg : Vis X.env.scope g)
    (df : (f == ("__debug__" : Str)) = false) (cf : (f == ("__classdict__" : Str)) = false) (dg : (g == ("__debug__" : Str)) = false) (cg : (g == ("__classdict__" : Str)) = false) (dB : (B == ("__debug__" : Str)) = false) (lm : m0.length ≤ 30)
    (T : OexC X.K C) (hno : PySem.W.findIn X.K (.ref C) f = some none) (hno2 : PySem.W.findIn X.K (.ref C) g = some none) (e : H a = some (exo a C none)) (lz : z.length ≤ 50) (dp : Dp X.K H v d) (ok : FmtOk d)
    (q : ∀ dx, H dx = none → dx ≠ a → Q .non (upd (upd (upd H dx (exd dx [(f, .str z)])) a (exo a C (some dx))) dx (exd dx [(g, v), (f, .str z)])))
    (hc : eval (.Call (.Attribute (.Name B p1) "__init__" p2) [.Name "self" p3, .JoinedStr [.FormattedValue (.Name f p5) (-1) none p6, .Constant (.str m0) j0 p4, .FormattedValue (.Name g p10) (-1) none p11] p7] [] p8) X.env = (do
      let cv ← eval (.Name B p1) X.env
      standAt p2.atName
      let (m, self) ← holding [cv] (getMethod cv "__init__" pl)
      callWith p8 m self (backTo p8 (starEach [.Name "self" p3, .JoinedStr [.FormattedValue (.Name f p5) (-1) none p6, .Constant (.str m0) j0 p4, .FormattedValue (.Name g p10) (-1) none p11] p7] X.env)) (backToKw p8 (keywordEach [] X.env))) := by rfl)
    (h1 : starEach [.Name "self" p3, .JoinedStr [.FormattedValue (.Name f p5) (-1) none p6, .Constant (.str m0) j0 p4, .FormattedValue (.Name g p10) (-1) none p11] p7] X.env = (false, eval (.Name "self" p3) X.env) :: starEach [.JoinedStr [.FormattedValue (.Name f p5) (-1) none p6, .Constant (.str m0) j0 p4, .FormattedValue (.Name g p10) (-1) none p11] p7] X.env := by rfl)
    (h2 : starEach [.JoinedStr [.FormattedValue (.Name f p5) (-1) none p6, .Constant (.str m0) j0 p4, .FormattedValue (.Name g p10) (-1) none p11] p7] X.env = (false, eval (.JoinedStr [.FormattedValue (.Name f p5) (-1) none p6, .Constant (.str m0) j0 p4, .FormattedValue (.Name g p10) (-1) none p11] p7) X.env) :: starEach [] X.env := by rfl)
    (h3 : (backTo p8 (starEach [.JoinedStr [.FormattedValue (.Name f p5) (-1) none p6, .Constant (.str m0) j0 p4, .FormattedValue (.Name g p10) (-1) none p11] p7] X.env)).any (·.1) = false := by rfl)
    (s1 : swapsWith (.Call (.Attribute (.Name B p1) "__init__" p2) [.Name "self" p3, .JoinedStr [.FormattedValue (.Name f p5) (-1) none p6, .Constant (.str m0) j0 p4, .FormattedValue (.Name g p10) (-1) none p11] p7] [] p8) none p9.line X.env = pure false := by rfl)
    (s2 : swapsWith (.Name f q3) (some (.Attribute (.Name "self" q1) f q2)) q4.line X.env = pure false := by rfl) (s3 : swapsWith (.Name g r3) (some (.Attribute (.Name "self" r1) g r2)) r4.line X.env = pure false := by rfl) :
    ∃ t, PSs X [.Expr (.Call (.Attribute (.Name B p1) "__init__" p2) [.Name "self" p3, .JoinedStr [.FormattedValue (.Name f p5) (-1) none p6, .Constant (.str m0) j0 p4, .FormattedValue (.Name g p10) (-1) none p11] p7] [] p8) p9, .Assign [.Attribute (.Name "self" q1) f q2] (.Name f q3) q4, .Assign [.Attribute (.Name "self" r1) g r2] (.Name g r3) r4] t ∧
      t { nx := fun _ H' => Q .non H', rt := Q } [some (.ref a), some (.str z), some v] H := by
  refine ⟨_, pss_cons (ps_expr (pe_baseinit hB hm b (pa_cons (pe_var hs vs) (pa_cons (pe_joined (.cons (pe_fmt (pe_var hf vf df cf)) (.cons pe_str (.cons (pe_fmtA hg hu (pe_var hgg vg dg cg)) .nil)))) pa_nil h2) h1) dB hc h1 h3) s1) (pss_cons (ps_ost (pe_var hs vs) (pe_var hf vf df cf) s2) (pss_one (ps_ost (pe_var hs vs) (pe_var hgg vg dg cg) s3))), ?_⟩
  have big : 200 ≤ sizeLine := by rw [sizeLine_eq]; omega
  have lz1 : (Str.empty ++ z).length = z.length := by rw [strLen_append]; exact Nat.zero_add _
  have lz2 : (Str.empty ++ z ++ m0).length = z.length + m0.length := by rw [strLen_append, lz1]
  refine ⟨.ref a, rfl, .str z, rfl, .inl ⟨z, rfl, by omega, z, rfl, ?_, m0, rfl, ?_, ⟨v, rfl, d, dp, ok, fun y hy => ⟨y, rfl, ?_, ?_⟩⟩⟩⟩
  · omega
  · omega
  · have : (Str.empty ++ z ++ m0 ++ y).length = z.length + m0.length + y.length := by rw [strLen_append, lz2]
    omega
  · refine ⟨a, C, _, rfl, by show (1 : Nat) ≤ 1000; decide, T, e, ?_⟩
    refine ⟨.str z, rfl, .ref a, rfl, a, C, rfl, T, hno, .inl ⟨e, fun dx n ne => ?_⟩⟩
    refine ⟨v, rfl, .ref a, rfl, a, C, rfl, T, hno2, .inr ⟨dx, [(f, .str z)], upd_same, ?_, by show (1 : Nat) ≤ 900; decide, q dx n ne⟩⟩
    rw [upd_ne ne, upd_same]
end
/-- the exception class x at C, of two fields, the first one a text -/
structure Xc2 (P : Program) (w : World) (K : PySem.W.Frag) (mg : Str → Option Value) (base : Heap) (k : Nat) (x : Str) (C : Addr) (f g : Str) : Prop where
  ox : OexC K C
  at_ : mg x = some (.ref C)
  no : PySem.W.findIn K (.ref C) f = some none
  no2 : PySem.W.findIn K (.ref C) g = some none
  ini : ∃ fI fd, PySem.W.findIn K (.ref C) "__init__" = some (some (.ref fI)) ∧ PySem.W.typeIn K (.ref fI) = some (.type "function") ∧ Binds K fd [Str.ofString "self", f, g] [] ∧ Rg P w K mg base k fI fd [Str.ofString "self", f, g] (spI2 K f g)
theorem rg_init2 {P : Program} {w : World} {K : PySem.W.Frag} {mg : Str → Option Value} {base : Heap} {k : Nat} {x qual f g : Str} {st : Stmt} {fI : Addr} {fd : FuncData} {N : List Str} (F1 : Fun K x qual st fI fd) (S : FnScope N [Str.ofString "self", f, g] (defScope st)) (hN : N = [Str.ofString "self", f, g])
    (body : ∀ (cdv : Value) (A : Around) (outer : List PySem.Env) (s : Shared) (H : Hp) (E : XK), Room k (A.deeper (envOfC qual (defScope st) s.heap.objs.size fI cdv)) → A.guards = some [] → ∀ (a C : Addr) (z : Str) (v : V) (d : PyData) (Q : VK), OexC K C → PySem.W.findIn K (.ref C) f = some none → PySem.W.findIn K (.ref C) g = some none → H a = some (exo a C none) → z.length ≤ 50 → Dp K H v d → FmtOk d →
      (∀ dx, H dx = none → dx ≠ a → Q .non (upd (upd (upd H dx (exd dx [(f, .str z)])) a (exo a C (some dx))) dx (exd dx [(g, v), (f, .str z)]))) → ∃ t, PSs (cxOf (L2N.CX P w) P w K mg base N qual (defScope st) fI cdv A outer s H E) (defBody st) t ∧ t { nx := fun _ H' => Q .non H', rt := Q } [some (.ref a), some (.str z), some v] H) :
    Rg P w K mg base (k + 1) fI fd [Str.ofString "self", f, g] (spI2 K f g) := by
  refine ⟨fun vs H Q E h => ?_, fun A outer s H args us vs Q E hr hg en bd rel sp => ?_⟩
  · obtain ⟨a, C, z, v, d, e, _⟩ := h
    rw [e]
    rfl
  · obtain ⟨a, C, z, v, d, e, T, no, no2, ea, lz, dp, ok, q⟩ := sp
    subst e
    refine run_atX F1 S rfl hr en bd rel fun cdv => ?_
    obtain ⟨t, h1, h2⟩ := body cdv A outer s H E (hr.deeper _) hg a C z v d Q T no no2 ea lz dp ok q
    refine ⟨t, h1, ?_⟩
    have e2 : L2.start N [V.ref a, .str z, v] = [some (.ref a), some (.str z), some v] := by
      subst hN
      rfl
    rw [e2]
    exact h2
theorem raised_heap2 {H1 : Hp} {a C dx : Addr} {f g : Str} {u v : V} (ha : H1 a = none) (hd : dx ≠ a) : upd (L2.del (upd (upd (upd (upd H1 a (exo a C none)) dx (exd dx [(f, u)])) a (exo a C (some dx))) dx (exd dx [(g, v), (f, u)])) a) dx (.xd [(g, v), (f, u)]) = upd H1 dx (.xd [(g, v), (f, u)]) := by
  funext b
  by_cases e1 : b = dx
  · subst e1
    rw [upd_same, upd_same]
  · rw [upd_ne e1, upd_ne e1]
    by_cases e2 : b = a
    · subst e2
      rw [L2.del_same, ha]
    · rw [L2.del_ne e2, upd_ne e1, upd_ne e2, upd_ne e1, upd_ne e2]
section
variable {X : Cx} {W : WX} {e e2 : Expr} {ρ : Env} {G : Store} {Φ : Pst} {Ψ : XPst} {pos p p2 : Pos} {k : Nat} {x f g : Str} {C : Addr} {N : Env → Store → Prop} {z : Str} {y : PyData}
theorem ys_raise2 (c : Xc2 X.prog X.w X.K X.mg X.base k x C f g) (room : Room (k + 1) X.A) (hg0 : X.A.guards = some []) (tk : L2N.Takes X W) (hz : Xd X e ρ (.d (.str z))) (hx : Xd X e2 ρ (.d y)) (lz : z.length ≤ 50) (ok : FmtOk y) (q : Ψ (.ref C) [(g, .d y), (f, .d (.str z))] ρ G) (hc : X.calm = true := by rfl) (hg : Gl X x := by rfl) (hdb : (x == ("__debug__" : Str)) = false := by decide)
    (he : starEach [e, e2] X.env = (false, eval e X.env) :: starEach [e2] X.env := by rfl) (he2 : starEach [e2] X.env = (false, eval e2 X.env) :: starEach [] X.env := by rfl) (hpl : (backTo pos (starEach [e2] X.env)).any (·.1) = false := by rfl) : Ys X W (.Raise (some (.Call (.Name x p) [e, e2] [] pos)) none p2) ρ G N Φ Ψ := by
  obtain ⟨fI, fd, i1, i2, i3, i4⟩ := c.ini
  refine ys_of (L2N.ps_raise hc tk (pmk_own c.ox i1 i2 i4 hg0 room i3 hg c.at_ pa_tw hdb he hpl)) fun F σ B H D cf s n kk ky => ?_
  refine (xad_cons hz (xad_cons hx xa_nil he2) he) G F σ B H _ cf s fun vs xs G2 B2 H2 e2 c2 r2 q2 => ?_
  rw [q2.1] at r2
  rw [q2.2] at c2
  cases r2 with
  | cons rz r2 =>
    obtain ⟨v, ev, hv⟩ := r2.one
    subst ev
    cases rz
    refine ⟨by show (2 : Nat) ≤ 1000; decide, fun a na => ?_⟩
    have eA : Ex B2 (upd H2 a (exo a C none)) := Ex.out c2.ex (Ex.free c2.ex na) _
    refine ⟨a, C, z, v, y, rfl, c.ox, c.no, c.no2, upd_same, lz, (Rp.mono eA hv).dp, ok, fun dx nd ne => ⟨rfl, dx, [(g, v), (f, .str z)], ?_, upd_same, ?_, ?_⟩⟩
    · rw [upd_ne (fun z => ne z.symm), upd_same]
    · rw [upd_ne ne] at nd
      exact nd
    · rw [upd_ne ne] at nd
      rw [raised_heap2 na ne]
      exact ky (.ref C) dx [(g, .d y), (f, .d (.str z))] ρ σ G B2 _ e2 (c2.cell (x := .xd [(g, .d y), (f, .d (.str z))]) nd ⟨_, upd_same, .cons hv (.cons (.rstr z) .nil)⟩) (s.mono e2) q
end
/-! ### an own exception class of two fields, as the top leaves it -/
structure XcF2 (K : PySem.W.Frag) (mg : Str → Option Value) (x base f g qual : Str) (st : Stmt) (C : Addr) : Prop where
  at_ : mg x = some (.ref C)
  ox : OexC K C
  ek : ExcK K C
  no : PySem.W.findIn K (.ref C) f = some none
  no2 : PySem.W.findIn K (.ref C) g = some none
  ba : ∃ D, mg base = some (.ref D) ∧ BaseI K D
  ini : ∃ fI fd, PySem.W.findIn K (.ref C) "__init__" = some (some (.ref fI)) ∧ PySem.W.typeIn K (.ref fI) = some (.type "function") ∧ Fun K "__init__" qual st fI fd
end Fsh

set_option Elab.async false
set_option linter.all false
set_option maxRecDepth 100000
set_option maxHeartbeats 2000000
namespace Fsh
open PySem PySem.Spec PyProof.Rows L2
/-! ### for x in xs: .., a turn may raise -/
section
variable {K : PySem.W.Frag} {ρ : Env} {G : Store} {Φ : Pst} {Ψ : XPst} {W : WX} {N : Env → Store → Prop} {g : TG} {js : List Nat} {tb : TS}
theorem rxs_forG {wi : TI} {xs : List PyData} (hw : Wi K wi ρ xs) (I : Nat → Env → Store → Prop) (h0 : I 0 ρ G)
    (hs : ∀ i d ρ1 G1, xs[i]? = some d → I i ρ1 G1 → ∃ ρ2, RG K g js (.d d) ρ1 ρ2 ∧ RXS K W tb ρ2 G1 (I (i + 1)) Φ Ψ) (hd : ∀ ρ1 G1, I xs.length ρ1 G1 → N ρ1 G1) : RXS K W (tFor wi g tb) ρ G N Φ Ψ := fun F σ B H D c s n k kx => by
  refine hw F σ G B H _ c s fun J B2 H2 e c2 wd => ?_
  refine ⟨fun i m σ' H' => m = xs.length - i ∧ i ≤ xs.length ∧ ∃ ρ1 G1 B1, Ex B2 B1 ∧ Cfg K F G1 B1 H' ∧ Slots K B1 σ' ρ1 ∧ I i ρ1 G1, ⟨_, rfl, Nat.zero_le _, ρ, G, B2, Evl.Ex.refl _, c2, s.mono e, h0⟩, fun i m σ' H1 ⟨em, hi, ρ1, G1, B1, e1, c1, s1, p1⟩ => ?_⟩
  by_cases lt : i < xs.length
  · refine .inr ⟨wd.goes e1 c1 i lt, fun σ' H' => ∃ ρ1 G1 B1, Ex B2 B1 ∧ Cfg K F G1 B1 H' ∧ Slots K B1 σ' ρ1 ∧ I (i + 1) ρ1 G1, fun σ' H' md' => ⟨_, by omega, rfl, lt, md'⟩, fun v H' y => ?_⟩
    obtain ⟨d, B', hd, eB, cB, rv⟩ := wd.yields e1 c1 i v H' lt y
    obtain ⟨ρ2, g1, b1⟩ := hs i d ρ1 G1 hd p1
    refine g1 σ' B' H' v _ cB.ex (s1.mono eB) rv fun σ2 s2 _ => ?_
    exact b1 F σ2 B' H' _ cB s2 (fun ρ3 σ3 G3 B3 H3 e3 c3 s3 p3 => ⟨ρ3, G3, B3, (e1.trans eB).trans e3, c3, s3, p3⟩) (k.mono ((e.trans e1).trans eB)) (kx.mono ((e.trans e1).trans eB))
  · have ei : i = xs.length := by omega
    subst ei
    exact .inl ⟨wd.stops e1 c1, n ρ1 σ' G1 B1 H1 (e.trans e1) c1 s1 (hd ρ1 G1 p1)⟩
end
section
variable {X : Cx} {W : WX} {e tg : Expr} {ρ : Env} {G : Store} {Φ : Pst} {Ψ : XPst} {pos p : Pos} {body : List Stmt} {N : Env → Store → Prop}
theorem ys_forG {wi : TI} {g : TG} {js : List Nat} {xs : List PyData} (hp : PassesOwn (model X.prog X.w) X.A X.env X.xe) (hi : PI X tg e wi) (hw : Wi X.K wi ρ xs) (I : Nat → Env → Store → Prop) (hg : PG X tg g) (h0 : I 0 ρ G)
    (hs : ∀ i d ρ1 G1, xs[i]? = some d → I i ρ1 G1 → ∃ ρ2, RG X.K g js (.d d) ρ1 ρ2 ∧ Yss X W body ρ2 G1 (I (i + 1)) Φ Ψ) (hd : ∀ ρ1 G1, I xs.length ρ1 G1 → N ρ1 G1) (hc : X.calm = true := by rfl) (hf : ∀ x, foldedSetIterable e X.env x = pure x := by intro _; rfl) : Ys X W (.For tg e body [] pos) ρ G N Φ Ψ :=
  ys_of (ps_for hp hc hi hg pss_tw hf) (rxs_forG hw I h0 hs hd)
/-- for x in data: .. -/
theorem ys_forE {g : TG} {js : List Nat} {ox : Option (List PyData)} {xs : List PyData} (hp : PassesOwn (model X.prog X.w) X.A X.env X.xe) (hi : EIt X tg e ρ ox) (hx : ox = some xs) (hz : xs.length ≤ 100000) (I : Nat → Env → Store → Prop) (hg : PG X tg g) (h0 : I 0 ρ G)
    (hs : ∀ i d ρ1 G1, xs[i]? = some d → I i ρ1 G1 → ∃ ρ2, RG X.K g js (.d d) ρ1 ρ2 ∧ Yss X W body ρ2 G1 (I (i + 1)) Φ Ψ) (hd : ∀ ρ1 G1, I xs.length ρ1 G1 → N ρ1 G1) (hc : X.calm = true := by rfl) (hf : ∀ x, foldedSetIterable e X.env x = pure x := by intro _; rfl) : Ys X W (.For tg e body [] pos) ρ G N Φ Ψ := by
  obtain ⟨wi, p1, w1⟩ := hi.run xs hx hz
  exact ys_forG (js := js) hp p1 w1 I hg h0 hs hd hc hf
end
end Fsh

set_option Elab.async false
set_option linter.all false
set_option maxRecDepth 100000
set_option maxHeartbeats 8000000
namespace Fsh
open PySem PySem.Spec PyProof.Rows L2
section
variable {X : Cx} {e : Expr} {ρ : Env} {G : Store} {pos p p2 : Pos} {a D dd : Addr} {oe : Obj} {x : Str} {b : Bool} {fs : List (Str × DV)}
theorem xi_isx (h : Held X a D dd oe) (ek : ExcK X.K D) (hi : X.mg "isinstance" = none) (c : ClsAt X.K X.mg x D b) (he : Xi X e ρ G (.a a)) (hm : (dd, Cell.xd fs) ∈ G) (hg : Gl X "isinstance" := by rfl) (hgx : Gl X x := by rfl) (hdb : (x == ("__debug__" : Str)) = false := by decide)
    (he1 : starEach [e, .Name x p2] X.env = (false, eval e X.env) :: starEach [.Name x p2] X.env := by rfl) (he2 : starEach [.Name x p2] X.env = (false, eval (.Name x p2) X.env) :: starEach [] X.env := by rfl) (hpl : (backTo pos (starEach [.Name x p2] X.env)).any (·.1) = false := by rfl) :
    Xi X (.Call (.Name "isinstance" p) [e, .Name x p2] [] pos) ρ G (.d (.bool b)) := by
  obtain ⟨T, atT, kit⟩ := c.ex
  refine xp_of (pe_callB (cr_isx h ek) hg hi (by decide +kernel) (pa_cons pe_tw (pa_cons (pe_glob (v := .ref T) hgx atT rfl hdb) pa_nil he2) he1) (by decide) (by decide) he1 hpl) fun F σ B H Q c sl kk => ?_
  refine he F σ B H _ c sl fun v y G2 B2 H2 e2 c2 r2 q2 => ?_
  rw [q2.1] at r2
  rw [q2.2] at c2
  obtain rfl : v = V.ref a := r2
  obtain ⟨ws, w1, w2⟩ := c2.ce (dd, Cell.xd fs) hm
  exact ⟨.ref T, .ref T, b, ws, rfl, fun u r => r, kit, w1, (kk.mono e2).ret (x := .d (.bool b)) c2 (.rbl b) ⟨rfl, rfl⟩⟩
theorem xi_isxT {T : String} (h : Held X a D dd oe) (ek : ExcK X.K D) (hi : X.mg "isinstance" = none) (hT : X.mg x = none) (hv : bootBuiltins x = some (.type T)) (kit : PySem.W.kitOne X.K (.ref D) (.type T) = some b) (he : Xi X e ρ G (.a a)) (hm : (dd, Cell.xd fs) ∈ G) (hg : Gl X "isinstance" := by rfl) (hgx : Gl X x := by rfl) (hn : x ≠ "__name__" := by decide) (hdb : (x == ("__debug__" : Str)) = false := by decide)
    (he1 : starEach [e, .Name x p2] X.env = (false, eval e X.env) :: starEach [.Name x p2] X.env := by rfl) (he2 : starEach [.Name x p2] X.env = (false, eval (.Name x p2) X.env) :: starEach [] X.env := by rfl) (hpl : (backTo pos (starEach [.Name x p2] X.env)).any (·.1) = false := by rfl) :
    Xi X (.Call (.Name "isinstance" p) [e, .Name x p2] [] pos) ρ G (.d (.bool b)) := by
  refine xp_of (pe_callB (cr_isx h ek) hg hi (by decide +kernel) (pa_cons pe_tw (pa_cons (pe_bltn hgx hT hv (v := .ty T) rfl hn hdb) pa_nil he2) he1) (by decide) (by decide) he1 hpl) fun F σ B H Q c sl kk => ?_
  refine he F σ B H _ c sl fun v y G2 B2 H2 e2 c2 r2 q2 => ?_
  rw [q2.1] at r2
  rw [q2.2] at c2
  obtain rfl : v = V.ref a := r2
  obtain ⟨ws, w1, w2⟩ := c2.ce (dd, Cell.xd fs) hm
  exact ⟨.ty T, .type T, b, ws, rfl, fun u r => r, kit, w1, (kk.mono e2).ret (x := .d (.bool b)) c2 (.rbl b) ⟨rfl, rfl⟩⟩
theorem xi_fld {f : Str} {y : PyData} (h : Held X a D dd oe) (ek : ExcK X.K D) (no : PySem.W.findIn X.K (.ref D) f = some none) (he : Xi X e ρ G (.a a)) (hm : (dd, Cell.xd [(f, .d y)]) ∈ G) (hb : attributeBase e f X.env (eval e X.env) = eval e X.env := by rfl) : Xi X (.Attribute e f pos) ρ G (.d y) := by
  refine xp_of (pe_fld h ek no pe_tw hb) fun F σ B H Q c sl kk => he F σ B H _ c sl fun v z G2 B2 H2 e2 c2 r2 q2 => ?_
  rw [q2.1] at r2
  rw [q2.2] at c2
  obtain ⟨ws, w1, w2⟩ := c2.ce (dd, Cell.xd [(f, .d y)]) hm
  cases w2 with
  | cons hv w2 =>
    cases w2
    rename_i v0
    exact ⟨r2, _, v0, w1, by simp [List.lookup], (kk.mono e2).ret (x := .d y) c2 hv ⟨rfl, rfl⟩⟩
/-- a field of an exception of two fields -/
theorem xi_fld21 {f g : Str} {y z : PyData} (h : Held X a D dd oe) (ek : ExcK X.K D) (no : PySem.W.findIn X.K (.ref D) f = some none) (he : Xi X e ρ G (.a a)) (hm : (dd, Cell.xd [(f, .d y), (g, .d z)]) ∈ G) (hb : attributeBase e f X.env (eval e X.env) = eval e X.env := by rfl) : Xi X (.Attribute e f pos) ρ G (.d y) := by
  refine xp_of (pe_fld h ek no pe_tw hb) fun F σ B H Q c sl kk => he F σ B H _ c sl fun v u G2 B2 H2 e2 c2 r2 q2 => ?_
  rw [q2.1] at r2
  rw [q2.2] at c2
  obtain ⟨ws, w1, w2⟩ := c2.ce (dd, Cell.xd [(f, .d y), (g, .d z)]) hm
  cases w2 with
  | cons hv w2 =>
    exact ⟨r2, _, _, w1, by simp [List.lookup], (kk.mono e2).ret (x := .d y) c2 hv ⟨rfl, rfl⟩⟩
theorem xi_fld22 {f g : Str} {y z : PyData} (h : Held X a D dd oe) (ek : ExcK X.K D) (no : PySem.W.findIn X.K (.ref D) g = some none) (hne : (g == f) = false) (he : Xi X e ρ G (.a a)) (hm : (dd, Cell.xd [(f, .d y), (g, .d z)]) ∈ G) (hb : attributeBase e g X.env (eval e X.env) = eval e X.env := by rfl) : Xi X (.Attribute e g pos) ρ G (.d z) := by
  refine xp_of (pe_fld h ek no pe_tw hb) fun F σ B H Q c sl kk => he F σ B H _ c sl fun v u G2 B2 H2 e2 c2 r2 q2 => ?_
  rw [q2.1] at r2
  rw [q2.2] at c2
  obtain ⟨ws, w1, w2⟩ := c2.ce (dd, Cell.xd [(f, .d y), (g, .d z)]) hm
  cases w2 with
  | cons hv w2 =>
    cases w2 with
    | cons hv2 w2 =>
      exact ⟨r2, _, _, w1, by simp [List.lookup, hne], (kk.mono e2).ret (x := .d z) c2 hv2 ⟨rfl, rfl⟩⟩
end
end Fsh

set_option Elab.async false
set_option linter.all false
set_option maxRecDepth 100000
set_option maxHeartbeats 2000000
namespace Fsh
open PySem PySem.Spec PyProof.Rows L2
/-! ### xs * k, whoever owns the list; xs.reverse() -/
def rRepS (K : PySem.W.Frag) : R2 := fun v1 v2 H Q => ∃ (a : Addr) (k : Int) (us : List V), v1 = .ref a ∧ v2 = .int k ∧ SqL K H a us ∧ 0 ≤ k ∧ k ≤ 1000 ∧ us.length ≤ 1000 ∧ ∀ a3, H a3 = none → Q (.ref a3) (upd H a3 (.lst (List.replicate k.toNat us).flatten))
theorem rep_vals {us : List V} {its : List Value} (r : Vals us its) : ∀ n : Nat, Vals (List.replicate n us).flatten (List.replicate n its).flatten
  | 0 => .nil
  | n + 1 => by
    rw [List.replicate_succ, List.replicate_succ, List.flatten_cons, List.flatten_cons]
    exact r.append (rep_vals r n)
theorem op_repS {X : Cx} : OpR X (binaryOp .Mult) (rRepS X.K) := by
  intro pins s σ H v1 v2 u1 u2 Q I r1 r2 ⟨a, k, us, e1, e2, h1, h0, hk, hz, q⟩
  subst e1 e2
  cases r1
  obtain ⟨t, e3⟩ := r2
  subst e3
  obtain ⟨its, t1, ⟨⟨c, d, dt, sl⟩, n, g1, x1, y1, z1⟩, hz1⟩ := I.list h1
  simp only at x1 y1 z1
  subst x1 y1 z1
  have hl := Paired.length t1
  have hprod : its.toArray.size * k.toNat ≤ sizeLine := by
    rw [List.size_toArray, ← hl, sizeLine_eq]
    have : us.length * k.toNat ≤ 1000 * 1000 := Nat.mul_le_mul hz (by omega)
    omega
  have hfit : ¬(!Builtin.List.listFitsIndex k) = true := by rw [fitsIndex_both (by omega) (by omega)]; decide
  have hcap : ¬its.toArray.size * k.toNat > (2 ^ 63 - 1) / 8 := by
    rw [sizeLine_eq] at hprod
    omega
  have hlong : ¬Builtin.List.listTooLong (its.toArray.size * k.toNat) = true := by rw [notLongL hprod]; decide
  have hnew : List.foldl (fun x1 x2 => x1 ++ x2) #[] (List.replicate (if its.toArray.isEmpty = true then 0 else k.toNat) its.toArray) = (List.replicate k.toNat its).flatten.toArray := by
    have f0 := fun m => foldl_rep its m []
    rw [f0]
    cases its with
    | nil =>
      have : ∀ m : Nat, (List.replicate m ([] : List Value)).flatten = [] := fun m => by
        induction m with
        | zero => rfl
        | succ m ih => rw [List.replicate_succ, List.flatten_cons, ih]; rfl
      rw [this, this]
      rfl
    | cons x r =>
      rw [if_neg (by simp)]
      rfl
  refine wpAny_binaryOp_repeat_ref (T := "list") (U := "int") (id := "list.__mul__") (idr := "int.__rmul__") (by decide) ⟨_, g1, rfl⟩ (fun s' => typeIs_int s' k t) noFill_list_mul PySem.F.fills_int_mul PySem.F.slot_int_rmul repeat_list PySem.F.slot_int_index.lookup
    (call_meets PySem.F.slot_int_rmul (typeIs_int s k t) PySem.F.entry_int_rmul (PySem.F.args_int_rmul_2 (.int k t) (.ref a)) (lm_int_rmul_list_any k t a its.toArray n _ sl) ⟨g1, rfl, ⟨_, g1, rfl⟩, ?_⟩)
  refine call_meets PySem.F.slot_list_mul ⟨_, g1, rfl⟩ PySem.F.entry_list_mul (PySem.F.args_list_mul_2 (.ref a) (.int k t)) (lm_list_mul_any a its.toArray n _ sl k t hfit hcap hlong) ⟨g1, ?_⟩
  rw [hnew]
  exact ⟨.ref _, _, I.lnew (t' := s.toks) (rep_vals t1 k.toNat) (by
    rw [List.length_flatten, List.map_replicate, List.sum_replicate_nat, sizeLine_eq]
    have : k.toNat * us.length ≤ 1000 * 1000 := Nat.mul_le_mul (by omega) hz
    omega), rfl, q _ I.fresh⟩
section
variable {X : Cx} {e a b o : Expr} {ρ : Env} {G : Store} {Φ : Pst} {pos p apos cpos : Pos}
theorem op_ln {K : PySem.W.Frag} {xs : List PyData} {k : Int} (h0 : 0 ≤ k) (hk : k ≤ 1000) (hz : xs.length ≤ 1000) : Op K (rRepS K) (.d (.list xs)) (.d (.int k)) G (New (List.replicate k.toNat xs).flatten G) := fun F B H v u Q c r1 r2 kk => by
  cases r2
  cases r1 with
  | rlst h1 q1 =>
    rename_i v1
    refine ⟨_, k, _, rfl, rfl, Evl.ex_l c.ex h1, h0, hk, by rw [q1.len]; exact hz, fun p hp => ?_⟩
    exact kk _ (.a p) _ B _ (Evl.Ex.refl B) (c.cell (x := .lst (List.replicate k.toNat xs).flatten) hp ⟨_, upd_same, rep_rps q1 _⟩) rfl ⟨p, rfl, rfl⟩
theorem xl_rep {xs : List PyData} {k : Int} (ha : Xd X a ρ (.d (.list xs))) (hb : Xd X b ρ (.d (.int k))) (h0 : 0 ≤ k) (hk : k ≤ 1000) (hz : xs.length ≤ 1000) : Xl X (.BinOp a .Mult b pos) ρ (List.replicate k.toNat xs).flatten := fun G => x_binD op_repS ha hb (op_ln h0 hk hz)
theorem Rps.rev {K : PySem.W.Frag} {B : Hp} : ∀ {vs : List V} {ds : List PyData}, Rps K B vs ds → Rps K B vs.reverse ds.reverse
  | _, _, .nil => .nil
  | _, _, .cons h r => by
    rw [List.reverse_cons, List.reverse_cons]
    exact (Rps.rev r).app (.cons h .nil)
theorem r_reverse {K : PySem.W.Frag} {to : TE} {l : Addr} {xs : List PyData} {G1 G2 : Store} (ho : R K to ρ G (Is (.a l) G)) (hG : G = G1 ++ (l, .lst xs) :: G2) (q : Φ (.d .none) (G1 ++ (l, .lst xs.reverse) :: G2)) : R K (tBM0 K "list" rReverse to) ρ G Φ := fun F σ B H Q c s k => ho F σ B H _ c s fun v x G3 B2 H2 e2 c2 r2 q2 => by
  rw [q2.1] at r2
  rw [q2.2, hG] at c2
  have r2 : v = .ref l := r2
  subst r2
  obtain ⟨ws, h1, h2⟩ := c2.ce (l, .lst xs) (List.mem_append_right _ List.mem_cons_self)
  refine ⟨.inl ⟨rfl, ws, .inl (.inl h1)⟩, l, ws, rfl, rfl, h1, ?_⟩
  exact k .non (.d .none) _ B2 _ e2 (c2.set (x' := .lst xs.reverse) ⟨_, upd_same, Rps.rev h2⟩) .rnon q
/-- xs.reverse() -/
theorem xp_reverse {l : Addr} {xs : List PyData} {G1 G2 : Store} (ho : Xd X o ρ (.a l)) (hG : G = G1 ++ (l, .lst xs) :: G2) (q : Φ (.d .none) (G1 ++ (l, .lst xs.reverse) :: G2))
    (hb : attributeBase o "reverse" X.env (eval o X.env) = eval o X.env := by rfl) (hl : (apos.endLine == cpos.line) = true := by rfl) : Xp X (.Call (.Attribute o "reverse" apos) [] [] cpos) ρ G Φ :=
  xp_of (pe_bm0 PySem.F.plainAttrs_list PySem.F.slot_list_reverse PySem.F.type_list_reverse mt_reverse pe_tw hb hl) (r_reverse (ho G) hG q)
end
end Fsh

set_option Elab.async false
set_option linter.all false
set_option maxRecDepth 100000
set_option maxHeartbeats 8000000
namespace Fsh
open PySem PySem.Spec PyProof.Rows L2
section
variable {X : Cx} {e : Expr} {es : List Expr} {ρ : Env} {G : Store} {Φ : Pst} {pos p : Pos}
theorem ev_xd {d : PyData} (h : Xd X e ρ (.d d)) : EV X e ρ (some d) := ⟨fun y hy => by cases hy; exact h⟩
def neSO : PyData → PyData → Option Bool
  | .str s, .str t => some (!decide (s = t))
  | _, _ => none
theorem cs_nes : CmpS X .NotEq neSO := ⟨fun {x y t a b pos ρ} h hm ha hb => by
  cases x <;> first | cases h | skip
  cases y <;> first | cases h | skip
  exact ⟨fun G => x_cmpD op_ne ha hb op_nes hm, xt_cmpD op_ne ha hb (fun _ => op_nes) hm⟩⟩
/-- repr(data), told at this store -/
theorem xi_repr {d : PyData} (k : Kx X) (ha : Xi X e ρ G (.d d)) (h : shownO d = some (.str d.shown)) (hg : Gl X "repr" := by rfl) (he : starEach [e] X.env = (false, eval e X.env) :: starEach [] X.env := by rfl) (hpl : (backTo pos (starEach [] X.env)).any (·.1) = false := by rfl) : Xi X (.Call (.Name "repr" p) [e] [] pos) ρ G (.d (.str d.shown)) := by
  obtain ⟨⟨z1, z2, z3, z4⟩, _⟩ := ite_some h
  refine x_callB (cr_reprA k.gd (by have := k.un; omega)) k.bn.repr (by decide +kernel) (xi_cons ha (Xad.i xa_nil) he) (fun xs G1 q => ?_) hg (by decide) (by decide) he hpl
  rw [q.1, q.2]
  intro F B H vs Q c r kk
  obtain ⟨v, ev, hv⟩ := r.one
  subst ev
  exact ⟨v, d, rfl, (Rp.mono c.ex hv).dp, z1, z2, z3, z4, kk.ret (x := .d (.str _)) c (.rstr _) ⟨rfl, rfl⟩⟩
theorem xti_nes {a b : Expr} {s : Str} (ha : Xi X a ρ G (.d (.str s))) (hb : Xi X b ρ G (.d (.str s))) : Xti X (.Compare a [.NotEq] [b] pos) ρ G false := by
  have z := xti_cmp op_ne ha hb (op_nes (s := s) (t := s)) (nomark _) (pos := pos)
  rw [decide_eq_true rfl] at z
  exact z
/-- for x in data -/
theorem xs_forE {tg : Expr} {body : List Stmt} {g : TG} {js : List Nat} {ox : Option (List PyData)} {xs : List PyData} {N : Env → Store → Prop} (hp : PassesOwn (model X.prog X.w) X.A X.env X.xe) (hi : EIt X tg e ρ ox) (hx : ox = some xs) (hz : xs.length ≤ 100000) (I : Nat → Env → Store → Prop) (hg : PG X tg g) (h0 : I 0 ρ G)
    (hs : ∀ i d ρ1 G1, xs[i]? = some d → I i ρ1 G1 → ∃ ρ2, RG X.K g js (.d d) ρ1 ρ2 ∧ Xss X body ρ2 G1 (I (i + 1)) Φ) (hd : ∀ ρ1 G1, I xs.length ρ1 G1 → N ρ1 G1) (hc : X.calm = true := by rfl) (hf : ∀ x, foldedSetIterable e X.env x = pure x := by intro _; rfl) : Xs X (.For tg e body [] pos) ρ G N Φ := by
  obtain ⟨wi, p1, w1⟩ := hi.run xs hx hz
  exact xs_forG (js := js) hp p1 w1 I hg h0 hs hd hc hf
end
theorem et_xb {X : Cx} {e : Expr} {ρ : Env} {t : Bool} (h : Xb X e ρ t) : ET X e ρ (some t) := ⟨fun y hy => by cases hy; exact h⟩
section
variable {X : Cx} {e : Expr} {es : List Expr} {ρ : Env} {G : Store} {Φ : Pst} {pos p : Pos} {k : Nat} {x : Str} {ps : List Str} {Z : SpecX}
/-- a def that might raise and does not, here -/
theorem xp_callX {Φl : List DV → Store → Prop} (Fx : Fx X.prog X.w X.K X.mg X.base k x ps Z) (hr : Room k X.A) (hg0 : X.A.guards = some []) (ha : Xa X (e :: es) ρ G Φl) (h : ∀ xs G', Φl xs G' → ∃ G1 G2, G' = G1 ++ G2 ∧ Z xs G2 (fun y G3 => Φ y (G1 ++ G3)) fun _ _ _ => False) (hg : Gl X x := by rfl) (hdb : (x == ("__debug__" : Str)) = false := by decide)
    (hst : starEach (e :: es) X.env = (false, eval e X.env) :: starEach es X.env := by rfl) (hpl : (backTo pos (starEach es X.env)).any (·.1) = false := by rfl) : Xp X (.Call (.Name x p) (e :: es) [] pos) ρ G Φ := by
  have no : L2N.Takes X (fun _ _ _ _ => False) := fun u s' z => by
    obtain ⟨_, _, _, _, _, _, _, _, _, _, _, _, _, _, _, _, w⟩ := z
    exact w.elim
  exact fun F σ B H Q c s kk => yp_call (Ψ := fun _ _ _ _ => False) Fx hr hg0 no ha h hg hdb hst hpl F σ B H Q c s kk fun _ _ _ _ _ _ _ _ _ _ _ q => q.elim
end
end Fsh

set_option Elab.async false
set_option linter.all false
set_option maxRecDepth 100000
set_option maxHeartbeats 2000000
namespace Fsh
open PySem PySem.Spec PyProof.Rows L2
/-! ### the law's own call, with two tables of code objects -/
theorem law_endT2 {l : PySem.W.OpenLaw} {n k : Nat} {q : Program} {loose : List Str} {XP : (Str → Option Value) → Heap → Prop} {YP : World → Heap → Prop} {d : DefRec} {Kf : Params → PySem.W.Frag} {st : Stmt} {N : List Str} {x lq1 lq2 : Str} {c1 c2 P1 P2 : Addr}
    (hne : P1 ≠ P2) (most : l.most = some n) (most2 : n ≤ 1000) (nodef : d.params.defaults = []) (S : FnScope N [x] (defScope st)) (room : Room (k + 1) callerA) (inY : ∀ (w : World) (h : Heap), YP w h → (Kf w.params).In h)
    (tabY1 : ∀ (w : World) (h : Heap), YP w h → h.get? P1 = some { cls := .none, data := .fields #[] }) (tabY2 : ∀ (w : World) (h : Heap), YP w h → h.get? P2 = some { cls := .none, data := .fields #[] }) (noT1 : ∀ w : World, (Kf w.params).lookup P1 = none) (noT2 : ∀ w : World, (Kf w.params).lookup P2 = none)
    (codeT1 : ∀ (w : World) (h : Heap), (Kf w.params).In h → PySem.W.CodeHd h c1 P1) (codeT2 : ∀ (w : World) (h : Heap), (Kf w.params).In h → PySem.W.CodeHd h c2 P2)
    (bnd : ∀ (K : PySem.W.Frag) (f : Addr) (fd : FuncData), Fun K d.name d.name st f fd → Binds K fd [x] [])
    (D : PySem.W.Frag → (Str → Option Value) → Prop) (defs : ∀ (w : World) (mg : Str → Option Value) (h : Heap), (Kf w.params).In h → h.Ns mainGlobals mg → D (Kf w.params) mg) (lawD : ∀ (K : PySem.W.Frag) (mg : Str → Option Value), D K mg → DefIn K mg d.name st)
    (body : ∀ (w : World) (K : PySem.W.Frag) (mg : Str → Option Value) (base : Heap) (f : Addr) (cdv : Value) (s : Shared) (H : Hp) (cs : List Int), D K mg → LamX.TabB base mg c1 P1 → LamX.TabB base mg c2 P2 → cs.length ≤ n →
      Xss (cxOf CX0 l.prog w K mg base N d.name (defScope st) f cdv callerA [] s H E0).nox (defBody st) (start0 N [.d (.list (cs.map PyData.int))]) [(P1, .tab lq1), (P2, .tab lq2)] (fun _ _ => False) (fun y _ => y = .d (.bool true))) :
    PySem.W.WalkO q loose XP YP l.row.toRowW d [] (fun f vs => PySem.call f vs) := by
  refine Att.attach_call most nodef fun w s₀ s₁ mg mb fa o pm cd doc a vs ns Gr Y _ _ _ hmg hobj hints hlen hgen => ?_
  have inH := inY w _ Y
  have atT : ∀ b, (b = P1 ∨ b = P2) → s₁.heap.get? b = some { cls := .none, data := .fields #[] } := fun b h => h.elim (fun e => e ▸ tabY1 w _ Y) fun e => e ▸ tabY2 w _ Y
  have noT : ∀ b, (b = P1 ∨ b = P2) → (Kf w.params).lookup b = none := fun b h => h.elim (fun e => e ▸ noT1 w) fun e => e ▸ noT2 w
  have dd := defs w mg _ inH Gr.T.g
  obtain ⟨f, fd, F1, hm⟩ := lawD _ _ dd
  have ef : fa = f := by
    have := hmg.symm.trans hm
    cases this
    rfl
  subst ef
  have rel := vals_ints hints
  have hz : ns.length ≤ sizeLine := Nat.le_trans hlen (Nat.le_trans most2 (by decide))
  have aP : ¬(a = P1 ∨ a = P2) := fun z => by
    rw [atT a z] at hobj
    have w2 : Data.fields #[] = Data.seq vs.toArray _ := congrArg Obj.data (Option.some.inj hobj)
    cases w2
  have key : ∀ H : Hp, (∀ b, (b = P1 ∨ b = P2) → H b = some (.tbl #[])) → (∀ b, H b = none ∨ (b = P1 ∨ b = P2) ∨ ∃ o xs, H b = some (.frz o (.lst xs))) → SqL (Kf w.params) (fun b => if b = P1 ∨ b = P2 then none else H b) a (ns.map V.int) → HOk l.prog w H s₁.heap → (∀ b, H b ≠ none → (b = a ∧ (Kf w.params).lookup a = none) ∨ (b = P1 ∨ b = P2)) →
      codeAny (model l.prog w) callerA (.call (.ref fa) ⟨[.ref a], []⟩) (fun r s' => r = .ok (.ret (.bool true)) ∧ OldK s₁.heap s'.heap ∧ s'.os = s₁.os ∧ AllBare s'.gens) s₁ := by
    intro H hP only seq hok here
    have notA : ∀ {b : Addr} {ob : Obj}, s₁.heap.get? b = some ob → (∀ vs n, ob.data ≠ .seq vs n) → ob.data ≠ .fields #[] → H b = none := fun {b ob} e d1 d2 => by
      rcases Classical.em (H b = none) with z | z
      · exact z
      · rcases here b z with ⟨eb, _⟩ | eb
        · subst eb
          have e2 := hobj.symm.trans e
          cases e2
          exact (d1 _ _ rfl).elim
        · have e2 := (atT b eb).symm.trans e
          cases e2
          exact (d2 rfl).elim
    have dictA : ∀ {b : Addr} {ob : Obj} {es : Array DictEntry} {ep : Nat}, s₁.heap.get? b = some ob → ob.data = .dict es ep → H b = none := fun {b ob es ep} e dd => notA e (fun vs n z => by rw [dd] at z; cases z) fun z => by rw [dd] at z; cases z
    have nsB : ∀ {b : Addr} {m : Str → Option Value}, s₁.heap.Ns b m → (hidT s₁.heap H).Ns b m := fun {b m} z => by
      obtain ⟨ob, es, ep, e, dd, r⟩ := z
      exact ⟨ob, es, ep, hidT_get e (dictA e dd), dd, r⟩
    have inB : (Kf w.params).In (hidT s₁.heap H) := fun b ob e => hidT_get (inH b ob e) (by
      rcases Classical.em (H b = none) with z | z
      · exact z
      · rcases here b z with ⟨eb, no⟩ | eb
        · subst eb
          rw [no] at e
          cases e
        · rw [noT b eb] at e
          cases e)
    have md : Mod (Kf w.params) mg (hidT s₁.heap H) := ⟨inB, nsB Gr.T.g, ⟨mb, nsB Gr.T.b, Gr.T.builtins⟩, by
      obtain ⟨mc, z1, z2⟩ := Gr.T.nolimit
      exact ⟨mc, nsB z1, z2⟩⟩
    have tb : ∀ P c : Addr, (P = P1 ∨ P = P2) → PySem.W.CodeHd (hidT s₁.heap H) c P → LamX.TabB (hidT s₁.heap H) mg c P := fun P c hPP ch => by
      refine ⟨ch, ?_, fun z => ?_⟩
      · obtain ⟨bm, ob, b1, b2, b3, b4, b5, b6⟩ := Gr.T.bmain
        have nG : bm ≠ mainGlobals := fun z => by
          obtain ⟨o2, es, ep, e, hd, _⟩ := Gr.T.g
          rw [z, e] at b3
          cases b3
          rw [hd] at b6
          cases b6
        have nP : bm ≠ P := fun z => by
          rw [z, atT P hPP] at b3
          cases b3
          cases b6
        exact ⟨bm, ob, b1, b2, nG, nP, hidT_get b3 (notA b3 (fun vs n z => by rw [b6] at z; cases z) fun z => by rw [b6] at z; cases z), b4, b5, b6⟩
      · obtain ⟨o2, es, ep, e, hd, _⟩ := Gr.T.g
        rw [z, atT P hPP] at e
        cases e
        cases hd
    have en : Env0 l.prog w (Kf w.params) mg (hidT s₁.heap H) callerA [] s₁ H := ⟨rfl, md, fun b ob e => of_hidT e, Nat.le_of_eq (hidT_size _ _), trivial, fun b hb => absurd (show b ∈ ([] : List Addr) from hb) (by simp), hok, .of_eq hgen⟩
    have cf : Cfg (Kf w.params) (fun _ => none) [(P1, .tab lq1), (P2, .tab lq2)] (fun b => if b = P1 ∨ b = P2 then none else H b) H := by
      refine ⟨fun b ob e => ?_, (fun b ob e => nomatch e), fun p hp => ?_, (fun q hq => absurd rfl hq), fun p hp => ?_, fun p hp => rfl, by simp [hne]⟩
      · have e : (if b = P1 ∨ b = P2 then none else H b) = some ob := e
        by_cases z : b = P1 ∨ b = P2
        · rw [if_pos z] at e
          cases e
        · rw [if_neg z] at e
          exact e
      · simp only [List.mem_cons, List.not_mem_nil, or_false] at hp
        rcases hp with e | e <;> subst e
        · exact ⟨#[], hP _ (.inl rfl), True.intro, fun pos cv hc => by
            have z : codeAmong pos [] = some cv := hc
            simp [codeAmong] at z⟩
        · exact ⟨#[], hP _ (.inr rfl), True.intro, fun pos cv hc => by
            have z : codeAmong pos [] = some cv := hc
            simp [codeAmong] at z⟩
      · simp only [List.mem_cons, List.not_mem_nil, or_false] at hp
        rcases hp with e | e <;> subst e
        · exact if_pos (.inl rfl)
        · exact if_pos (.inr rfl)
    have rsc : Rp (Kf w.params) (fun b => if b = P1 ∨ b = P2 then none else H b) (.ref a) (.list (ns.map PyData.int)) := .rlst seq (Rps.of_ints ns)
    refine codeAny_mono (run_at (Q := fun v _ => v = .bl true) F1 S rfl room en (bnd _ _ _ F1 s₁ [.ref a] inH rfl) (show Vals [V.ref a] [Value.ref a] from .cons rfl .nil) fun cdv => ⟨_, pss_tw, body w _ mg (hidT s₁.heap H) fa cdv s₁ H ns dd (tb P1 c1 (.inl rfl) (codeT1 w _ inB)) (tb P2 c2 (.inr rfl) (codeT2 w _ inB)) hlen (fun _ => none) (L2.start N [.ref a]) _ H _ cf (slots_start (.cons rsc .nil)) (fun _ _ _ _ _ _ _ _ z => z.elim) (fun v y G2 B2 H2 _ _ r e => ?_)⟩) fun r s' h => ?_
    · subst e
      cases (show Rp _ _ v (.bool true) from r)
      rfl
    · match r, h with
      | .error e, h => exact h.elim
      | .ok .next, h => exact h.elim
      | .ok .brk, h => exact h.elim
      | .ok .cont, h => exact h.elim
      | .ok (.ret u), h =>
        obtain ⟨v, H', os, bare, un, hok', rl, ev⟩ := h
        have ev : v = .bl true := ev
        subst ev
        obtain rfl : u = Value.bool true := rl
        have old : ∀ b o, ¬(b = P1 ∨ b = P2) → s₁.heap.get? b = some o → s'.heap.get? b = some o := fun b o nb e => by
          rcases only b with z | z | ⟨ob2, xs, z⟩
          · exact un.keep b o e z (by intro y; exact absurd (show b ∈ ([] : List Addr) from y) (by simp)) (by simp)
          · exact absurd z nb
          · obtain ⟨g1, _⟩ := hok b _ z
            obtain ⟨g2, _⟩ := hok' b _ (un.frzs b ob2 _ z)
            rw [e] at g1
            cases g1
            exact g2
        have grown2 : ∀ P, (P = P1 ∨ P = P2) → ∃ more, s'.heap.get? P = some { cls := .none, data := .fields (#[] ++ more) } := fun P hPP => by
          obtain ⟨more, grown⟩ := un.tbls P #[] (hP P hPP)
          exact ⟨more, hok' P _ grown⟩
        refine ⟨rfl, ⟨fun b o e => ?_, fun b o e => ?_⟩, os, bare⟩
        · by_cases nb : b = P1 ∨ b = P2
          · rw [atT b nb] at e
            cases e
            obtain ⟨more, g2⟩ := grown2 b nb
            rcases nb with e1 | e1
            · subst e1
              exact .inr (.inl ⟨((codeT1 w _ inH).tab (atT _ (.inl rfl))).isCodeTable, rfl, #[], #[] ++ more, rfl, by rw [Array.empty_append]; exact g2⟩)
            · subst e1
              exact .inr (.inl ⟨((codeT2 w _ inH).tab (atT _ (.inr rfl))).isCodeTable, rfl, #[], #[] ++ more, rfl, by rw [Array.empty_append]; exact g2⟩)
          · exact .inl (old b o nb e)
        · by_cases nb : b = P1 ∨ b = P2
          · obtain ⟨more, g2⟩ := grown2 b nb
            exact ⟨_, g2⟩
          · exact ⟨o, old b o nb e⟩
  cases lk : (Kf w.params).lookup a with
  | some ob =>
    have e := inH a ob lk
    rw [hobj] at e
    cases e
    refine key (fun b => if b = P1 ∨ b = P2 then some (.tbl #[]) else none) (fun b hb => if_pos hb) (fun b => ?_) (.inr ⟨_, vs.toArray, _, lk, rfl, rfl, rfl, by rw [List.size_toArray, hints.length]; exact hz, by simpa using rel⟩) (fun b u z => ?_) fun b z => ?_
    · by_cases e : b = P1 ∨ b = P2
      · exact .inr (.inl e)
      · exact .inl (if_neg e)
    · by_cases e : b = P1 ∨ b = P2
      · have z := (if_pos e).symm.trans z
        cases z
        exact atT b e
      · have z := (if_neg e).symm.trans z
        cases z
    · by_cases e : b = P1 ∨ b = P2
      · exact .inr e
      · exact absurd (if_neg e) z
  | none =>
    refine key (fun b => if b = P1 ∨ b = P2 then some (.tbl #[]) else if b = a then some (.frz { cls := .type "list", data := .seq vs.toArray } (.lst (ns.map V.int))) else none) (fun b hb => if_pos hb) (fun b => ?_) (.inl (.inr ⟨{ cls := .type "list", data := .seq vs.toArray }, ?_⟩)) (fun b u z => ?_) fun b z => ?_
    · by_cases e : b = P1 ∨ b = P2
      · exact .inr (.inl e)
      · by_cases e2 : b = a
        · exact .inr (.inr ⟨_, _, (if_neg e).trans (if_pos e2)⟩)
        · exact .inl ((if_neg e).trans (if_neg e2))
    · show (if a = P1 ∨ a = P2 then none else if a = P1 ∨ a = P2 then some (HO.tbl #[]) else if a = a then _ else none) = _
      rw [if_neg aP, if_neg aP, if_pos rfl]
    · by_cases e : b = P1 ∨ b = P2
      · have z := (if_pos e).symm.trans z
        cases z
        exact atT b e
      · have z := (if_neg e).symm.trans z
        by_cases e2 : b = a
        · have z := (if_pos e2).symm.trans z
          cases z
          rw [e2]
          exact ⟨hobj, by rw [List.length_map]; exact hz, vs, _, rel, hobj⟩
        · have z := (if_neg e2).symm.trans z
          cases z
    · by_cases e : b = P1 ∨ b = P2
      · exact .inr e
      · by_cases e2 : b = a
        · exact .inl ⟨e2, lk⟩
        · exact absurd ((if_neg e).trans (if_neg e2)) z
end Fsh

set_option Elab.async false
set_option linter.all false
set_option maxRecDepth 100000
set_option maxHeartbeats 8000000
namespace K5
open PySem PySem.Spec L2 Fsh Rec
def topG (i : Nat) : Stmt := PySem.Challenge.pw_fairshown_k05_views_rules_and_beginnings.main.body.getD i (.Pass ⟨0, 0, 0, 0⟩)
abbrev sFils : Stmt := topG 35
abbrev sTr : Stmt := topG 36
abbrev sRest : Stmt := topG 37
abbrev sOrds : Stmt := topG 38
abbrev sOpen : Stmt := topG 39
abbrev sShut : Stmt := topG 40
abbrev NFils : List Str := ["_law_row"]
abbrev NTr : List Str := ["_law_rows", "_law_t", "_law_i", "_law_found", "_law_s", "_law_row", "_law_price", "_law_size", "_law_n"]
abbrev NRest : List Str := ["_law_rows", "_law_n", "_law_t", "_law_i", "_law_m", "_law_size"]
abbrev NOrds : List Str := ["_law_rows", "_law_k"]
abbrev NOpen : List Str := ["_law_rows", "_law_t", "_law_i", "_law_gone", "_law_traded_now", "_law_n", "_law_size", "_law_found", "_law_row"]
abbrev NShut : List Str := ["_law_rows", "_law_t", "_law_row"]
theorem scFils : FnScope NFils ["_law_row"] (defScope sFils) := ⟨rfl, rfl, rfl, by decide +kernel, rfl, by decide +kernel, by decide +kernel⟩
theorem scTr : FnScope NTr ["_law_rows", "_law_t", "_law_i"] (defScope sTr) := ⟨rfl, rfl, rfl, by decide +kernel, rfl, by decide +kernel, by decide +kernel⟩
theorem scRest : FnScope NRest ["_law_rows", "_law_n", "_law_t", "_law_i"] (defScope sRest) := ⟨rfl, rfl, rfl, by decide +kernel, rfl, by decide +kernel, by decide +kernel⟩
theorem scOrds : FnScope NOrds ["_law_rows"] (defScope sOrds) := ⟨rfl, rfl, rfl, by decide +kernel, rfl, by decide +kernel, by decide +kernel⟩
theorem scOpen : FnScope NOpen ["_law_rows", "_law_t", "_law_i"] (defScope sOpen) := ⟨rfl, rfl, rfl, by decide +kernel, rfl, by decide +kernel, by decide +kernel⟩
theorem scShut : FnScope NShut ["_law_rows", "_law_t"] (defScope sShut) := ⟨rfl, rfl, rfl, by decide +kernel, rfl, by decide +kernel, by decide +kernel⟩
abbrev rowsV (rows : List RowM) : DV := .d (.list (rows.map rowD))
abbrev intV (n : Int) : DV := .d (.int n)
def zFils : Fsh.Spec := fun xs G Φ => ∃ r, xs = [.d (rowD r)] ∧ Φ (.d (.tuple ((filsOf r).map filD))) G
def zTr : Fsh.Spec := fun xs G Φ => ∃ rows t i, xs = [rowsV rows, intV t, intV i] ∧ okRs rows ∧ 0 ≤ t ∧ t ≤ 100 ∧ 0 ≤ i ∧ Φ (.d (.list ((trades rows t i).map pairD))) G
def zRest : Fsh.Spec := fun xs G Φ => ∃ (rows : List RowM) (n : Nat) (t i : Int), xs = [rowsV rows, intV n, intV t, intV i] ∧ okRs rows ∧ 0 ≤ t ∧ t ≤ 100 ∧ 0 ≤ i ∧ (∃ m s p z fs, rows[n]? = some (.order m s p z fs)) ∧ Φ (intV (restM rows n t i)) G
def zOrds : Fsh.Spec := fun xs G Φ => ∃ rows, xs = [rowsV rows] ∧ okRs rows ∧ Φ (.d (.list ((ordersM rows).map fun (k : Nat) => PyData.int k))) G
def zOpen : Fsh.Spec := fun xs G Φ => ∃ rows t i, xs = [rowsV rows, intV t, intV i] ∧ okRs rows ∧ 0 ≤ t ∧ t ≤ 100 ∧ 0 ≤ i ∧ Φ (.d (.list ((openM rows t i).map fun (k : Nat) => PyData.int k))) G
def zShut : Fsh.Spec := fun xs G Φ => ∃ rows, xs = [rowsV rows, intV rows.length] ∧ okRs rows ∧ ∀ b : Bool, Φ (.d (.bool b)) G
section
variable {P : Program} {w : World} {K : PySem.W.Frag} {mg : Str → Option Value} {base : Heap}
theorem f_fils {f : Addr} {fd : FuncData} (F1 : Fun K "_law_fills" "_law_fills" sFils f fd) (hm : mg "_law_fills" = some (.ref f)) : Fn P w K mg base 1 "_law_fills" ["_law_row"] zFils := by
  refine fn_rule F1 scFils (F1.binds fun _ _ _ _ _ _ us hl => match us, hl with | [_], _ => rfl) hm (fun xs G Φ h => by obtain ⟨o, rfl, _⟩ := h; rfl) fun cdv A outer s H E hr xs G Φ hz => ?_
  obtain ⟨r, rfl, hq⟩ := hz
  refine xss_one (xs_ret ?_)
  cases r with
  | order m sd p z fs => exact xp_ifD (t := true) (xb_eqs (xd_ixT (xd_name 0) xd_int rfl) xd_str (decide_eq_true rfl)) (fun _ => Xd.to (xd_ixT (xd_name 0) xd_int rfl) hq) (fun h => nomatch h)
  | prints fs => exact xp_ifD (t := false) (xb_eqs (xd_ixT (xd_name 0) xd_int rfl) xd_str (by decide +kernel)) (fun h => nomatch h) fun _ => xp_ifD (t := true) (xb_eqs (xd_ixT (xd_name 0) xd_int rfl) xd_str (decide_eq_true rfl)) (fun _ => Xd.to (xd_ixT (xd_name 0) xd_int rfl) hq) (fun h => nomatch h)
  | cancel n => exact xp_ifD (t := false) (xb_eqs (xd_ixT (xd_name 0) xd_int rfl) xd_str (by decide +kernel)) (fun h => nomatch h) fun _ => xp_ifD (t := false) (xb_eqs (xd_ixT (xd_name 0) xd_int rfl) xd_str (by decide +kernel)) (fun h => nomatch h) fun _ => Xd.to (xd_tup (ds := []) xa_nil) hq
  | closed => exact xp_ifD (t := false) (xb_eqs (xd_ixT (xd_name 0) xd_int rfl) xd_str (by decide +kernel)) (fun h => nomatch h) fun _ => xp_ifD (t := false) (xb_eqs (xd_ixT (xd_name 0) xd_int rfl) xd_str (by decide +kernel)) (fun h => nomatch h) fun _ => Xd.to (xd_tup (ds := []) xa_nil) hq
  | call p ps => exact xp_ifD (t := false) (xb_eqs (xd_ixT (xd_name 0) xd_int rfl) xd_str (by decide +kernel)) (fun h => nomatch h) fun _ => xp_ifD (t := false) (xb_eqs (xd_ixT (xd_name 0) xd_int rfl) xd_str (by decide +kernel)) (fun h => nomatch h) fun _ => Xd.to (xd_tup (ds := []) xa_nil) hq
theorem at_map {α : Type} {xs : List α} {k : Nat} {x : α} (f : α → PyData) (h : xs[k]? = some x) : atI (xs.map f) (k : Int) = some (f x) := by
  have hk := (List.getElem?_eq_some_iff.mp h).1
  exact atI_nat (by rw [List.getElem?_map, h]; rfl)
theorem tag_row (r : RowM) : ∃ (tag : Str) (ds : List PyData), rowD r = .tuple (.str tag :: ds) ∧ decide (tag = u "order") = isOrd r ∧ decide (tag = u "call") = (match r with | .call _ _ => true | _ => false) ∧ decide (tag = u "cancel") = (match r with | .cancel _ => true | _ => false) := by
  cases r with
  | order m sd p z fs => exact ⟨u "order", _, rfl, (by show decide (u "order" = u "order") = true; decide +kernel), (by show decide (u "order" = u "call") = false; decide +kernel), (by show decide (u "order" = u "cancel") = false; decide +kernel)⟩
  | prints fs => exact ⟨u "prints", _, rfl, (by show decide (u "prints" = u "order") = false; decide +kernel), (by show decide (u "prints" = u "call") = false; decide +kernel), (by show decide (u "prints" = u "cancel") = false; decide +kernel)⟩
  | cancel n => exact ⟨u "cancel", _, rfl, (by show decide (u "cancel" = u "order") = false; decide +kernel), (by show decide (u "cancel" = u "call") = false; decide +kernel), (by show decide (u "cancel" = u "cancel") = true; decide +kernel)⟩
  | closed => exact ⟨u "closed", _, rfl, (by show decide (u "closed" = u "order") = false; decide +kernel), (by show decide (u "closed" = u "call") = false; decide +kernel), (by show decide (u "closed" = u "cancel") = false; decide +kernel)⟩
  | call p ps => exact ⟨u "call", _, rfl, (by show decide (u "call" = u "order") = false; decide +kernel), (by show decide (u "call" = u "call") = true; decide +kernel), (by show decide (u "call" = u "cancel") = false; decide +kernel)⟩
/-- row[0] == 'order' and its kin -/
theorem xb_tag {X : Cx} {a : Expr} {ρ : Fsh.Env} {pos p2 pos2 pos3 : Pos} {r : RowM} {s : Str} {j j2 : Nat} {v : Bool} (ha : Xd X a ρ (.d (rowD r))) (h : ∀ (tag : Str) (ds : List PyData), rowD r = .tuple (.str tag :: ds) → decide (tag = s) = v) : Xb X (.Compare (.Subscript a (.Constant (.int 0) j p2) pos2) [.Eq] [.Constant (.str s) j2 pos3] pos) ρ v := by
  obtain ⟨tag, ds, e, _⟩ := tag_row r
  exact xb_eqs (xd_ixT (e ▸ ha) xd_int (atI_nat (j := 0) rfl)) xd_str (h tag ds e)
theorem cut_take {α : Type} (f : α → PyData) (xs : List α) (k : Nat) : cutD (xs.map f) none (some (k : Int)) = (xs.take k).map f := by
  unfold cutD
  rw [HT.sIx_none, HT.sIx_nat, List.drop_zero, Nat.sub_zero, List.map_take, List.length_map]
  rw [List.take_eq_take_iff]
  rw [List.length_map]
  omega
theorem f_tr {f : Addr} {fd : FuncData} (F1 : Fun K "_law_trades" "_law_trades" sTr f fd) (hm : mg "_law_trades" = some (.ref f)) (B : Bn mg) (T : Fn P w K mg base 1 "_law_fills" ["_law_row"] zFils) : Fn P w K mg base 2 "_law_trades" ["_law_rows", "_law_t", "_law_i"] zTr := by
  refine fn_rule F1 scTr (F1.binds fun _ _ _ _ _ _ us hl => match us, hl with | [_, _, _], _ => rfl) hm (fun xs G Φ h => by obtain ⟨_, _, _, rfl, _⟩ := h; rfl) fun cdv A outer s H E hr xs G Φ hz => ?_
  obtain ⟨rows, t, i, rfl, hok, ht, ht2, hi, hq⟩ := hz
  refine xss_cons (M := fun ρ' G' => ∃ l, ρ' = [some (rowsV rows), some (intV t), some (intV i), some (.a l), none, none, none, none, none] ∧ G' = (l, .lst []) :: G) (xs_set 3 (Xl.g (xl_lst (ds := []) xa_nil)) (fun y G2 q => by obtain ⟨l, e1, e2⟩ := q; exact ⟨l, by rw [e1]; rfl, e2⟩) scTr.nd) fun ρ' G' q => ?_
  obtain ⟨l, rfl, rfl⟩ := q
  refine xss_cons (M := fun ρ1 G1 => ∃ a4 a5 a6 a7 a8, ρ1 = [some (rowsV rows), some (intV t), some (intV i), some (.a l), a4, a5, a6, a7, a8] ∧ G1 = (l, .lst ((trades rows t i).map pairD)) :: G)
    (xs_forR (js := [4]) (Φl := IsA [intV (turns rows t)] ((l, .lst []) :: G)) (fun n k ρ1 G1 => n = turns rows t ∧ ∃ a4 a5 a6 a7 a8, ρ1 = [some (rowsV rows), some (intV t), some (intV i), some (.a l), a4, a5, a6, a7, a8] ∧ G1 = (l, .lst ((trUp rows t i k).map pairD)) :: G) PassesOwn.never B.range ?_ (pg_name (i := 4) scTr.nd rfl (Or.inl rfl)) ?_ ?_ ?_) fun ρ' G' q => ?_
  · refine Xad.i (xad_cons ?_ xa_nil)
    refine Xd.cast (xd_min B (xd_add (xd_name 1) xd_int) (xd_lenL B (xd_name 0))) ?_
    unfold turns
    rw [List.length_map]
  · intro xs G1 q
    have h1 := turns_le rows t
    have h2 := hok.1
    refine ⟨_, q.1, by omega, by unfold turns; split <;> omega, rfl, none, none, none, none, none, rfl, q.2⟩
  · rintro n k ρ1 G1 hk ⟨hn, a4, a5, a6, a7, a8, rfl, rfl⟩
    refine ⟨_, rg_name, ?_⟩
    have hkl : k < rows.length := by
      have := turns_le rows t
      omega
    obtain ⟨r, hrk⟩ : ∃ r, rows[k]? = some r := ⟨_, List.getElem?_eq_getElem hkl⟩
    have hrok := hok.2 r (List.mem_of_getElem? hrk)
    have hfs := filsOf_ok hrok
    refine xss_at (xs_setD 5 (y := .d (rowD r)) (xd_ixL (xd_name 0) (xd_name 4) (at_map rowD hrk)) scTr.nd) ?_
    -- the fills
    refine xss_cons (M := fun ρ2 G2 => ∃ b6 b7 b8, ρ2 = [some (rowsV rows), some (intV t), some (intV i), some (.a l), some (intV k), some (.d (rowD r)), b6, b7, b8] ∧ G2 = (l, .lst ((trUp rows t i k ++ trFs k (isOrd r) (cutF r t i k)).map pairD)) :: G)
      (xs_forT (js := [6] ++ ([7] ++ ([8] ++ []))) (ds := (cutF r t i k).map filD) (fun j ρ2 G2 => ∃ b6 b7 b8, ρ2 = [some (rowsV rows), some (intV t), some (intV i), some (.a l), some (intV k), some (.d (rowD r)), b6, b7, b8] ∧ G2 = (l, .lst ((trUp rows t i k ++ trFs k (isOrd r) ((cutF r t i k).take j)).map pairD)) :: G) PassesOwn.never ?_
        (pg_tup (n := 3) rfl (pgs_cons (pg_name (i := 6) scTr.nd rfl (.inl rfl)) (pgs_cons (pg_name (i := 7) scTr.nd rfl (.inl rfl)) (pgs_cons (pg_name (i := 8) scTr.nd rfl (.inl rfl)) pgs_nil)))) ⟨a6, a7, a8, rfl, ?_⟩ ?_ ?_) fun ρ2 G2 q2 => ?_
    · refine Xd.cast (xd_slT (xd_call T (hr.mono (by decide)) (xad_cons (xd_name 5) xa_nil) fun G Φ q => ⟨r, rfl, q⟩) po_none ro_none po_x (ro_x (i := ((if (k : Int) < t then (filsOf r).length else i.toNat : Nat) : Int)) ?_)) ?_
      · refine xd_if (t := decide ((k : Int) < t)) (xb_lt (xd_name 4) (xd_name 1) rfl) (fun hd => ?_) fun hd => ?_
        · rw [if_pos (of_decide_eq_true hd)]
          refine Xd.cast (xd_lenT B (xd_call T (hr.mono (by decide)) (xad_cons (xd_name 5) xa_nil) fun G Φ q => ⟨r, rfl, q⟩)) ?_
          rw [List.length_map]
        · rw [if_neg (of_decide_eq_false hd)]
          refine Xd.cast (xd_name 2) ?_
          show intV i = intV (i.toNat : Nat)
          rw [Int.toNat_of_nonneg hi]
      · rw [cut_take]
        rfl
    · show _ = (l, Cell.lst ((trUp rows t i k ++ trFs k (isOrd r) []).map pairD)) :: G
      rw [show trFs k (isOrd r) [] = [] from rfl, List.append_nil]
    · rintro j d ρ2 G2 hd ⟨b6, b7, b8, rfl, rfl⟩
      obtain ⟨⟨fp, fz, fn⟩, hf, rfl⟩ := of_map_at hd
      refine ⟨[some (rowsV rows), some (intV t), some (intV i), some (.a l), some (intV k), some (.d (rowD r)), some (intV fp), some (intV fz), some (.d (optD fn))], rg_tup rfl (rgs_cons rg_name (rgs_cons rg_name (rgs_cons rg_name rgs_nil))), ?_⟩
      have hl1 := trUp_len hok t i k
      have hl2 := trFs_len k (isOrd r) ((cutF r t i k).take j)
      have hl3 := cutF_len r t i k
      have hl4 : ((cutF r t i k).take j).length ≤ (cutF r t i k).length := by
        rw [List.length_take]
        omega
      have hl5 := hfs.1
      have hl6 := hok.1
      have hz1 : (((trUp rows t i k ++ trFs k (isOrd r) ((cutF r t i k).take j))).map pairD).length < 50000 := by
        rw [List.length_map, List.length_append]
        omega
      have e1 := trFs_snoc k (isOrd r) (cutF r t i k) j hf
      -- two appends, each under its test
      refine xss_cons (M := At [some (rowsV rows), some (intV t), some (intV i), some (.a l), some (intV k), some (.d (rowD r)), some (intV fp), some (intV fz), some (.d (optD fn))] ((l, .lst ((trUp rows t i k ++ trFs k (isOrd r) ((cutF r t i k).take j) ++ (if isOrd r = true then [((k : Int), fz)] else [])).map pairD)) :: G)) (xs_ifD (t := isOrd r) (xb_tag (xd_name 5) fun tag ds e => ?_) (fun h1 => ?_) fun h2 => ?_) fun ρ3 G3 q3 => ?_
      · obtain ⟨tag2, ds2, e2, h2, _⟩ := tag_row r
        rw [e] at e2
        injection e2 with e3
        injection e3 with e4 _
        injection e4 with e5
        subst e5
        exact h2
      · refine xss_one ((xs_app1 (d := pairD ((k : Int), fz)) (xd_name 3) (xd_tup (ds := [.int k, .int fz]) (xad_cons (xd_name 4) (xad_cons (xd_name 7) xa_nil)) (by show 2 ≤ 100000; decide)) (by omega)).imp fun ρ' G2 q => ⟨q.1, ?_⟩)
        rw [q.2, if_pos h1, List.map_append (l₂ := [((k : Int), fz)])]
        rfl
      · refine xss_nil ⟨rfl, ?_⟩
        rw [if_neg (by rw [h2]; decide), List.append_nil]
      · rw [q3.1, q3.2]
        have hz2 : ((trUp rows t i k ++ trFs k (isOrd r) ((cutF r t i k).take j) ++ (if isOrd r = true then [((k : Int), fz)] else [])).map pairD).length < 100000 := by
          rw [List.length_map] at hz1 ⊢
          rw [List.length_append (as := trUp rows t i k ++ _)]
          have : (if isOrd r = true then [((k : Int), fz)] else []).length ≤ 1 := by split <;> simp
          omega
        cases fn with
        | none =>
          refine xss_one (xs_ifD (t := false) (xb_notn (xd_name 8) rfl) (fun h => nomatch h) fun _ => xss_nil ⟨_, _, _, rfl, ?_⟩)
          rw [e1, ← List.append_assoc]
          unfold one
          rw [List.append_nil]
        | some n =>
          refine xss_one (xs_ifD (t := true) (xb_notn (xd_name 8) rfl) (fun _ => xss_one ((xs_app1 (d := pairD (n, fz)) (xd_name 3) (xd_tup (ds := [.int n, .int fz]) (xad_cons (xd_name 8) (xad_cons (xd_name 7) xa_nil)) (by show 2 ≤ 100000; decide)) hz2).imp fun ρ' G2 q => ⟨_, _, _, q.1, ?_⟩)) fun h => nomatch h)
          rw [q.2, e1, ← List.append_assoc]
          unfold one
          rw [← List.append_assoc, List.map_append (l₂ := [(n, fz)])]
          rfl
    · rintro ρ2 G2 ⟨b6, b7, b8, rfl, rfl⟩
      refine ⟨b6, b7, b8, rfl, ?_⟩
      rw [List.length_map, List.take_length]
    -- the call's pairs
    · obtain ⟨b6, b7, b8, rfl, rfl⟩ := q2
      have hps := pairsOf_ok hrok
      have hl1 := trUp_len hok t i k
      have hl2 := trFs_len k (isOrd r) (cutF r t i k)
      have hl3 := cutF_len r t i k
      have hl5 := hfs.1
      have hl6 := hok.1
      have hat : trAt rows t i k = trFs k (isOrd r) (cutF r t i k) ++ (if (k : Int) < t then pairsOf r else []) := by
        unfold trAt
        rw [hrk]
      have fin : ∀ ps : List (Int × Int), ps = (if (k : Int) < t then pairsOf r else []) → (l, Cell.lst ((trUp rows t i k ++ trFs k (isOrd r) (cutF r t i k)).map pairD ++ ps.map pairD)) :: G = (l, Cell.lst ((trUp rows t i (k + 1)).map pairD)) :: G := fun ps e => by
        rw [trUp_succ, hat, e, ← List.append_assoc, List.map_append (l₂ := (if (k : Int) < t then pairsOf r else []))]
      obtain ⟨tag, ds, e, _, h3, _⟩ := tag_row r
      refine xss_one (xs_ifI (t := (decide (tag = u "call")) && decide ((k : Int) < t)) (xti_and (Xb.i (xb_tag (xd_name 5) fun tag2 ds2 e2 => ?_)) fun _ => Xb.i (xb_lt (xd_name 4) (xd_name 1) rfl)) (fun hd => ?_) fun hd => ?_)
      · rw [e] at e2
        injection e2 with e3
        injection e3 with e4 _
        injection e4 with e5
        rw [e5]
      · rw [Bool.and_eq_true, h3] at hd
        cases r with
        | call p ps =>
          refine xss_one (xs_expr (Φe := fun y G2 => G2 = (l, .lst ((trUp rows t i (k + 1)).map pairD)) :: G) (xp_extend (ys := ps.map pairD) (G1 := []) (G2 := G) (xd_name 3) (xd_ixT (xd_name 5) xd_int rfl) rfl ?_ ?_) fun x G2 q => ⟨hn, _, _, _, _, _, rfl, q⟩)
          · rw [List.length_map, List.length_map, List.length_append]
            have h7 : ps.length ≤ 30 := hps.1
            omega
          · exact fin ps (by rw [if_pos (of_decide_eq_true hd.2)]; rfl)
        | order m sd p z fs => cases hd.1
        | prints fs => cases hd.1
        | cancel n => cases hd.1
        | closed => cases hd.1
      · refine xss_nil ⟨hn, _, _, _, _, _, rfl, ?_⟩
        have := fin [] ?_
        · rw [← this, List.map_nil, List.append_nil]
        · by_cases h8 : (k : Int) < t
          · rw [if_pos h8]
            rw [h3, show decide ((k : Int) < t) = true from decide_eq_true h8, Bool.and_true] at hd
            cases r with
            | call p ps => cases hd
            | order m sd p z fs => rfl
            | prints fs => rfl
            | cancel n => rfl
            | closed => rfl
          · rw [if_neg h8]
  · rintro n ρ1 G1 ⟨rfl, a4, a5, a6, a7, a8, rfl, rfl⟩
    exact ⟨a4, a5, a6, a7, a8, rfl, rfl⟩
  · obtain ⟨a4, a5, a6, a7, a8, rfl, rfl⟩ := q
    exact xss_one (xs_ret (xp_give (Xd.to (xd_name 3) ⟨l, _, G, rfl, rfl, hq⟩)))
end
end K5

set_option Elab.async false
set_option linter.all false
set_option maxRecDepth 100000
set_option maxHeartbeats 8000000
namespace Fsh
open PySem PySem.Spec L2
section
variable {X : Cx} {e a b : Expr} {ρ : Fsh.Env} {G : Store} {pos : Pos}
theorem ints_rps {K : PySem.W.Frag} {B : Hp} {vs : List V} {ns : List Int} (r : Rps K B vs (ns.map PyData.int)) : vs = ns.map V.int := by
  induction ns generalizing vs with
  | nil => cases r; rfl
  | cons n ns ih =>
    cases r with
    | cons r1 r2 =>
      cases r1
      rw [ih r2]
      rfl
theorem inV_ints (n : Int) (ns : List Int) : inV (V.int n) (ns.map V.int) = decide (n ∈ ns) := by
  unfold inV
  rw [Bool.eq_iff_iff, decide_eq_true_iff, List.any_eq_true]
  constructor
  · rintro ⟨y, hy, he⟩
    obtain ⟨m, hm, rfl⟩ := List.mem_map.mp hy
    have : m = n := of_decide_eq_true he
    exact this ▸ hm
  · intro h
    exact ⟨_, List.mem_map.mpr ⟨n, h, rfl⟩, decide_eq_true rfl⟩
theorem xb_niI {n : Int} {ns : List Int} {r : Bool} (ha : Xd X a ρ (.d (.int n))) (hb : Xd X b ρ (.d (.list (ns.map PyData.int)))) (h : (!decide (n ∈ ns)) = r) (hm : behindInMarks .NotIn b = false := by rfl) : Xb X (.Compare a [.NotIn] [b] pos) ρ r := h ▸ xt_cmpD op_notIn_seq ha hb (fun G F B H v u Q c r1 r2 k => by
  cases r1
  cases r2 with
  | rlst p z =>
    have e := ints_rps z
    subst e
    refine ⟨_, _, rfl, .inl (Evl.ex_l c.ex p), rfl, List.all_eq_true.mpr fun y hy => ?_, ?_⟩
    · obtain ⟨m, _, rfl⟩ := List.mem_map.mp hy
      rfl
    · rw [if_pos rfl, inV_ints]
      exact k.ret (x := .d (.bool _)) c (.rbl _) ⟨rfl, rfl⟩) hm
end
end Fsh
namespace K5
open PySem PySem.Spec L2 Fsh Rec
section
variable {P : Program} {w : World} {K : PySem.W.Frag} {mg : Str → Option Value} {base : Heap}
theorem f_rest {f : Addr} {fd : FuncData} (F1 : Fun K "_law_rest" "_law_rest" sRest f fd) (hm : mg "_law_rest" = some (.ref f)) (B : Bn mg) (T : Fn P w K mg base 2 "_law_trades" ["_law_rows", "_law_t", "_law_i"] zTr) : Fn P w K mg base 3 "_law_rest" ["_law_rows", "_law_n", "_law_t", "_law_i"] zRest := by
  refine fn_rule F1 scRest (F1.binds fun _ _ _ _ _ _ us hl => match us, hl with | [_, _, _, _], _ => rfl) hm (fun xs G Φ h => by obtain ⟨_, _, _, _, rfl, _⟩ := h; rfl) fun cdv A outer s H E hr xs G Φ hz => ?_
  obtain ⟨rows, n, t, i, rfl, hok, ht, ht2, hi, ⟨m, sd, p, z, fs, hn⟩, hq⟩ := hz
  refine xss_one (xs_ret (Xd.to (Xd.cast (xd_sub (xd_ixT (i := 4) (ds := [.str "order", .str m, .str sd, .int p, .int z, .tuple (fs.map filD)]) (xd_ixL (xd_name 0) (xd_name 1) (at_map rowD hn)) xd_int rfl)
    (xd_sum (ns := ((trades rows t i).filter fun p => decide (p.1 = (n : Int))).map (·.2)) B (Xl.data (Xl.cast (xl_filL (trades rows t i) pairD (fun p => .int p.2) (fun p => decide (p.1 = (n : Int))) (fun q => [some (rowsV rows), some (intV n), some (intV t), some (intV i), some (intV q.1), some (intV q.2)]) scRest.nd
      (xd_call T (hr.mono (by decide)) (xad_cons (xd_name 0) (xad_cons (xd_name 2) (xad_cons (xd_name 3) xa_nil))) fun G Φ q => ⟨rows, t, i, rfl, hok, ht, ht2, hi, q⟩)
      (blkOk_by (own := [("_law_m", 4), ("_law_size", 5)]) (N := NRest) (sc := defScope sRest) (by decide +kernel)) (fun _ _ _ _ _ => pg_tup (n := 2) rfl (pgs_cons (pg_name (i := 4) scRest.nd rfl (Or.inl rfl)) (pgs_cons (pg_name (i := 5) scRest.nd rfl (Or.inl rfl)) pgs_nil))) (by decide) (Nat.le_trans (trades_len hok t i) (by decide)) (fun x _ => rg_tup rfl (rgs_cons rg_name (rgs_cons rg_name rgs_nil)))
      (fun x hx z => xb_eqi (xd_name 4) (xd_name 1) rfl) (fun x hx h z => xd_name 5)) ?_)))) ?_) hq))
  · rw [List.map_map]
    rfl
  · show intV _ = intV _
    unfold restM
    rw [hn]
    rfl
theorem f_ords {f : Addr} {fd : FuncData} (F1 : Fun K "_law_orders" "_law_orders" sOrds f fd) (hm : mg "_law_orders" = some (.ref f)) (B : Bn mg) : Fn P w K mg base 1 "_law_orders" ["_law_rows"] zOrds := by
  refine fn_rule F1 scOrds (F1.binds fun _ _ _ _ _ _ us hl => match us, hl with | [_], _ => rfl) hm (fun xs G Φ h => by obtain ⟨_, rfl, _⟩ := h; rfl) fun cdv A outer s H E hr xs G Φ hz => ?_
  obtain ⟨rows, rfl, hok, hq⟩ := hz
  have h1 := hok.1
  refine xss_one (xs_ret (Xd.to (Xl.data (xl_filR rows.length (fun k => .int k) (fun k => match rows[k]? with | some r => isOrd r | none => false) (fun k => [some (rowsV rows), some (intV k)]) scOrds.nd B.range
    (xad_cons (Xd.cast (xd_lenL B (xd_name 0)) (by rw [List.length_map])) xa_nil) (by omega)
    (blkOk_by (own := [("_law_k", 1)]) (N := NOrds) (sc := defScope sOrds) (by decide +kernel)) (fun _ _ _ _ _ => pg_name (i := 1) scOrds.nd rfl (Or.inl rfl)) (by decide) (fun x => rg_name) (fun k hk z => ?_) (fun k hk h z => xd_name 1))) hq))
  obtain ⟨r, hr⟩ : ∃ r, rows[k]? = some r := ⟨_, List.getElem?_eq_getElem hk⟩
  rw [hr]
  refine xb_tag (xd_ixL (xd_name 0) (xd_name 1) (at_map rowD hr)) fun tag ds e => ?_
  obtain ⟨tag2, ds2, e2, h2, _⟩ := tag_row r
  rw [e] at e2
  injection e2 with e3
  injection e3 with e4 _
  injection e4 with e5
  rw [e5]
  exact h2
end
end K5

set_option Elab.async false
set_option linter.all false
set_option maxRecDepth 100000
set_option maxHeartbeats 8000000
namespace Fsh
open PySem PySem.Spec L2
section
variable {X : Cx} {e a b : Expr} {ρ : Fsh.Env} {G : Store} {Φ : Pst} {pos : Pos}
theorem xp_dnew (q : ∀ l, Φ (.a l) ((l, .dct []) :: G)) : Xp X (.Dict [] [] pos) ρ G Φ := xp_of pe_dnewK fun F σ B H Q c s k p hp =>
  k _ (.a p) _ B _ (Evl.Ex.refl B) (c.cell (x := .dct []) hp ⟨[], upd_same, .nil⟩) rfl (q p)
end
end Fsh
namespace Rec
open PySem PySem.Spec L2 Fsh
def isCan : RowM → Bool
  | .cancel _ => true
  | _ => false
def isCall : RowM → Bool
  | .call _ _ => true
  | _ => false
def canN : RowM → PyData
  | .cancel n => .int n
  | _ => .none
theorem gone_eq (L : List RowM) : (L.filter isCan).map canN = (L.filterMap cancelN).map PyData.int := by
  induction L with
  | nil => rfl
  | cons r L ih =>
    cases r with
    | cancel n =>
      show canN (.cancel n) :: (L.filter isCan).map canN = PyData.int n :: (L.filterMap cancelN).map PyData.int
      rw [ih]
      rfl
    | order m s p z fs => exact ih
    | prints fs => exact ih
    | closed => exact ih
    | call p ps => exact ih
end Rec
namespace K5
open PySem PySem.Spec L2 Fsh Rec
section
variable {P : Program} {w : World} {K : PySem.W.Frag} {mg : Str → Option Value} {base : Heap}
theorem tag_can {r : RowM} {tag : Str} {ds : List PyData} (e : rowD r = .tuple (.str tag :: ds)) : decide (tag = u "cancel") = isCan r := by
  obtain ⟨tag2, ds2, e2, _, _, h⟩ := tag_row r
  rw [e] at e2
  injection e2 with e3
  injection e3 with e4 _
  injection e4 with e5
  rw [e5, h]
  cases r <;> rfl
theorem tag_call {r : RowM} {tag : Str} {ds : List PyData} (e : rowD r = .tuple (.str tag :: ds)) : decide (tag = u "call") = isCall r := by
  obtain ⟨tag2, ds2, e2, _, h, _⟩ := tag_row r
  rw [e] at e2
  injection e2 with e3
  injection e3 with e4 _
  injection e4 with e5
  rw [e5, h]
  cases r <;> rfl
theorem ord_is {rows : List RowM} {k : Nat} (h : k ∈ ordersM rows) : ∃ m s p z fs, rows[k]? = some (.order m s p z fs) := by
  unfold ordersM at h
  rw [List.mem_filter] at h
  cases hz : rows[k]? with
  | none =>
    rw [hz] at h
    cases h.2
  | some r =>
    rw [hz] at h
    cases r with
    | order m s p z fs => exact ⟨m, s, p, z, fs, rfl⟩
    | cancel n => cases h.2
    | prints fs => cases h.2
    | closed => cases h.2
    | call p ps => cases h.2
theorem found_ord {rows : List RowM} {t : Int} {k : Nat} (h : k ∈ foundM rows t) : k ∈ ordersM rows := by
  unfold foundM at h
  exact (List.mem_filter.mp h).1
theorem look_sum (L : List (Int × Int)) (k : Int) : (look (encI (dsum L)) (.inl k)).getD (intV 0) = intV (sumOf L k) := by
  rw [look_enc, ← dsum_get]
  cases getI (dsum L) k <;> rfl
theorem ords_len (rows : List RowM) : (ordersM rows).length ≤ rows.length := by
  unfold ordersM
  refine Nat.le_trans (List.length_filter_le _ _) ?_
  rw [List.length_range]
  exact Nat.le_refl _
theorem found_len (rows : List RowM) (t : Int) : (foundM rows t).length ≤ rows.length := by
  unfold foundM
  exact Nat.le_trans (List.length_filter_le _ _) (ords_len rows)
theorem f_open {f : Addr} {fd : FuncData} (F1 : Fun K "_law_open" "_law_open" sOpen f fd) (hm : mg "_law_open" = some (.ref f)) (B : Bn mg) (T : Fn P w K mg base 2 "_law_trades" ["_law_rows", "_law_t", "_law_i"] zTr) (T2 : Fn P w K mg base 1 "_law_orders" ["_law_rows"] zOrds) : Fn P w K mg base 3 "_law_open" ["_law_rows", "_law_t", "_law_i"] zOpen := by
  refine fn_rule F1 scOpen (F1.binds fun _ _ _ _ _ _ us hl => match us, hl with | [_, _, _], _ => rfl) hm (fun xs G Φ h => by obtain ⟨_, _, _, rfl, _⟩ := h; rfl) fun cdv A outer s H E hr xs G Φ hz => ?_
  obtain ⟨rows, t, i, rfl, hok, ht, ht2, hi, hq⟩ := hz
  have h1 := hok.1
  have hu := Nat.lt_of_le_of_lt (Nat.add_le_add_left (by decide : 1 ≤ 64) _) hr.units
  -- the cancelled
  refine xss_at (xs_setD 3 (y := .d (.list ((goneM rows t).map PyData.int))) (Xl.data (Xl.cast (xl_filL (rows.take t.toNat) rowD canN isCan (fun r => [some (rowsV rows), some (intV t), some (intV i), none, none, none, none, none, some (.d (rowD r))]) scOpen.nd
    (Xl.data (Xl.cast (xl_sl (l := none) (h := some t) (xd_name 0) po_none ro_none po_x (ro_x (xd_name 1))) ?_))
    (blkOk_by (own := [("_law_row", 8)]) (N := NOpen) (sc := defScope sOpen) (by decide +kernel)) (fun _ _ _ _ _ => pg_name (i := 8) scOpen.nd rfl (Or.inl rfl)) (by decide) (Nat.le_trans (List.length_take_le _ _) (by omega)) (fun x _ => rg_name)
    (fun r hr z => xb_tag (xd_name 8) fun tag ds e => tag_can e) (fun r hr h z => ?_)) ?_)) scOpen.nd) ?_
  · have := cut_take rowD rows t.toNat
    rw [Int.toNat_of_nonneg ht] at this
    exact this
  · cases r with
    | cancel n => exact xd_ixT (xd_name 8) xd_int rfl
    | order m s p z fs => cases h
    | prints fs => cases h
    | closed => cases h
    | call p ps => cases h
  · exact gone_eq _
  -- the traded
  refine xss_cons (M := fun ρ' G' => ∃ l, ρ' = [some (rowsV rows), some (intV t), some (intV i), some (.d (.list ((goneM rows t).map PyData.int))), some (.a l), none, none, none, none] ∧ G' = (l, .dct []) :: G) (xs_set 4 (Φe := fun y G2 => ∃ l, y = .a l ∧ G2 = (l, .dct []) :: G) (xp_dnew fun l => ⟨l, rfl, rfl⟩) (fun y G2 q => by obtain ⟨l, e1, e2⟩ := q; exact ⟨l, by rw [e1]; rfl, e2⟩) scOpen.nd) fun ρ' G' q => ?_
  obtain ⟨l, rfl, rfl⟩ := q
  refine xss_cons (M := fun ρ1 G1 => ∃ a5 a6, ρ1 = [some (rowsV rows), some (intV t), some (intV i), some (.d (.list ((goneM rows t).map PyData.int))), some (.a l), a5, a6, none, none] ∧ G1 = (l, .dct (encI (dsum (trades rows t i)))) :: G)
    (xs_forL (js := [5] ++ ([6] ++ [])) (ds := (trades rows t i).map pairD) (fun j ρ1 G1 => ∃ a5 a6, ρ1 = [some (rowsV rows), some (intV t), some (intV i), some (.d (.list ((goneM rows t).map PyData.int))), some (.a l), a5, a6, none, none] ∧ G1 = (l, .dct (encI (dsum ((trades rows t i).take j)))) :: G) PassesOwn.never
      (xd_call T (hr.mono (by decide)) (xad_cons (xd_name 0) (xad_cons (xd_name 1) (xad_cons (xd_name 2) xa_nil))) fun G Φ q => ⟨rows, t, i, rfl, hok, ht, ht2, hi, q⟩)
      (pg_tup (n := 2) rfl (pgs_cons (pg_name (i := 5) scOpen.nd rfl (.inl rfl)) (pgs_cons (pg_name (i := 6) scOpen.nd rfl (.inl rfl)) pgs_nil))) ⟨none, none, rfl, rfl⟩ ?_ ?_) fun ρ' G' q => ?_
  · rintro j d ρ1 G1 hd ⟨a5, a6, rfl, rfl⟩
    obtain ⟨⟨n, z⟩, hf, rfl⟩ := of_map_at hd
    refine ⟨[some (rowsV rows), some (intV t), some (intV i), some (.d (.list ((goneM rows t).map PyData.int))), some (.a l), some (intV n), some (intV z), none, none], rg_tup rfl (rgs_cons rg_name (rgs_cons rg_name rgs_nil)), ?_⟩
    have e1 : encI (dsum ((trades rows t i).take (j + 1))) = putD (encI (dsum ((trades rows t i).take j))) (.inl n) (intV (sumOf ((trades rows t i).take j) n + z)) := by
      rw [List.take_add_one, hf]
      show encI (dsum (_ ++ [(n, z)])) = _
      rw [dsum_snoc, dsum_get, ← put_enc]
    refine xss_one (xs_dput (k := .inl n) hu (xi_add (i := sumOf ((trades rows t i).take j) n) (j := z) (xp_dget2 (k := .inl n) (y := intV 0) hu (xd_name 4) (xd_name 5) xd_int List.mem_cons_self ⟨look_sum _ _, rfl⟩) ((xd_name 6).g)) (xd_name 4) (xd_name 5) fun x G2 q => ⟨[], _, G, q.2, ?_, _, _, rfl, ?_⟩)
    · have h2 := dsum_len ((trades rows t i).take j)
      have h3 : ((trades rows t i).take j).length ≤ _ := List.length_take_le' _ _
      have h4 := trades_len hok t i
      have h5 : (encI (dsum ((trades rows t i).take j))).length = (dsum ((trades rows t i).take j)).length := List.length_map ..
      omega
    · rw [q.1, e1]
      rfl
  · rintro ρ1 G1 ⟨a5, a6, rfl, rfl⟩
    refine ⟨a5, a6, rfl, ?_⟩
    rw [List.length_map, List.take_length]
  obtain ⟨a5, a6, rfl, rfl⟩ := q
  refine xss_at (xs_setLcD 7 (ds := (foundM rows t).map fun (k : Nat) => PyData.int k) (lm_filL (ordersM rows) (fun (k : Nat) => PyData.int k) (fun (k : Nat) => PyData.int k) (fun k => decide ((k : Int) < t) && !decide ((k : Int) ∈ goneM rows t)) (fun k => [some (rowsV rows), some (intV t), some (intV i), some (.d (.list ((goneM rows t).map PyData.int))), some (.a l), some (intV k), a6, none, none]) scOpen.nd
    (xd_call T2 (hr.mono (by decide)) (xad_cons (xd_name 0) xa_nil) fun G Φ q => ⟨rows, rfl, hok, q⟩)
    (blkOk_by (own := [("_law_n", 5)]) (N := NOpen) (sc := defScope sOpen) (by decide +kernel)) (fun _ _ _ _ _ => pg_name (i := 5) scOpen.nd rfl (Or.inl rfl)) (by decide) (Nat.le_trans (ords_len rows) (by omega)) (fun x _ => rg_name)
    (fun k hk z G => xti_and (xb_lt (xd_name 5) (xd_name 1) rfl G) fun _ => xb_niI (xd_name 5) (xd_name 3) rfl rfl G) (fun k hk h z => xd_name 5))) ?_
  refine xss_one (xs_ret (R.lose (xp_give ((xi_filL (foundM rows t) (fun (k : Nat) => PyData.int k) (fun (k : Nat) => PyData.int k) (fun k => decide (sumOf (trades rows t i) k < (match rows[k]? with | some r => Rec.sizeOf r | none => 0))) (fun k => [some (rowsV rows), some (intV t), some (intV i), some (.d (.list ((goneM rows t).map PyData.int))), some (.a l), some (intV k), a6, some (.d (.list ((foundM rows t).map fun (k : Nat) => PyData.int k))), none]) scOpen.nd
    (xd_name 7) (blkOk_by (own := [("_law_n", 5)]) (N := NOpen) (sc := defScope sOpen) (by decide +kernel)) (fun _ _ _ _ _ => pg_name (i := 5) scOpen.nd rfl (Or.inl rfl)) (by decide) (Nat.le_trans (found_len rows t) (by omega)) (fun x _ => rg_name)
    (fun k hk z => ?_) (fun k hk h z => (xd_name 5).g)).imp fun y G2 q => ?_))))
  · obtain ⟨m, sd, p, zz, fs, hn⟩ := ord_is (found_ord hk)
    refine xti_gt (s := zz) (t := sumOf (trades rows t i) k) ((xd_ixT (i := 4) (ds := [.str "order", .str m, .str sd, .int p, .int zz, .tuple (fs.map filD)]) (xd_ixL (xd_name 0) (xd_name 5) (at_map rowD hn)) xd_int rfl).g) (xp_dget2 (k := .inl (k : Int)) (y := intV 0) hu (xd_name 4) (xd_name 5) xd_int List.mem_cons_self ⟨look_sum _ _, rfl⟩) ?_
    rw [hn]
    rfl
  · obtain ⟨l2, e1, e2⟩ := q
    exact ⟨l2, _, _, e1, e2, _, _, rfl, hq⟩
end
end K5

set_option Elab.async false
set_option linter.all false
set_option maxRecDepth 100000
set_option maxHeartbeats 8000000
namespace K5
open PySem PySem.Spec L2 Fsh Rec
abbrev sRdr : Stmt := topG 29
abbrev sDraw : Stmt := topG 30
abbrev NRdr : List Str := ["_law_script"]
abbrev NDraw : List Str := ["_law_reader_here", "_law_many", "_law_calls", "_law_figure", "_law_spot", "_law_cells", "_law_cell", "_law_once"]
theorem scRdr : FnScope NRdr ["_law_script"] (defScope sRdr) := ⟨rfl, rfl, rfl, by decide +kernel, rfl, by decide +kernel, by decide +kernel⟩
theorem scDraw : FnScope NDraw ["_law_reader_here", "_law_many"] (defScope sDraw) := ⟨rfl, rfl, rfl, by decide +kernel, rfl, by decide +kernel, by decide +kernel⟩
def rdC (c : Addr) (sp rs cl : Int) : List (Key × DV) := [(.inr "cells", .a c), (.inr "spot", intV sp), (.inr "rest", intV rs), (.inr "calls", intV cl)]
def rdG (c : Addr) (cs : List Int) (r : Addr) (sp rs cl : Int) : Store := [(c, .lst (cs.map PyData.int)), (r, .dct (rdC c sp rs cl))]
/-- the reader, after n draws at most -/
def Rd (n : Int) (r : Addr) (G : Store) : Prop := ∃ c cs sp rs cl, G = rdG c cs r sp rs cl ∧ cs.length ≤ 63 ∧ 0 ≤ sp ∧ 0 ≤ rs ∧ 0 ≤ cl ∧ cl ≤ n
def zRdr : Fsh.Spec := fun xs G Φ => ∃ cs : List Int, xs = [.d (.list (cs.map PyData.int))] ∧ cs.length ≤ 63 ∧ ∀ r Gr, Rd 0 r Gr → Φ (.a r) (Gr ++ G)
def zDraw : Fsh.Spec := fun xs G Φ => ∃ r n m Gr G', xs = [.a r, intV m] ∧ G = Gr ++ G' ∧ Rd n r Gr ∧ n < 1000000 ∧ 0 < m ∧ m < 1073741824 ∧ ∀ i Gr', 0 ≤ i → i < m → Rd (n + 1) r Gr' → Φ (intV i) (Gr' ++ G')
theorem noLs_ints : ∀ ns : List Int, noLs (ns.map PyData.int) = true
  | [] => rfl
  | n :: ns => by
    rw [List.map_cons]
    have := noLs_ints ns
    unfold noLs
    rw [this]
    rfl
theorem Rd.noL {n : Int} {r : Addr} {G : Store} (h : Rd n r G) : ∀ p ∈ G, noLc p.2 = true := by
  obtain ⟨c, cs, sp, rs, cl, rfl, _⟩ := h
  intro p hp
  simp only [rdG, List.mem_cons, List.not_mem_nil, or_false] at hp
  rcases hp with e | e <;> subst e
  · exact noLs_ints cs
  · rfl
theorem Rd.mono {n m : Int} {r : Addr} {G : Store} (h : Rd n r G) (l : n ≤ m) : Rd m r G := by
  obtain ⟨c, cs, sp, rs, cl, h1, h2, h3, h4, h5, h6⟩ := h
  exact ⟨c, cs, sp, rs, cl, h1, h2, h3, h4, h5, Int.le_trans h6 l⟩
theorem rd_look (cs : Addr) (sp rs cl : Int) : look (rdC cs sp rs cl) (.inr "cells") = some (.a cs) ∧ look (rdC cs sp rs cl) (.inr "spot") = some (intV sp) ∧ look (rdC cs sp rs cl) (.inr "rest") = some (intV rs) ∧ look (rdC cs sp rs cl) (.inr "calls") = some (intV cl) := by
  refine ⟨rfl, rfl, rfl, rfl⟩
theorem rd_put (cs : Addr) (sp rs cl n : Int) : putD (rdC cs sp rs cl) (.inr "spot") (intV n) = rdC cs n rs cl ∧ putD (rdC cs sp rs cl) (.inr "rest") (intV n) = rdC cs sp n cl ∧ putD (rdC cs sp rs cl) (.inr "calls") (intV n) = rdC cs sp rs n := by
  refine ⟨rfl, rfl, rfl⟩
section
variable {P : Program} {w : World} {K : PySem.W.Frag} {mg : Str → Option Value} {base : Heap}
theorem f_rdr {f : Addr} {fd : FuncData} (F1 : Fun K "_law_reader" "_law_reader" sRdr f fd) (hm : mg "_law_reader" = some (.ref f)) (B : Bn mg) : Fn P w K mg base 1 "_law_reader" ["_law_script"] zRdr := by
  refine fn_rule F1 scRdr (F1.binds fun _ _ _ _ _ _ us hl => match us, hl with | [_], _ => rfl) hm (fun xs G Φ h => by obtain ⟨o, rfl, _⟩ := h; rfl) fun cdv A outer s H E hr xs G Φ hz => ?_
  obtain ⟨cs, rfl, hl, hq⟩ := hz
  have e : cutD (cs.map PyData.int) none (some 63) = cs.map PyData.int := by
    have h1 := cut_take PyData.int cs 63
    rw [List.take_of_length_le hl] at h1
    exact h1
  exact xss_one (xs_ret (xp_dispL (kvs := [(.inr "spot", intV 0), (.inr "rest", intV 0), (.inr "calls", intV 0)]) (xl_listL B (Xl.data (Xl.cast (xl_sl (l := none) (h := some 63) (xd_name 0) po_none ro_none po_x (ro_x xd_int)) e))) (.cons xd_int (.cons xd_int (.cons xd_int .nil))) (by decide) (fun c => rfl) fun l c => hq l _ ⟨c, cs, 0, 0, 0, rfl, hl, by decide, by decide, by decide, by decide⟩))
end
end K5

set_option Elab.async false
set_option linter.all false
set_option maxRecDepth 100000
set_option maxHeartbeats 8000000
namespace K5
open PySem PySem.Spec L2 Fsh Rec
section
variable {P : Program} {w : World} {K : PySem.W.Frag} {mg : Str → Option Value} {base : Heap}
theorem xs_rdput {X : Cx} {a o e : Expr} {ρ : Fsh.Env} {pos pos' : Pos} {Φ : Pst} {c r : Addr} {cs : List Int} {k : Key} {x : DV} {s1 r1 c1 s2 r2 c2 : Int} {G' : Store} (he : putD (rdC c s1 r1 c1) k x = rdC c s2 r2 c2) (hu : X.A.units + 1 < cLine) (hv : Xi X a ρ (rdG c cs r s1 r1 c1 ++ G') x) (ho : Xd X o ρ (.a r)) (hi : Xd X e ρ (keyD k))
    (hs : swapsWith a (some (.Subscript o e pos')) pos.line X.env = pure false := by rfl) : Xs X (.Assign [.Subscript o e pos'] a pos) ρ (rdG c cs r s1 r1 c1 ++ G') (At ρ (rdG c cs r s2 r2 c2 ++ G')) Φ := by
  have h := xs_dputI (Φ := Φ) (pos := pos) (G1 := [(c, .lst (cs.map PyData.int))]) (kvs := rdC c s1 r1 c1) (G2 := G') hu hv ho hi (by show 4 ≤ 100000; decide) hs
  rw [he] at h
  exact h
theorem f_draw {f : Addr} {fd : FuncData} (F1 : Fun K "_law_draw" "_law_draw" sDraw f fd) (hm : mg "_law_draw" = some (.ref f)) (B : Bn mg) : Fn P w K mg base 1 "_law_draw" ["_law_reader_here", "_law_many"] zDraw := by
  refine fn_rule F1 scDraw (F1.binds fun _ _ _ _ _ _ us hl => match us, hl with | [_, _], _ => rfl) hm (fun xs G Φ h => by obtain ⟨_, _, _, _, _, rfl, _⟩ := h; rfl) fun cdv A outer s H E hr xs G Φ hz => ?_
  obtain ⟨r, n, m, Gr, G', rfl, rfl, ⟨c, cs, sp, rs, cl, rfl, hcs, hsp, hrs, hcl, hcn⟩, hn, hm0, hm1, hq⟩ := hz
  have cm : ∀ a b d : Int, (c, Cell.lst (cs.map PyData.int)) ∈ rdG c cs r a b d ++ G' := fun a b d => List.mem_cons_self
  have rm : ∀ a b d : Int, (r, Cell.dct (rdC c a b d)) ∈ rdG c cs r a b d ++ G' := fun a b d => List.mem_cons_of_mem _ List.mem_cons_self
  have hu := Nat.lt_of_le_of_lt (Nat.add_le_add_left (by decide : 1 ≤ 64) _) hr.units
  have hmn : m ≠ 0 := by omega
  have hdv : CDivN rs m := ⟨hmn, by omega⟩
  refine xss_at (xs_setI 2 (y := intV (cl + 1)) (xi_add (xi_dget (k := .inr "calls") hu (xd_name 0) xd_str (rm _ _ _) (rd_look c sp rs cl).2.2.2) xd_int.g) scDraw.nd) ?_
  refine xss_at (xs_rdput (rd_put c sp rs cl (cl + 1)).2.2 (k := .inr "calls") hu (xd_name 2).g (xd_name 0) xd_str) ?_
  have fin : ∀ (i sp' rs' : Int), 0 ≤ i → i < m → 0 ≤ sp' → 0 ≤ rs' → Φ (intV i) (rdG c cs r sp' rs' (cl + 1) ++ G') := fun i sp' rs' h1 h2 h3 h4 => hq i _ h1 h2 ⟨c, cs, sp', rs', cl + 1, rfl, hcs, h3, h4, by omega, by omega⟩
  refine xss_at (xs_ifI (t := decide (0 < rs)) (xti_gt (xi_dget (k := .inr "rest") hu (xd_name 0) xd_str (rm _ _ _) (rd_look c sp rs (cl + 1)).2.2.1) xd_int.g rfl) (fun hd => ?_) fun hd => xss_nil ⟨rfl, rfl⟩) ?_
  · refine xss_at (xs_setI 3 (y := intV (rs.fmod m)) (xi_mod (xi_int B (xi_dget (k := .inr "rest") hu (xd_name 0) xd_str (rm _ _ _) (rd_look c sp rs (cl + 1)).2.2.1)) (xd_name 1).g hmn) scDraw.nd) ?_
    refine xss_at (xs_rdput (rd_put c sp rs (cl + 1) (rs.fdiv m)).2.1 (k := .inr "rest") hu (xi_fdiv (xi_dget (k := .inr "rest") hu (xd_name 0) xd_str (rm _ _ _) (rd_look c sp rs (cl + 1)).2.2.1) (xd_name 1).g hdv) (xd_name 0) xd_str) ?_
    exact xss_one (xs_ret (Xd.to (xd_name 3) (fin _ _ _ (Int.fmod_nonneg_of_pos _ hm0) (Int.fmod_lt_of_pos _ hm0) hsp (Int.fdiv_nonneg hrs (by omega)))))
  · refine xss_at (xs_setI 4 (y := intV sp) (xi_dget (k := .inr "spot") hu (xd_name 0) xd_str (rm _ _ _) (rd_look c sp rs (cl + 1)).2.1) scDraw.nd) ?_
    refine xss_at (xs_rdput (rd_put c sp rs (cl + 1) (sp + 1)).1 (k := .inr "spot") (x := intV (sp + 1)) hu (xd_add (xd_name 4) xd_int).g (xd_name 0) xd_str) ?_
    refine xss_at (xs_setI 5 (y := .a c) (xi_dget (k := .inr "cells") hu (xd_name 0) xd_str (rm _ _ _) (rd_look c (sp + 1) rs (cl + 1)).1) scDraw.nd) ?_
    refine xss_cons (M := fun ρ' G2 => ∃ cv, ρ' = [some (.a r), some (intV m), some (intV (cl + 1)), none, some (intV sp), some (.a c), some (intV cv), none] ∧ G2 = rdG c cs r (sp + 1) rs (cl + 1) ++ G')
      (xs_set 6 (Φe := fun y G2 => ∃ cv, y = intV cv ∧ G2 = rdG c cs r (sp + 1) rs (cl + 1) ++ G') (xp_if (Φc := IsT (decide ((0 : Int) < ((cs.map PyData.int).length : Nat))) (rdG c cs r (sp + 1) rs (cl + 1) ++ G')) (xti_gt (xi_lenC B (xd_name 5) (cm _ _ _)) xd_int.g rfl) (fun G1 hd => ?_) fun G1 hd => by rw [hd.2]; exact Xd.to xd_int ⟨_, rfl, rfl⟩) (fun y G2 q => by obtain ⟨cv, e1, e2⟩ := q; exact ⟨cv, by rw [e1]; rfl, e2⟩) scDraw.nd) fun ρ' G2 q => ?_
    · have hl : (0 : Int) < ((cs.map PyData.int).length : Nat) := of_decide_eq_true hd.1.symm
      have h1 := Int.fmod_nonneg_of_pos sp hl
      have h2 := Int.fmod_lt_of_pos sp hl
      obtain ⟨cv, hcv⟩ : ∃ cv, cs[(sp.fmod ((cs.map PyData.int).length : Nat)).toNat]? = some cv := ⟨_, List.getElem?_eq_getElem (by rw [List.length_map] at *; omega)⟩
      have h3 := at_map PyData.int hcv
      rw [Int.toNat_of_nonneg h1] at h3
      rw [hd.2]
      exact Xi.to (xi_ixC (xd_name 5) (xi_mod (xd_intc B (xd_name 4)).g (xi_lenC B (xd_name 5) (cm _ _ _)) (by omega)) (cm _ _ _) h3) ⟨cv, rfl, rfl⟩
    · obtain ⟨cv, rfl, rfl⟩ := q
      refine xss_at (xs_ifI (t := decide (sp < ((cs.map PyData.int).length : Nat)) && decide ((10 : Int) ^ (18 : Int).toNat ≤ cv)) (xti_and (xti_lt (xd_name 4).g (xi_lenC B (xd_name 5) (cm _ _ _)) rfl) fun _ => xti_ge (xd_name 6).g (xd_pow xd_int xd_int ⟨by decide, by decide, by decide⟩).g rfl) (fun hd => ?_) fun hd => xss_nil ⟨rfl, rfl⟩) ?_
      · rw [Bool.and_eq_true] at hd
        have hc0 : 0 ≤ cv := Int.le_trans (by decide) (of_decide_eq_true hd.2)
        refine xss_at (xs_rdput (rd_put c (sp + 1) rs (cl + 1) (cv.fdiv m)).2.1 (k := .inr "rest") hu (xd_fdiv (xd_name 6) (xd_name 1) ⟨hmn, hdv.2⟩).g (xd_name 0) xd_str) ?_
        exact xss_one (xs_ret (Xd.to (xd_mod (xd_intc B (xd_name 6)) (xd_name 1) hmn) (fin _ _ _ (Int.fmod_nonneg_of_pos _ hm0) (Int.fmod_lt_of_pos _ hm0) (by omega) (Int.fdiv_nonneg hc0 (by omega)))))
      · have h1 := Int.fmod_nonneg_of_pos cv (show (0 : Int) < 2147483629 by decide)
        have h2 := Int.fmod_lt_of_pos cv (show (0 : Int) < 2147483629 by decide)
        refine xss_at (xs_setD 7 (y := intV _) (xd_mod (xd_intc B (xd_pow (xd_add (xd_add (xd_mod (xd_intc B (xd_name 6)) xd_int (by decide)) (xd_mul xd_int (xd_name 2) (.inl (by decide)))) xd_int) xd_int ⟨by decide, by decide, ?_⟩)) xd_int (by decide)) scDraw.nd) ?_
        · have : 6131 * (cl + 1) < 6131 * 1000001 := by omega
          omega
        · have h3 := Int.fmod_nonneg_of_pos ((cv.fmod 2147483629 + 6131 * (cl + 1) + 37) ^ (5 : Int).toNat) (show (0 : Int) < 2147483647 by decide)
          have h4 := Int.fmod_lt_of_pos ((cv.fmod 2147483629 + 6131 * (cl + 1) + 37) ^ (5 : Int).toNat) (show (0 : Int) < 2147483647 by decide)
          have h5 : 0 ≤ 4177 * (cl + 1) * (cl + 1) := Int.mul_nonneg (by omega) (by omega)
          have h6 : 4177 * (cl + 1) * (cl + 1) ≤ 4177 * 1000001 * 1000001 := Int.mul_le_mul (by omega) (by omega) (by omega) (by decide)
          refine xss_one (xs_ret (Xd.to (xd_mod (xd_intc B (xd_fdiv (xd_mod (xd_intc B (xd_pow (xd_add (xd_name 7) (xd_mul (xd_mul xd_int (xd_name 2) (.inl (by decide))) (xd_name 2) (.inr (by omega)))) xd_int ⟨by decide, by decide, ?_⟩)) xd_int (by decide)) xd_int ⟨by decide, by decide⟩)) (xd_name 1) hmn) (fin _ _ _ (Int.fmod_nonneg_of_pos _ hm0) (Int.fmod_lt_of_pos _ hm0) (by omega) hrs)))
          omega
end
end K5

set_option Elab.async false
set_option linter.all false
set_option maxRecDepth 100000
set_option maxHeartbeats 8000000
namespace K5
open PySem PySem.Spec L2 Fsh Rec
theorem cut_sub {α : Type} (f : α → PyData) (xs : List α) (l h : Option Int) : ∃ ys : List α, cutD (xs.map f) l h = ys.map f ∧ (∀ y ∈ ys, y ∈ xs) ∧ ys.length ≤ xs.length := by
  unfold cutD
  rw [← List.map_drop, ← List.map_take]
  refine ⟨_, rfl, fun y hy => List.mem_of_mem_drop (List.mem_of_mem_take hy), ?_⟩
  rw [List.length_take, List.length_drop]
  omega
section
variable {P : Program} {w : World} {K : PySem.W.Frag} {mg : Str → Option Value} {base : Heap}
theorem f_shut {f : Addr} {fd : FuncData} (F1 : Fun K "_law_is_shut" "_law_is_shut" sShut f fd) (hm : mg "_law_is_shut" = some (.ref f)) (B : Bn mg) : Fn P w K mg base 1 "_law_is_shut" ["_law_rows", "_law_t"] zShut := by
  refine fn_rule F1 scShut (F1.binds fun _ _ _ _ _ _ us hl => match us, hl with | [_, _], _ => rfl) hm (fun xs G Φ h => by obtain ⟨_, rfl, _⟩ := h; rfl) fun cdv A outer s H E hr xs G Φ hz => ?_
  obtain ⟨rows, rfl, hok, hq⟩ := hz
  have hu := hr.units
  refine xss_one (xs_ret (xp_and (Φa := fun y G2 => y = .d (.bool (decide ((0 : Int) < rows.length))) ∧ G2 = G) (Xd.to (xv_gt (xd_name 1) xd_int rfl) ⟨_, rfl, rfl, rfl⟩) (fun G1 q => ?_) fun G1 q => by rw [q.2]; exact hq false))
  have e2 := q.2
  subst e2
  have hp : (0 : Int) < rows.length := by
    have e1 := q.1
    injection e1 with e1
    injection e1 with e1
    exact of_decide_eq_true e1.symm
  obtain ⟨r, hr0⟩ : ∃ r, rows[0]? = some r := ⟨_, List.getElem?_eq_getElem (by omega)⟩
  have hrk := hok.2 r (List.mem_of_getElem? hr0)
  obtain ⟨ys, ey, hy, hyl⟩ := cut_sub rowD rows (some 1) (some (rows.length : Int))
  have n1 : Nice 3 200000 (.tuple [.str "closed"]) := nice_row (r := .closed) True.intro
  refine xp_and (Φa := fun y G2 => G2 = G1) (Xd.to (xv_eqd hu (xd_ixL (xd_name 0) xd_int (at_map rowD hr0)) (xd_tup (ds := [.str "closed"]) (xad_cons xd_str xa_nil)) ((nice_row hrk).shaped (by decide)) (n1.shaped (by decide)) rfl) ⟨_, rfl, rfl⟩) (fun G2 q2 => ?_) fun G2 q2 => by rw [q2]; exact hq false
  rw [q2]
  refine xp_one (Xd.to (xv_eqd hu (Xl.data (xl_filL ys rowD rowD isCall (fun r => [some (rowsV rows), some (intV rows.length), some (.d (rowD r))]) scShut.nd (Xl.data (Xl.cast (xl_sl (l := some 1) (h := some (rows.length : Int)) (xd_name 0) po_x (ro_x xd_int) po_x (ro_x (xd_name 1))) ey))
    (blkOk_by (own := [("_law_row", 2)]) (N := NShut) (sc := defScope sShut) (by decide +kernel)) (fun _ _ _ _ _ => pg_name (i := 2) scShut.nd rfl (Or.inl rfl)) (by decide) (by have := hok.1; omega) (fun x _ => rg_name)
    (fun r hr z => xb_tag (xd_name 2) fun tag ds e => tag_call e) (fun r hr h z => xd_name 2))) (Xl.data (xl_lst (ds := []) xa_nil)) ?_ ((nice_rows (rows := []) (by decide) (fun r h => by cases h)).2.shaped (by decide)) rfl) (hq _))
  refine (nice_rows (rows := ys.filter isCall) ?_ fun r h => hok.2 r (hy r (List.mem_filter.mp h).1)).2.shaped (by decide)
  exact Nat.le_trans (List.length_filter_le _ _) (Nat.le_trans hyl hok.1)
end
end K5

set_option Elab.async false
set_option linter.all false
set_option maxRecDepth 100000
set_option maxHeartbeats 2000000
namespace Fsh
open PySem PySem.Spec L2
section
variable {X : Cx} {e a b : Expr} {ρ : Fsh.Env} {G : Store} {Φ : Pst} {pos : Pos}
theorem x_binL {op : Operator} {r : R2} {y : DV} {Φa : Pst} (ho : OpR X (binaryOp op) r) (ha : Xp X a ρ G Φa) (hb : Xd X b ρ y) (hr : ∀ x G2, Φa x G2 → Op X.K r x y G2 Φ) : Xp X (.BinOp a op b pos) ρ G Φ :=
  x_bin (Φb := fun x z G2 => z = y ∧ Φa x G2) ho ha (fun x G1 q => Xd.to hb ⟨rfl, q⟩) fun x G1 z G2 q1 q2 => by rw [q2.1]; exact hr x G2 q2.2
theorem xs_imp {st : Stmt} {N N1 : Fsh.Env → Store → Prop} (h : Xs X st ρ G N1 Φ) (q : ∀ ρ' G', N1 ρ' G' → N ρ' G') : Xs X st ρ G N Φ := RS.imp h q
theorem xs_par (i j : Nat) {x y : Str} {px py pt pt2 : Pos} {kt k2 : Nat} {N : Fsh.Env → Store → Prop} {Φl : List DV → Store → Prop} (h : Xa X [a, b] ρ G Φl) (hg : ∀ xs G2, Φl xs G2 → ∃ x y, xs = [x, y] ∧ N ((ρ.set i (some x)).set j (some y)) G2) (hN : X.N.Nodup) (hc : X.calm = true := by rfl) (hi : X.N[i]? = some x := by rfl) (hj : X.N[j]? = some y := by rfl) (hij : i ≠ j := by decide)
    (hx : X.env.scope.names.lookup x = some .local := by rfl) (hy : X.env.scope.names.lookup y = some .local := by rfl) (hw : swappedStores [.Tuple [.Name x px, .Name y py] kt pt] (.Tuple [a, b] k2 pt2) X.env = pure (some [x, y]) := by rfl)
    (hs : swapsWithSole [.Tuple [.Name x px, .Name y py] kt pt] (.Tuple [a, b] k2 pt2) pos.line X.env = pure false := by rfl) : Xs X (.Assign [.Tuple [.Name x px, .Name y py] kt pt] (.Tuple [a, b] k2 pt2) pos) ρ G N Φ :=
  xs_of (ps_par hc hN hi hj hij hx hy pa_tw hw hs) (rs_par h hg)
/-- two arguments, both with a choice -/
theorem xa_two {Φa : Pst} {Φl : List DV → Store → Prop} (ha : Xp X a ρ G Φa) (hb : ∀ x G1, Φa x G1 → Xp X b ρ G1 fun y G2 => Φl [x, y] G2) (hs : starEach [a, b] X.env = (false, eval a X.env) :: starEach [b] X.env := by rfl) (hs2 : starEach [b] X.env = (false, eval b X.env) :: starEach [] X.env := by rfl) : Xa X [a, b] ρ G Φl :=
  xa_cons (Φr := fun x ys G2 => Φl (x :: ys) G2) ha (fun x G1 q => xa_last (hb x G1 q) (fun y G2 z => z) hs2) (fun x G1 xs G2 q1 q2 => q2) hs
theorem thaw_at {l : Addr} {xs : List PyData} {i : Nat} (h : ρ[i]? = some (some (.a l))) : (thawE l xs ρ)[i]? = some (some (.d (.list xs))) := by
  unfold thawE
  rw [List.getElem?_map, h]
  show some (if l = l then some (DV.d (.list xs)) else some (.a l)) = _
  rw [if_pos rfl]
theorem eqv_nil (ds : List PyData) : PyData.eqv (.list ds) (.list []) = ds.isEmpty := by
  cases ds <;> simp [PyData.eqv, PyData.eqvAll]
end
end Fsh
namespace K5
open PySem PySem.Spec L2 Fsh Rec
abbrev sNew : Stmt := topG 41
abbrev NNew : List Str := ["_law_reader_here", "_law_rows", "_law_most", "_law_left", "_law_side", "_law_limit", "_law_found", "_law_t", "_law_k", "_law_late", "_law_n", "_law_there", "_law_one", "_law_used", "_law_room", "_law_price"]
theorem scNew : FnScope NNew ["_law_reader_here", "_law_rows", "_law_most", "_law_left", "_law_side", "_law_limit"] (defScope sNew) := ⟨rfl, rfl, rfl, by decide +kernel, rfl, by decide +kernel, by decide +kernel⟩
def sideD : Option Str → PyData
  | none => .none
  | some s => .str s
/-- n names an order of the rows -/
def ordAt (rows : List RowM) (n : Int) : Prop := ∃ (k : Nat) (m s : Str) (p z : Int) (fs : List Fil), n = (k : Int) ∧ rows[k]? = some (.order m s p z fs)
def goodF (rows : List RowM) (f : Fil) : Prop := 0 < f.2.1 ∧ ∀ n, f.2.2 = some n → ordAt rows n
def zNew : Fsh.Spec := fun xs G Φ => ∃ (r : Addr) (n : Int) (rows : List RowM) (most left limit : Int) (side : Option Str) (Gr G' : Store), xs = [.a r, rowsV rows, intV most, intV left, .d (sideD side), intV limit] ∧ G = Gr ++ G' ∧ Rd n r Gr ∧ n < 900000 ∧ okRs rows ∧ rows.length ≤ 30 ∧ 0 ≤ most ∧ most ≤ 5 ∧ 0 ≤ limit ∧ limit ≤ 1000 ∧
  ∀ fs Gr', okFs fs → (∀ f ∈ fs, goodF rows f) → Rd (n + 100) r Gr' → Φ (.d (.tuple (fs.map filD))) (Gr' ++ G')
theorem lil_of {n : Int} (h1 : -100000 ≤ n) (h2 : n ≤ 100000) : lil n := by
  unfold lil
  have h : n.natAbs < 2 ^ 200 := Nat.lt_of_lt_of_le (show n.natAbs < 100001 by omega) (by decide)
  by_cases z : n.natAbs = 0
  · rw [z]
    decide
  · exact (Nat.log2_lt z).mpr h
section
variable {P : Program} {w : World} {K : PySem.W.Frag} {mg : Str → Option Value} {base : Heap}
section
variable {X : Cx} {e e2 : Expr} {ρ : Fsh.Env} {Φ : Pst} {pos p : Pos} {k : Nat}
/-- a draw, the reader anywhere in the store -/
theorem xp_draw {G1 Gr G2 : Store} {r : Addr} {n m : Int} (Fx : Fn X.prog X.w X.K X.mg X.base k "_law_draw" ["_law_reader_here", "_law_many"] zDraw) (hr : Room k X.A) (hc : Rd n r Gr) (hn : n < 1000000) (h0 : 0 < m) (h1 : m < 1073741824) (ha : Xa X [e, e2] ρ (G1 ++ (Gr ++ G2)) (IsA [.a r, intV m] (G1 ++ (Gr ++ G2))))
    (h : ∀ i Gr', 0 ≤ i → i < m → Rd (n + 1) r Gr' → Φ (intV i) (G1 ++ (Gr' ++ G2))) (hg : Gl X "_law_draw" := by rfl)
    (hst : starEach [e, e2] X.env = (false, eval e X.env) :: starEach [e2] X.env := by rfl) (hpl : (backTo pos (starEach [e2] X.env)).any (·.1) = false := by rfl) : Xp X (.Call (.Name "_law_draw" p) [e, e2] [] pos) ρ (G1 ++ (Gr ++ G2)) Φ :=
  xp_call Fx hr ha (fun xs G' q => ⟨G1, Gr ++ G2, q.2, r, n, m, Gr, G2, q.1, rfl, hc, hn, h0, h1, h⟩) hg (by decide) hst hpl
end
def ordSide : RowM → Str
  | .order _ s _ _ _ => s
  | _ => u ""
def ordPrice : RowM → Int
  | .order _ _ p _ _ => p
  | _ => 0
def at_ (rows : List RowM) (k : Nat) : RowM := rows[k]?.getD .closed
theorem late_ok {rows : List RowM} (h : okRs rows) (hl : rows.length ≤ 30) {fs : List Fil} (hf : okFs fs) : okRs (rows ++ [.prints fs]) := by
  refine ⟨by rw [List.length_append]; show rows.length + 1 ≤ 40; omega, fun r hr => ?_⟩
  rcases List.mem_append.mp hr with hr | hr
  · exact h.2 r hr
  · rw [List.mem_singleton] at hr
    subst hr
    exact hf
/-- an open order of the rows so far, seen from the row behind them -/
theorem open_late {rows : List RowM} {fs : List Fil} {i : Int} {k : Nat} (h : k ∈ openM (rows ++ [.prints fs]) rows.length i) : (∃ m s p z fs', rows[k]? = some (.order m s p z fs') ∧ (rows ++ [.prints fs])[k]? = some (.order m s p z fs')) := by
  obtain ⟨⟨m, s, p, z, fs', e⟩, h2, _⟩ := open_is h
  have h3 : k < rows.length := by omega
  rw [List.getElem?_append_left h3] at e
  exact ⟨m, s, p, z, fs', e, by rw [List.getElem?_append_left h3]; exact e⟩
theorem xd_row {X : Cx} {a b : Expr} {ρ : Fsh.Env} {pos p2 p3 : Pos} {rows : List RowM} {k : Nat} {m s : Str} {p z : Int} {fs : List Fil} {i : Int} {j : Nat} {d : PyData} (ha : Xd X a ρ (rowsV rows)) (hb : Xd X b ρ (intV k)) (h : rows[k]? = some (.order m s p z fs)) (hi : atI [.str "order", .str m, .str s, .int p, .int z, .tuple (fs.map filD)] i = some d) (hs : PlainIx b := by exact fun _ _ => rfl) : Xd X (.Subscript (.Subscript a b p2) (.Constant (.int i) j p3) pos) ρ (.d d) :=
  xd_ixT (ds := [.str "order", .str m, .str s, .int p, .int z, .tuple (fs.map filD)]) (xd_ixL ha hb (at_map rowD h) hs) xd_int hi
abbrev eN (r : Addr) (rows : List RowM) (most left : Int) (side : Option Str) (limit : Int) (l : Addr) (t8 t9 t10 t11 t12 t13 t14 t15 : Option DV) : Fsh.Env := [some (.a r), some (rowsV rows), some (intV most), some (intV left), some (.d (sideD side)), some (intV limit), some (.a l), some (intV rows.length), t8, t9, t10, t11, t12, t13, t14, t15]
theorem shaped_ints (ks : List Nat) : SeqAt.shaped (.list (ks.map fun (k : Nat) => PyData.int k)) = true := by
  have h : PyData.canLayAll0 (ks.map fun (k : Nat) => PyData.int k) = true ∧ PyData.depthAll (ks.map fun (k : Nat) => PyData.int k) = 0 := by
    induction ks with
    | nil => exact ⟨by simp only [List.map_nil, PyData.canLayAll0], by simp only [List.map_nil, PyData.depthAll]⟩
    | cons a ks ih => exact ⟨by simp only [List.map_cons, PyData.canLayAll0, ih.1, PyData.canLay0]; rfl, by simp only [List.map_cons, PyData.depthAll, ih.2, PyData.depth]; rfl⟩
  unfold SeqAt.shaped
  simp only [PyData.canLay0, h.1, PyData.depth, h.2]
  decide
abbrev ksV (ks : List Nat) : DV := .d (.list (ks.map fun (k : Nat) => PyData.int k))
abbrev oI (o : Option Nat) : Option Int := o.map Int.ofNat
theorem f_new {f : Addr} {fd : FuncData} (F1 : Fun K "_law_new_fills" "_law_new_fills" sNew f fd) (hm : mg "_law_new_fills" = some (.ref f)) (B : Bn mg) (D : Fn P w K mg base 1 "_law_draw" ["_law_reader_here", "_law_many"] zDraw) (T : Fn P w K mg base 3 "_law_open" ["_law_rows", "_law_t", "_law_i"] zOpen) (T2 : Fn P w K mg base 3 "_law_rest" ["_law_rows", "_law_n", "_law_t", "_law_i"] zRest) : Fn P w K mg base 4 "_law_new_fills" ["_law_reader_here", "_law_rows", "_law_most", "_law_left", "_law_side", "_law_limit"] zNew := by
  refine fn_rule F1 scNew (F1.binds fun _ _ _ _ _ _ us hl => match us, hl with | [_, _, _, _, _, _], _ => rfl) hm (fun xs G Φ h => by obtain ⟨_, _, _, _, _, _, _, _, _, rfl, _⟩ := h; rfl) fun cdv A outer s H E hr xs G Φ hz => ?_
  obtain ⟨r, n, rows, most, left, limit, side, Gr, G', rfl, rfl, hR, hn, hok, hl30, hm0, hm5, hl0, hl1, hq⟩ := hz
  have hD : Room 1 (A.deeper (PyProof.Rows.envOfC (Str.ofString "_law_new_fills") (defScope sNew) s.heap.objs.size f cdv)) := hr.mono (by decide)
  -- found, t
  refine xss_cons (M := fun ρ' G2 => ∃ l, ρ' = eN r rows most left side limit l none none none none none none none none ∧ G2 = (l, .lst []) :: (Gr ++ G')) ?_ fun ρ' G2 q => ?_
  · refine xs_par 6 7 (Φl := fun xs G2 => ∃ l, xs = [.a l, intV rows.length] ∧ G2 = (l, .lst []) :: (Gr ++ G')) (xa_two (Φa := fun y G2 => ∃ l, y = .a l ∧ G2 = (l, .lst []) :: (Gr ++ G')) (xl_lst (ds := []) xa_nil).g (fun y G1 q => ?_)) (fun xs G2 q => ?_) scNew.nd
    · obtain ⟨l, rfl, rfl⟩ := q
      exact Xd.to (Xd.cast (xd_lenL B (xd_name 1)) (by rw [List.length_map])) ⟨l, rfl, rfl⟩
    · obtain ⟨l, rfl, rfl⟩ := q
      exact ⟨_, _, rfl, l, rfl, rfl⟩
  obtain ⟨l, rfl, rfl⟩ := q
  refine xss_cons (M := fun ρ' G2 => ∃ fs Gr' t8 t9 t10 t11 t12 t13 t14 t15, ρ' = eN r rows most left side limit l t8 t9 t10 t11 t12 t13 t14 t15 ∧ G2 = (l, .lst (fs.map filD)) :: (Gr' ++ G') ∧ okFs fs ∧ (∀ f ∈ fs, goodF rows f) ∧ Rd (n + 100) r Gr') ?_ fun ρ' G2 q => ?_
  · refine xs_forR (js := [8]) (Φl := fun xs G2 => ∃ c Gr1, xs = [intV c] ∧ 0 ≤ c ∧ c ≤ most ∧ Rd (n + 1) r Gr1 ∧ G2 = (l, .lst []) :: (Gr1 ++ G'))
      (fun c k ρ1 G1 => c ≤ 5 ∧ ∃ fs Gr1 t8 t9 t10 t11 t12 t13 t14 t15, ρ1 = eN r rows most left side limit l t8 t9 t10 t11 t12 t13 t14 t15 ∧ G1 = (l, .lst (fs.map filD)) :: (Gr1 ++ G') ∧ okFs fs ∧ fs.length ≤ k ∧ Rd (n + 1 + 10 * k) r Gr1 ∧ ∀ f ∈ fs, goodF rows f) PassesOwn.never B.range
      (xa_last (xp_draw (G1 := [(l, .lst [])]) D hD hR (by omega) (m := most + 1) (by omega) (by omega) (xad_cons (xd_name 0) (xad_cons (xd_add (xd_name 2) xd_int) xa_nil)).i (Φ := fun y G2 => ∃ c Gr1, y = intV c ∧ 0 ≤ c ∧ c ≤ most ∧ Rd (n + 1) r Gr1 ∧ G2 = (l, .lst []) :: (Gr1 ++ G')) fun i Gr1 h1 h2 h3 => ⟨i, Gr1, rfl, h1, by omega, h3, rfl⟩) fun x G2 q => by
        obtain ⟨c, Gr1, e1, q⟩ := q
        exact ⟨c, Gr1, by rw [e1], q⟩)
      (pg_name (i := 8) scNew.nd rfl (Or.inl rfl)) ?_ ?_ ?_
    · rintro xs G1 ⟨c, Gr1, rfl, h1, h2, h3, rfl⟩
      exact ⟨c, rfl, by omega, by omega, by omega, [], Gr1, none, none, none, none, none, none, none, none, rfl, rfl, ⟨Nat.zero_le _, fun f h => by cases h⟩, Nat.zero_le _, h3.mono (by omega), fun f h => by cases h⟩
    · rintro c k ρ1 G1 hk ⟨hc5, fs, Gr1, t8, t9, t10, t11, t12, t13, t14, t15, rfl, rfl, hf, hfk, hR1, hfp⟩
      refine ⟨_, rg_name, ?_⟩
      have hN0 : n + 1 + 10 * (k : Int) < 950000 := by omega
      have hlk := late_ok hok hl30 hf
      have hks : k ≤ 5 := by omega
      have fl30 := hf.1
      -- late
      refine xss_at (xs_setI 9 (y := rowsV (rows ++ [RowM.prints fs])) (Xi.cast (xi_cat (xd_name 1).g (xi_lst (ds := [.tuple [.str "prints", .tuple (fs.map filD)]]) (xi_cons (xi_tup (ds := [.str "prints", .tuple (fs.map filD)]) (xi_cons xd_str.g (xi_cons (xi_tupC B (xd_name 6) List.mem_cons_self) (xa_nil _))) (by show 2 ≤ 100000; decide)) (xa_nil _)) (by show 1 ≤ 100000; decide)) ?_) ?_) scNew.nd) ?_
      · rw [List.length_map]
        show rows.length + 1 ≤ 100000
        omega
      · show _ = rowsV _
        unfold rowsV
        rw [List.map_append]
        rfl
      -- there
      refine xss_cons (M := fun ρ' G2 => ∃ ks : List Nat, ρ' = eN r rows most left side limit l (some (intV k)) (some (rowsV (rows ++ [RowM.prints fs]))) t10 (some (ksV ks)) t12 t13 t14 t15 ∧ G2 = (l, .lst (fs.map filD)) :: (Gr1 ++ G') ∧ (∀ kk ∈ ks, kk ∈ openM (rows ++ [RowM.prints fs]) rows.length fs.length) ∧ ks.length ≤ 40) (xs_imp (xs_setLcI 11 (ds := ((openM (rows ++ [RowM.prints fs]) rows.length fs.length).filter fun kk => match side with | none => true | some sd => !decide (ordSide (at_ rows kk) = sd)).map fun (kk : Nat) => PyData.int kk)
        (li_filL _ _ _ _ (fun kk => eN r rows most left side limit l (some (intV k)) (some (rowsV (rows ++ [RowM.prints fs]))) (some (intV kk)) t11 t12 t13 t14 t15) scNew.nd
          (xi_call T (hr.mono (by decide)) (xi_cons (xd_name 9).g (xi_cons (xd_name 7).g (xi_cons (Xi.cast (xi_lenC B (xd_name 6) List.mem_cons_self) (show _ = intV fs.length by rw [List.length_map])) (xa_nil _)))) fun G Φ q => ⟨_, _, _, rfl, hlk, by omega, by omega, by omega, q⟩)
          (blkOk_by (own := [("_law_n", 10)]) (N := NNew) (sc := defScope sNew) (by decide +kernel)) (fun _ _ _ _ _ => pg_name (i := 10) scNew.nd rfl (Or.inl rfl)) (by decide) (Nat.le_trans (open_len _ _ _) (by have := hlk.1; omega)) (fun x _ => rg_name)
          (fun kk hk z => ?_) (fun kk hk h z => (xd_name 10).g))) fun ρ2 G2 q => ⟨_, q.1, q.2, fun kk h => (List.mem_filter.mp h).1, Nat.le_trans (List.length_filter_le _ _) (Nat.le_trans (open_len _ _ _) hlk.1)⟩) fun ρ' G2 q => ?_
      · obtain ⟨m, sd2, p, zz, fs', e1, e2⟩ := open_late hk
        cases side with
        | none => exact xti_or (s := true) (t := true) (Xb.i (xb_isn (xd_name 4) rfl)) fun h => nomatch h
        | some sd =>
          refine xti_or (s := false) (Xb.i (xb_isn (xd_name 4) rfl)) fun _ => Xb.i (xb_nes (xd_row (xd_name 1) (xd_name 10) e1 rfl) (xd_name 4) ?_)
          show (!decide (sd2 = sd)) = (!decide (ordSide (at_ rows kk) = sd))
          unfold at_
          rw [e1]
          rfl
      obtain ⟨ks0, rfl, rfl, hks0, hkl0⟩ := q
      -- by the limit
      refine xss_cons (M := fun ρ' G2 => ∃ ks : List Nat, ρ' = eN r rows most left side limit l (some (intV k)) (some (rowsV (rows ++ [RowM.prints fs]))) t10 (some (ksV ks)) t12 t13 t14 t15 ∧ G2 = (l, .lst (fs.map filD)) :: (Gr1 ++ G') ∧ (∀ kk ∈ ks, kk ∈ openM (rows ++ [RowM.prints fs]) rows.length fs.length) ∧ ks.length ≤ 40)
        (xs_ifD (t := side.isSome) ?_ ?_ ?_) fun ρ' G2 q => ?_
      · exact xb_notn (xd_name 4) (by cases side <;> rfl)
      rotate_left
      · intro h; exact xss_nil ⟨ks0, rfl, rfl, hks0, hkl0⟩
      rotate_left
      · intro h
        cases side with
        | none => cases h
        | some sd =>
          refine xss_one (xs_imp (xs_setLcI 11 (ds := (ks0.filter fun kk => decide ((ordPrice (at_ rows kk) - limit) * (if sd = u "buy" then 1 else -1) ≤ 0)).map fun (kk : Nat) => PyData.int kk) ?_) fun ρ2 G2 q => ⟨_, q.1, q.2, fun kk h => hks0 kk (List.mem_filter.mp h).1, Nat.le_trans (List.length_filter_le _ _) hkl0⟩)
          refine li_filL _ _ _ _ (fun kk => eN r rows most left (some sd) limit l (some (intV k)) (some (rowsV (rows ++ [RowM.prints fs]))) (some (intV kk)) (some (ksV ks0)) t12 t13 t14 t15) scNew.nd (xd_name 11).g (blkOk_by (own := [("_law_n", 10)]) (N := NNew) (sc := defScope sNew) (by decide +kernel)) (fun _ _ _ _ _ => pg_name (i := 10) scNew.nd rfl (Or.inl rfl)) (by decide) (Nat.le_trans hkl0 (by decide)) (fun x _ => rg_name) (fun kk hk z => ?_) (fun kk hk h z => (xd_name 10).g)
          obtain ⟨m, sd2, p, zz, fs', e1, e2⟩ := open_late (hks0 kk hk)
          have sg : (if sd = u "buy" then (1 : Int) else -1) = 1 ∨ (if sd = u "buy" then (1 : Int) else -1) = -1 := by split <;> simp
          refine Xb.i (xb_le (xd_mul (j := if sd = u "buy" then 1 else -1) (xd_sub (xd_row (xd_name 1) (xd_name 10) e1 rfl) (xd_name 5)) (xd_if (t := decide (sd = u "buy")) (xb_eqs (xd_name 4) xd_str rfl) (fun h => ?_) fun h => ?_) (.inr (by omega))) xd_int ?_)
          · rw [if_pos (of_decide_eq_true h)]
            exact xd_int
          · rw [if_neg (of_decide_eq_false h)]
            exact xd_neg xd_int
          · show decide ((p - limit) * _ ≤ 0) = decide ((ordPrice (at_ rows kk) - limit) * _ ≤ 0)
            unfold at_
            rw [e1]
            rfl
      obtain ⟨ks, rfl, rfl, hks1, hkl1⟩ := q
      -- used
      refine xss_cons (M := fun ρ' G2 => ∃ v : Int, ρ' = eN r rows most left side limit l (some (intV k)) (some (rowsV (rows ++ [RowM.prints fs]))) t10 (some (ksV ks)) t12 (some (intV v)) t14 t15 ∧ G2 = (l, .lst (fs.map filD)) :: (Gr1 ++ G')) (xs_imp (xs_setI 13 (y := intV (left - (fs.map fun f => f.2.1).sum)) ?_ scNew.nd) fun ρ2 G2 q => ⟨left - (fs.map fun f => f.2.1).sum, q.1, q.2⟩) fun ρ' G2 q => ?_
      · refine xi_sub (xd_name 3).g (xi_froz (G1 := []) (y := intV (fs.map fun f => f.2.1).sum) ?_ rfl)
        refine xd_sum B (Xl.data (Xl.cast (y := fs.map fun f => .int f.2.1) ?_ (List.map_map ..).symm))
        refine xl_mapL _ _ _ _ scNew.nd (xd_name 6 (hr := thaw_at rfl)) (blkOk_by (own := [("_law_one", 12)]) (N := NNew) (sc := defScope sNew) (by decide +kernel)) (fun _ _ _ _ _ => pg_name (i := 12) scNew.nd rfl (Or.inl rfl)) (by decide) ?_ (fun x _ => rg_name) (fun f hf z => ?_)
        · omega
        · exact xd_ixT (ds := [.int f.1, .int f.2.1, optD f.2.2]) (xd_name 12) xd_int rfl
      obtain ⟨used, rfl, rfl⟩ := q
      -- whose order
      refine xss_cons (M := fun ρ' G2 => ∃ (o : Option Nat) (Gr2 : Store), ρ' = eN r rows most left side limit l (some (intV k)) (some (rowsV (rows ++ [RowM.prints fs]))) (some (.d (optD (oI o)))) (some (ksV ks)) t12 (some (intV used)) t14 t15 ∧ G2 = (l, .lst (fs.map filD)) :: (Gr2 ++ G') ∧ Rd (n + 1 + 10 * k + 2) r Gr2 ∧ ∀ kk, o = some kk → kk ∈ ks)
        (xs_set 10 (Φe := fun y G2 => ∃ (o : Option Nat) (Gr2 : Store), y = .d (optD (oI o)) ∧ G2 = (l, .lst (fs.map filD)) :: (Gr2 ++ G') ∧ Rd (n + 1 + 10 * k + 2) r Gr2 ∧ ∀ kk, o = some kk → kk ∈ ks) ?_ (fun y G2 q => ?_) scNew.nd) fun ρ' G2 q => ?_
      · refine xp_if (Φc := fun tt G2 => ∃ Gr2, Rd (n + 1 + 10 * k + 1) r Gr2 ∧ G2 = (l, .lst (fs.map filD)) :: (Gr2 ++ G') ∧ (tt = true → ks ≠ [])) (xt_w (xw_and (Φa := fun tt G2 => tt = !ks.isEmpty ∧ G2 = (l, .lst (fs.map filD)) :: (Gr1 ++ G')) ?_ (fun G1 q => xw_one ?_) fun G1 q => ?_)) (fun G1 q => ?_) fun G1 q => ?_
        · refine Xb.to (xb_ned hr.units (xd_name 11) (xl_lst (ds := []) xa_nil).data ?_ ?_ ?_) ⟨rfl, rfl⟩
          · exact shaped_ints ks
          · exact shaped_ints []
          · rw [eqv_nil, List.isEmpty_map]
        · rw [q.2]
          refine xt_gtR (xp_draw (G1 := [(l, .lst (fs.map filD))]) (m := 4) (Φ := fun y G2 => ∃ i Gr2, y = intV i ∧ Rd (n + 1 + 10 * k + 1) r Gr2 ∧ G2 = (l, .lst (fs.map filD)) :: (Gr2 ++ G')) D hD hR1 (by omega) (by decide) (by decide) (Xad.i (xad_cons (xd_name 0) (xad_cons xd_int xa_nil))) fun i Gr2 h1 h2 h3 => ⟨i, Gr2, rfl, h3, rfl⟩) fun y G2 w => ?_
          obtain ⟨i, Gr2, e1, e2, e3⟩ := w
          refine ⟨i, e1, Gr2, e2, e3, fun _ e => ?_⟩
          have := q.1
          rw [e] at this
          cases this
        · refine ⟨Gr1, hR1.mono (by omega), q.2, fun h => nomatch h⟩
        · obtain ⟨Gr2, h1, rfl, h2⟩ := q
          have hne := h2 rfl
          have hp : 0 < ks.length := List.length_pos_iff.mpr hne
          refine xp_ixL (xd_name 11) (xp_draw (G1 := [(l, .lst (fs.map filD))]) (m := ks.length) (Φ := fun y G2 => ∃ (i : Int) (Gr3 : Store), y = intV i ∧ 0 ≤ i ∧ i < ks.length ∧ Rd (n + 1 + 10 * k + 2) r Gr3 ∧ G2 = (l, .lst (fs.map filD)) :: (Gr3 ++ G')) D hD h1 (by omega) (by omega) (by omega) (Xad.i (xad_cons (xd_name 0) (xad_cons (Xd.cast (xd_lenL B (xd_name 11)) (by rw [List.length_map])) xa_nil))) fun i Gr3 h3 h4 h5 => ⟨i, Gr3, rfl, h3, h4, h5.mono (by omega), rfl⟩) fun y G2 w => ?_
          obtain ⟨i, Gr3, e1, h3, h4, h5, e2⟩ := w
          obtain ⟨kk, hkk⟩ : ∃ kk, ks[i.toNat]? = some kk := ⟨_, List.getElem?_eq_getElem (by omega)⟩
          have h6 := at_map (fun (k : Nat) => PyData.int k) hkk
          rw [Int.toNat_of_nonneg h3] at h6
          exact ⟨i, _, e1, h6, some kk, Gr3, rfl, e2, h5, fun k2 e => by rw [← Option.some.inj e]; exact List.mem_of_getElem? hkk⟩
        · obtain ⟨Gr2, h1, e2, h2⟩ := q
          exact Xd.to xd_none ⟨none, Gr2, rfl, e2, h1.mono (by omega), fun k2 e => nomatch e⟩
      · obtain ⟨o, Gr2, e1, e2, e3, e4⟩ := q
        exact ⟨o, Gr2, by rw [e1]; rfl, e2, e3, e4⟩
      obtain ⟨o, Gr2, rfl, rfl, hR2, ho⟩ := q
      -- room
      refine xss_cons (M := fun ρ' G2 => ∃ v : Int, ρ' = eN r rows most left side limit l (some (intV k)) (some (rowsV (rows ++ [RowM.prints fs]))) (some (.d (optD (oI o)))) (some (ksV ks)) t12 (some (intV used)) (some (intV v)) t15 ∧ G2 = (l, .lst (fs.map filD)) :: (Gr2 ++ G'))
        (xs_set 14 (Φe := fun y G2 => ∃ v : Int, y = intV v ∧ G2 = (l, .lst (fs.map filD)) :: (Gr2 ++ G')) ?_ (fun y G2 q => ?_) scNew.nd) fun ρ' G2 q => ?_
      · cases o with
        | none => exact xp_ifD (t := false) (xb_notn (xd_name 10) rfl) (fun h => nomatch h) fun _ => Xd.to (xd_name 13) ⟨used, rfl, rfl⟩
        | some kk =>
          obtain ⟨m, sd2, p, zz, fs', e1, e2⟩ := open_late (hks1 kk (ho kk rfl))
          refine xp_ifD (t := true) (xb_notn (xd_name 10) rfl) (fun _ => ?_) fun h => nomatch h
          refine Xi.to (xi_min (i := used) (j := restM (rows ++ [RowM.prints fs]) kk rows.length fs.length) B (xd_name 13).g ?_) ⟨_, rfl, rfl⟩
          refine xi_call T2 (hr.mono (by decide)) (xi_cons (xd_name 9).g (xi_cons (xd_name 10).g (xi_cons (xd_name 7).g (xi_cons (Xi.cast (xi_lenC B (xd_name 6) List.mem_cons_self) (show _ = intV fs.length by rw [List.length_map])) (xa_nil _))))) fun G Φ q => ?_
          exact ⟨_, kk, _, _, rfl, hlk, by omega, by omega, by omega, ⟨m, sd2, p, zz, fs', e2⟩, q⟩
      · obtain ⟨v, e1, e2⟩ := q
        exact ⟨v, by rw [e1]; rfl, e2⟩
      obtain ⟨v, rfl, rfl⟩ := q
      refine xss_one (xs_ifD (t := decide (0 < v)) ?_ ?_ ?_)
      · exact xb_gt (xd_name 14) xd_int rfl
      rotate_left
      · intro h
        exact xss_nil ⟨hc5, fs, Gr2, _, _, _, _, _, _, _, _, rfl, rfl, hf, by omega, hR2.mono (by omega), hfp⟩
      intro hv
      have hv : 0 < v := of_decide_eq_true hv
      -- the price
      refine xss_cons (M := fun ρ' G2 => ∃ (p : Int) (Gr3 : Store), ρ' = eN r rows most left side limit l (some (intV k)) (some (rowsV (rows ++ [RowM.prints fs]))) (some (.d (optD (oI o)))) (some (ksV ks)) t12 (some (intV used)) (some (intV v)) (some (intV p)) ∧ G2 = (l, .lst (fs.map filD)) :: (Gr3 ++ G') ∧ Rd (n + 1 + 10 * k + 3) r Gr3 ∧ lil p)
        (xs_set 15 (Φe := fun y G2 => ∃ (p : Int) (Gr3 : Store), y = intV p ∧ G2 = (l, .lst (fs.map filD)) :: (Gr3 ++ G') ∧ Rd (n + 1 + 10 * k + 3) r Gr3 ∧ lil p) ?_ (fun y G2 q => ?_) scNew.nd) fun ρ' G2 q => ?_
      · cases o with
        | none =>
          refine xp_ifD (t := false) (xb_notn (xd_name 10) rfl) (fun h => nomatch h) fun _ => ?_
          refine x_binR op_add xd_int (xp_draw (G1 := [(l, .lst (fs.map filD))]) (m := 5) (Φ := fun y G2 => ∃ (i : Int) (Gr3 : Store), y = intV i ∧ 0 ≤ i ∧ i < 5 ∧ Rd (n + 1 + 10 * k + 3) r Gr3 ∧ G2 = (l, .lst (fs.map filD)) :: (Gr3 ++ G')) D hD hR2 (by omega) (by decide) (by decide) (Xad.i (xad_cons (xd_name 0) (xad_cons xd_int xa_nil))) fun i Gr3 h1 h2 h3 => ⟨i, Gr3, rfl, h1, h2, h3.mono (by omega), rfl⟩) fun y G2 w => ?_
          obtain ⟨i, Gr3, rfl, h1, h2, h3, e3⟩ := w
          exact op_ii0 (fun _ => .rint _) ⟨8 + i, Gr3, rfl, e3, h3, lil_of (by omega) (by omega)⟩
        | some kk =>
          obtain ⟨m, sd2, p, zz, fs', e1, e2⟩ := open_late (hks1 kk (ho kk rfl))
          refine xp_ifD (t := true) (xb_notn (xd_name 10) rfl) (fun _ => ?_) fun h => nomatch h
          exact Xd.to (xd_row (xd_name 1) (xd_name 10) e1 rfl) ⟨p, Gr2, rfl, rfl, hR2.mono (by omega), (hok.2 _ (List.mem_of_getElem? e1)).2.2.1⟩
      · obtain ⟨p, Gr3, e1, e2⟩ := q
        exact ⟨p, Gr3, by rw [e1]; rfl, e2⟩
      obtain ⟨p0, Gr3, rfl, rfl, hR3, hp0⟩ := q
      refine xss_cons (M := fun ρ' G2 => ∃ (p : Int) (Gr3 : Store), ρ' = eN r rows most left side limit l (some (intV k)) (some (rowsV (rows ++ [RowM.prints fs]))) (some (.d (optD (oI o)))) (some (ksV ks)) t12 (some (intV used)) (some (intV v)) (some (intV p)) ∧ G2 = (l, .lst (fs.map filD)) :: (Gr3 ++ G') ∧ Rd (n + 1 + 10 * k + 4) r Gr3 ∧ lil p)
        (xs_ifI (t := isNo (optD (oI o)) && side.isSome) ?_ ?_ ?_) fun ρ' G2 q => ?_
      · exact xti_and (Xb.i (xb_isn (xd_name 10) rfl)) fun _ => Xb.i (xb_notn (xd_name 4) (by cases side <;> rfl))
      rotate_left
      · intro h
        exact xss_nil ⟨p0, Gr3, rfl, rfl, hR3.mono (by omega), hp0⟩
      rotate_left
      · intro h
        cases side with
        | none =>
          rw [Bool.and_eq_true] at h
          cases h.2
        | some sd =>
          have sg : (if sd = u "buy" then (-1 : Int) else 1) = 1 ∨ (if sd = u "buy" then (-1 : Int) else 1) = -1 := by split <;> simp
          refine xss_one (xs_set 15 (Φe := fun y G2 => ∃ (p : Int) (Gr3 : Store), y = intV p ∧ G2 = (l, .lst (fs.map filD)) :: (Gr3 ++ G') ∧ Rd (n + 1 + 10 * k + 4) r Gr3 ∧ lil p) ?_ (fun y G2 q => ?_) scNew.nd)
          · refine x_binR op_add (xd_name 5) (x_binL (y := intV (if sd = u "buy" then -1 else 1)) (Φ := fun y G2 => ∃ (i : Int) (Gr4 : Store), y = intV i ∧ -3 ≤ i ∧ i ≤ 3 ∧ Rd (n + 1 + 10 * k + 4) r Gr4 ∧ G2 = (l, .lst (fs.map filD)) :: (Gr4 ++ G')) op_mul (xp_draw (G1 := [(l, .lst (fs.map filD))]) (m := 3) (Φ := fun y G2 => ∃ (i : Int) (Gr3 : Store), y = intV i ∧ 0 ≤ i ∧ i < 3 ∧ Rd (n + 1 + 10 * k + 4) r Gr3 ∧ G2 = (l, .lst (fs.map filD)) :: (Gr3 ++ G')) D hD hR3 (by omega) (by decide) (by decide) (Xad.i (xad_cons (xd_name 0) (xad_cons xd_int xa_nil))) fun i Gr3 h1 h2 h3 => ⟨i, Gr3, rfl, h1, h2, h3.mono (by omega), rfl⟩) ?_ fun x G2 w => ?_) fun y G2 w => ?_
            · refine xd_if (t := decide (sd = u "buy")) (xb_eqs (xd_name 4) xd_str rfl) (fun h => ?_) fun h => ?_
              · rw [if_pos (of_decide_eq_true h)]
                exact xd_neg xd_int
              · rw [if_neg (of_decide_eq_false h)]
                exact xd_int
            · obtain ⟨i, Gr4, rfl, h1, h2, h3, e3⟩ := w
              refine op_ii (.inl ⟨by omega, by omega⟩) (fun _ => .rint _) ⟨i * (if sd = u "buy" then -1 else 1), Gr4, rfl, ?_, ?_, h3, e3⟩
              · rcases sg with e | e <;> rw [e] <;> omega
              · rcases sg with e | e <;> rw [e] <;> omega
            · obtain ⟨i, Gr4, rfl, h1, h2, h3, e3⟩ := w
              exact op_ii0 (fun _ => .rint _) ⟨limit + i, Gr4, rfl, e3, h3, lil_of (by omega) (by omega)⟩
          · obtain ⟨p, Gr4, e1, e2⟩ := q
            exact ⟨p, Gr4, by rw [e1]; rfl, e2⟩
      obtain ⟨p1, Gr4, rfl, rfl, hR4, hp1⟩ := q
      -- found.append
      have hb3 : (if 3 < v then 3 else v) ≤ 3 ∧ 0 < (if 3 < v then 3 else v) := by split <;> omega
      refine xss_one (xs_expr (Φe := fun y G2 => ∃ (i : Int) (Gr5 : Store), 0 ≤ i ∧ i < 3 ∧ Rd (n + 1 + 10 * k + 5) r Gr5 ∧ G2 = (l, .lst ((fs ++ [(p1, 1 + i, oI o)]).map filD)) :: (Gr5 ++ G')) (xp_append (Φe := fun y G2 => ∃ (i : Int) (Gr5 : Store), y = .d (filD (p1, 1 + i, oI o)) ∧ 0 ≤ i ∧ i < 3 ∧ Rd (n + 1 + 10 * k + 5) r Gr5 ∧ G2 = (l, .lst (fs.map filD)) :: (Gr5 ++ G')) (xd_name 6) ⟨_, List.mem_cons_self⟩ ?_ fun y G2 w => ?_) fun y G2 w => ?_)
      · refine xp_tup (Φl := fun xs G2 => ∃ (i : Int) (Gr5 : Store), xs = [intV p1, intV (1 + i), .d (optD (oI o))] ∧ 0 ≤ i ∧ i < 3 ∧ Rd (n + 1 + 10 * k + 5) r Gr5 ∧ G2 = (l, .lst (fs.map filD)) :: (Gr5 ++ G')) (xa_front (xd_name 15) (xa_two (Φa := fun y G2 => ∃ (i : Int) (Gr5 : Store), y = intV (1 + i) ∧ 0 ≤ i ∧ i < 3 ∧ Rd (n + 1 + 10 * k + 5) r Gr5 ∧ G2 = (l, .lst (fs.map filD)) :: (Gr5 ++ G')) (Φl := fun xs G2 => ∃ (i : Int) (Gr5 : Store), xs = [intV (1 + i), .d (optD (oI o))] ∧ 0 ≤ i ∧ i < 3 ∧ Rd (n + 1 + 10 * k + 5) r Gr5 ∧ G2 = (l, .lst (fs.map filD)) :: (Gr5 ++ G')) ?_ fun x G1 w => ?_) fun xs G2 w => ?_) fun xs G2 w => ?_
        · refine x_binR op_add xd_int (xp_draw (G1 := [(l, .lst (fs.map filD))]) (m := if 3 < v then 3 else v) (Φ := fun y G2 => ∃ (i : Int) (Gr3 : Store), y = intV i ∧ 0 ≤ i ∧ i < 3 ∧ Rd (n + 1 + 10 * k + 5) r Gr3 ∧ G2 = (l, .lst (fs.map filD)) :: (Gr3 ++ G')) D hD hR4 (by omega) hb3.2 (by omega) (Xad.i (xad_cons (xd_name 0) (xad_cons (xd_min B (xd_name 14) xd_int) xa_nil))) fun i Gr3 h1 h2 h3 => ⟨i, Gr3, rfl, h1, by omega, h3.mono (by omega), rfl⟩) fun y G2 w => ?_
          obtain ⟨i, Gr5, rfl, w⟩ := w
          exact op_ii0 (fun _ => .rint _) ⟨i, Gr5, rfl, w⟩
        · obtain ⟨i, Gr5, rfl, w⟩ := w
          exact Xd.to (xd_name 10) ⟨i, Gr5, rfl, w⟩
        · obtain ⟨i, Gr5, rfl, w⟩ := w
          exact ⟨i, Gr5, rfl, w⟩
        · obtain ⟨i, Gr5, rfl, w⟩ := w
          exact ⟨[.int p1, .int (1 + i), optD (oI o)], rfl, by show 3 ≤ 100000; decide, i, Gr5, rfl, w⟩
      · obtain ⟨i, Gr5, rfl, h1, h2, h3, rfl⟩ := w
        refine ⟨_, [], fs.map filD, Gr5 ++ G', rfl, rfl, by rw [List.length_map]; omega, i, Gr5, h1, h2, h3, ?_⟩
        rw [List.map_append]
        rfl
      · obtain ⟨i, Gr5, h1, h2, h3, rfl⟩ := w
        refine ⟨hc5, fs ++ [(p1, 1 + i, oI o)], Gr5, _, _, _, _, _, _, _, _, rfl, rfl, ⟨?_, fun f hf2 => ?_⟩, ?_, h3.mono (by omega), fun f hf2 => ?_⟩
        · rw [List.length_append]
          show fs.length + 1 ≤ 30
          omega
        · rcases List.mem_append.mp hf2 with h | h
          · exact hf.2 f h
          · rw [List.mem_singleton] at h
            subst h
            refine ⟨hp1, lil_of (by show -100000 ≤ 1 + i; omega) (by show 1 + i ≤ 100000; omega), fun kk he => ?_⟩
            cases o with
            | none => cases he
            | some k2 =>
              obtain ⟨m, sd2, p, zz, fs', e1, e2⟩ := open_late (hks1 k2 (ho k2 rfl))
              have h5 := (List.getElem?_eq_some_iff.mp e1).1
              have h6 : (k2 : Int) = kk := Option.some.inj he
              exact lil_of (by omega) (by omega)
        · rw [List.length_append]
          show fs.length + 1 ≤ k + 1
          omega
        · rcases List.mem_append.mp hf2 with h | h
          · exact hfp f h
          · rw [List.mem_singleton] at h
            subst h
            refine ⟨by show 0 < 1 + i; omega, fun kk he => ?_⟩
            cases o with
            | none => cases he
            | some k2 =>
              obtain ⟨m, sd2, p, zz, fs', e1, e2⟩ := open_late (hks1 k2 (ho k2 rfl))
              exact ⟨k2, m, sd2, p, zz, fs', (Option.some.inj he).symm, e1⟩
    · rintro c ρ1 G1 ⟨hc5, fs, Gr1, t8, t9, t10, t11, t12, t13, t14, t15, rfl, rfl, hf, hfk, hR1, hfp⟩
      exact ⟨fs, Gr1, t8, t9, t10, t11, t12, t13, t14, t15, rfl, rfl, hf, hfp, hR1.mono (by omega)⟩
  obtain ⟨fs, Gr', t8, t9, t10, t11, t12, t13, t14, t15, rfl, rfl, hf, hfp, hR2⟩ := q
  exact xss_one (xs_ret (R.lose (xp_tupC B (xd_name 6) List.mem_cons_self ⟨_, _, rfl, hq fs Gr' hf hfp hR2⟩)))
end
end K5

set_option Elab.async false
set_option linter.all false
set_option maxRecDepth 100000
set_option maxHeartbeats 2000000
namespace Fsh
open PySem PySem.Spec L2
theorem pick2_len {α : Type} (xs : List α) (i : Int) : (pick2 xs i).length ≤ xs.length := by
  unfold pick2
  refine Nat.le_trans (List.length_filterMap_le _ _) (sliceRange_length_le _ _ _ _ (fun hc => ?_) fun hc => ?_)
  · simp only [sliceBounds] at hc ⊢
    simp only [hc, if_true]
    constructor
    · first | omega | (simp; omega)
    · first | omega | simp
  · simp only [sliceBounds] at hc
    exact absurd (by decide) hc
theorem pick2_map {α β : Type} (f : α → β) (xs : List α) (i : Int) : pick2 (xs.map f) i = (pick2 xs i).map f := by
  unfold pick2
  rw [List.length_map, List.map_filterMap]
  congr 1
  funext j
  rw [List.getElem?_map]
section
variable {X : Cx} {e a b elt tg : Expr} {ρ : Fsh.Env} {G : Store} {Φ : Pst} {pos : Pos} {scope : Scope}
theorem xp_draw0 {k : Nat} {p : Pos} {Gr G2 : Store} {r : Addr} {n m : Int} (Fx : Fn X.prog X.w X.K X.mg X.base k "_law_draw" ["_law_reader_here", "_law_many"] K5.zDraw) (hr : Room k X.A) (hc : K5.Rd n r Gr) (hn : n < 1000000) (h0 : 0 < m) (h1 : m < 1073741824) (ha : Xa X [a, b] ρ (Gr ++ G2) (IsA [.a r, .d (.int m)] (Gr ++ G2)))
    (h : ∀ i Gr', 0 ≤ i → i < m → K5.Rd (n + 1) r Gr' → Φ (.d (.int i)) (Gr' ++ G2)) (hg : Gl X "_law_draw" := by rfl)
    (hst : starEach [a, b] X.env = (false, eval a X.env) :: starEach [b] X.env := by rfl) (hpl : (backTo pos (starEach [b] X.env)).any (·.1) = false := by rfl) : Xp X (.Call (.Name "_law_draw" p) [a, b] [] pos) ρ (Gr ++ G2) Φ :=
  K5.xp_draw (G1 := []) Fx hr hc hn h0 h1 ha h hg hst hpl
theorem LcP.give {ifs : List Expr} (h : LcP X elt tg e ifs scope ρ G fun y G2 => ∃ l xs G3, y = .a l ∧ G2 = (l, .lst xs) :: G3 ∧ Φ (.d (.list xs)) G3) : LcP X elt tg e ifs scope ρ G Φ := by
  obtain ⟨own, wi, g, tt, te, hc, hN, hi, ok, hg, ht, he, hs, r⟩ := h
  exact ⟨own, wi, g, tt, te, hc, hN, hi, ok, hg, ht, he, hs, r.give⟩
theorem xv_ge {s t : Int} {r : Bool} (ha : Xd X a ρ (.d (.int s))) (hb : Xd X b ρ (.d (.int t))) (h : decide (t ≤ s) = r) : Xd X (.Compare a [.GtE] [b] pos) ρ (.d (.bool r)) := h ▸ fun G => x_cmpD op_ge ha hb (op_ii0 (fun _ => .rbl _) ⟨rfl, rfl⟩) (nomark _)
theorem xb_eqb {s t : Bool} {r : Bool} (ha : Xd X a ρ (.d (.bool s))) (hb : Xd X b ρ (.d (.bool t))) (h : decide (s = t) = r) : Xb X (.Compare a [.Eq] [b] pos) ρ r := h ▸ xt_cmpD op_eq ha hb (fun _ => op_eqb) (nomark _)
/-- (a, b): b has a choice -/
theorem xp_tup2 {x : PyData} {x1 : Nat} {Φb : Pst} (ha : Xd X a ρ (.d x)) (hb : Xp X b ρ G Φb) (h : ∀ y G2, Φb y G2 → ∃ d, y = .d d ∧ Φ (.d (.tuple [x, d])) G2) (hs : starEach [a, b] X.env = (false, eval a X.env) :: starEach [b] X.env := by rfl) (hs2 : starEach [b] X.env = (false, eval b X.env) :: starEach [] X.env := by rfl) : Xp X (.Tuple [a, b] x1 pos) ρ G Φ :=
  xp_tup (Φl := fun xs G2 => ∃ d, xs = [.d x, .d d] ∧ Φ (.d (.tuple [x, d])) G2) (xa_two (Φa := Is (.d x) G) ha.g (fun y G1 q => by
    obtain ⟨rfl, rfl⟩ := q
    exact hb.imp fun z G2 w => by
      obtain ⟨d, e1, e2⟩ := h z G2 w
      exact ⟨d, by rw [e1], e2⟩) hs hs2) fun xs G2 q => by
    obtain ⟨d, e1, e2⟩ := q
    exact ⟨[x, d], e1, by show 2 ≤ 100000; decide, e2⟩
/-- a list of texts or ints, one of them drawn -/
theorem xp_oneof {ds : List PyData} {Φb : Pst} (ha : Xd X a ρ (.d (.list ds))) (hb : Xp X b ρ G Φb) (h : ∀ y G2, Φb y G2 → ∃ i : Int, y = .d (.int i) ∧ 0 ≤ i ∧ i < ds.length ∧ ∀ d ∈ ds, Φ (.d d) G2) (hs : PlainIx b := by exact fun _ _ => rfl) : Xp X (.Subscript a b pos) ρ G Φ :=
  xp_ixL ha hb (fun y G2 q => by
    obtain ⟨i, e1, h1, h2, h3⟩ := h y G2 q
    obtain ⟨d, hd⟩ : ∃ d, ds[i.toNat]? = some d := ⟨_, List.getElem?_eq_getElem (by omega)⟩
    have h4 : atI ds (i.toNat : Nat) = some d := atI_nat hd
    rw [Int.toNat_of_nonneg h1] at h4
    exact ⟨i, d, e1, h4, h3 d (List.mem_of_getElem? hd)⟩) hs
end
end Fsh
namespace K5
open PySem PySem.Spec L2 Fsh Rec
abbrev sRow : Stmt := topG 42
abbrev NRow : List Str := ["_law_reader_here", "_law_rows", "_law_t", "_law_shut_now", "_law_there", "_law_way", "_law_price", "_law_n", "_law_good", "_law_pairs", "_law_side", "_law_size", "_law_member", "_law_taken"]
theorem scRow : FnScope NRow ["_law_reader_here", "_law_rows"] (defScope sRow) := ⟨rfl, rfl, rfl, by decide +kernel, rfl, by decide +kernel, by decide +kernel⟩
/-- sizes as the law draws them -/
def tameR : RowM → Prop
  | .order _ _ _ z fs => z ≤ 1000 ∧ ∀ f ∈ fs, 0 ≤ f.2.1
  | .prints fs => ∀ f ∈ fs, 0 ≤ f.2.1
  | .call _ ps => ∀ q ∈ ps, 0 ≤ q.2
  | _ => True
def memL : List Str := [u "ann", u "bob", u "cy", u "dee", u "eve"]
def goodP (rows : List RowM) (q : Int × Int) : Prop := 0 < q.2 ∧ ordAt rows q.1
/-- a row that may follow these rows: it names orders of theirs only, and sizes from 1 on -/
def goodR (rows : List RowM) : RowM → Prop
  | .order m _ _ z fs => m ∈ memL ∧ 0 < z ∧ ∀ f ∈ fs, goodF rows f
  | .cancel n => ordAt rows n
  | .prints fs => ∀ f ∈ fs, goodF rows f
  | .closed => rows = []
  | .call _ ps => ∀ q ∈ ps, goodP rows q
theorem trFs_pos (s : Nat) (o : Bool) : ∀ {fs : List Fil}, (∀ f ∈ fs, 0 ≤ f.2.1) → ∀ q ∈ trFs s o fs, 0 ≤ q.2
  | [], _ => fun q hq => by cases hq
  | f :: fs, h => fun q hq => by
    have hq : q ∈ ((f :: fs).map (one s o)).flatten := hq
    rw [List.map_cons, List.flatten_cons] at hq
    rcases List.mem_append.mp hq with hq | hq
    · have hf := h f List.mem_cons_self
      unfold one at hq
      rcases List.mem_append.mp hq with hq | hq
      · split at hq
        · rw [List.mem_singleton] at hq
          subst hq
          exact hf
        · cases hq
      · split at hq
        · rw [List.mem_singleton] at hq
          subst hq
          exact hf
        · cases hq
    · exact trFs_pos s o (fun g hg => h g (List.mem_cons_of_mem _ hg)) q hq
theorem fils_tame {r : RowM} (h : tameR r) : ∀ f ∈ filsOf r, 0 ≤ f.2.1 := by
  cases r with
  | order m s p z fs => exact h.2
  | prints fs => exact h
  | cancel n => exact fun f hf => by cases hf
  | closed => exact fun f hf => by cases hf
  | call p ps => exact fun f hf => by cases hf
theorem pairs_tame {r : RowM} (h : tameR r) : ∀ q ∈ pairsOf r, 0 ≤ q.2 := by
  cases r with
  | call p ps => exact h
  | order m s p z fs => exact fun f hf => by cases hf
  | cancel n => exact fun f hf => by cases hf
  | prints fs => exact fun f hf => by cases hf
  | closed => exact fun f hf => by cases hf
theorem trAt_pos {rows : List RowM} (h : ∀ r ∈ rows, tameR r) (t i : Int) (s : Nat) : ∀ q ∈ trAt rows t i s, 0 ≤ q.2 := by
  unfold trAt
  cases z : rows[s]? with
  | none => exact fun q hq => by cases hq
  | some r =>
    have hr := h r (List.mem_of_getElem? z)
    intro q hq
    rcases List.mem_append.mp hq with hq | hq
    · exact trFs_pos s (isOrd r) (fun f hf => fils_tame hr f (List.mem_of_mem_take hf)) q hq
    · split at hq
      · exact pairs_tame hr q hq
      · cases hq
theorem sumOf_pos (L : List (Int × Int)) (n : Int) (h : ∀ q ∈ L, 0 ≤ q.2) : 0 ≤ sumOf L n := by
  induction L using snoc_ind with
  | h0 => exact Int.le_refl _
  | hs L p ih =>
    rw [sumOf_snoc]
    have h1 := ih fun q hq => h q (List.mem_append_left _ hq)
    have h2 := h p (List.mem_append_right _ List.mem_cons_self)
    split <;> omega
theorem rest_le {rows : List RowM} (h : ∀ r ∈ rows, tameR r) {k : Nat} {m s : Str} {p z : Int} {fs : List Fil} (e : rows[k]? = some (.order m s p z fs)) (t i : Int) : restM rows k t i ≤ 1000 := by
  have h1 : 0 ≤ sumOf (trades rows t i) k := sumOf_pos _ _ fun q hq => by
    unfold trades trUp at hq
    rw [List.mem_flatten] at hq
    obtain ⟨l, hl, hq⟩ := hq
    obtain ⟨s, _, rfl⟩ := List.mem_map.mp hl
    exact trAt_pos h t i s q hq
  have h2 : z ≤ 1000 := (h _ (List.mem_of_getElem? e)).1
  unfold restM
  rw [e]
  show z - _ ≤ 1000
  omega
def zRow : Fsh.Spec := fun xs G Φ => ∃ (r : Addr) (n : Int) (rows : List RowM) (Gr G' : Store), xs = [.a r, rowsV rows] ∧ G = Gr ++ G' ∧ Rd n r Gr ∧ n < 800000 ∧ okRs rows ∧ (∀ x ∈ rows, tameR x) ∧ rows.length ≤ 20 ∧
  ∀ row Gr', okR row → tameR row → goodR rows row → Rd (n + 300) r Gr' → Φ (.d (rowD row)) (Gr' ++ G')
abbrev eR (r : Addr) (rows : List RowM) (t2 t3 t4 t5 t6 t7 t8 t9 t10 t11 t12 t13 : Option DV) : Fsh.Env := [some (.a r), some (rowsV rows), t2, t3, t4, t5, t6, t7, t8, t9, t10, t11, t12, t13]
section
variable {P : Program} {w : World} {K : PySem.W.Frag} {mg : Str → Option Value} {base : Heap}
theorem f_row {f : Addr} {fd : FuncData} (F1 : Fun K "_law_new_row" "_law_new_row" sRow f fd) (hm : mg "_law_new_row" = some (.ref f)) (B : Bn mg) (D : Fn P w K mg base 1 "_law_draw" ["_law_reader_here", "_law_many"] zDraw) (S : Fn P w K mg base 1 "_law_is_shut" ["_law_rows", "_law_t"] zShut) (T : Fn P w K mg base 3 "_law_open" ["_law_rows", "_law_t", "_law_i"] zOpen) (T2 : Fn P w K mg base 3 "_law_rest" ["_law_rows", "_law_n", "_law_t", "_law_i"] zRest)
    (W : Fn P w K mg base 4 "_law_new_fills" ["_law_reader_here", "_law_rows", "_law_most", "_law_left", "_law_side", "_law_limit"] zNew) : Fn P w K mg base 5 "_law_new_row" ["_law_reader_here", "_law_rows"] zRow := by
  refine fn_rule F1 scRow (F1.binds fun _ _ _ _ _ _ us hl => match us, hl with | [_, _], _ => rfl) hm (fun xs G Φ h => by obtain ⟨_, _, _, _, _, rfl, _⟩ := h; rfl) fun cdv A outer s H E hr xs G Φ hz => ?_
  obtain ⟨r, n, rows, Gr, G', rfl, rfl, hR, hn, hok, htm, hl20, hq⟩ := hz
  have hD : Room 1 (A.deeper (PyProof.Rows.envOfC (Str.ofString "_law_new_row") (defScope sRow) s.heap.objs.size f cdv)) := hr.mono (by decide)
  have hl20' : (rows.length : Int) ≤ 20 := by omega
  -- t, shut
  refine xss_cons (M := fun ρ' G2 => ∃ b : Bool, ρ' = eR r rows (some (intV rows.length)) (some (.d (.bool b))) none none none none none none none none none none ∧ G2 = Gr ++ G') ?_ fun ρ' G2 q => ?_
  · refine xs_asg (js := [2] ++ ([3] ++ [])) (Φe := fun y G2 => ∃ b : Bool, y = .d (.tuple [.int rows.length, .bool b]) ∧ G2 = Gr ++ G') ?_ (pg_tup (n := 2) rfl (pgs_cons (pg_name (i := 2) scRow.nd rfl (Or.inr rfl)) (pgs_cons (pg_name (i := 3) scRow.nd rfl (Or.inl rfl)) pgs_nil))) fun x G2 q => ?_
    · refine xp_tup (Φl := fun xs G2 => ∃ b : Bool, xs = [intV rows.length, .d (.bool b)] ∧ G2 = Gr ++ G') (xa_two (Φa := Is (intV rows.length) (Gr ++ G')) (Xd.g (Xd.cast (xd_lenL B (xd_name 1)) (by rw [List.length_map]))) fun x G1 q => ?_) fun xs G2 q => ?_
      · obtain ⟨rfl, rfl⟩ := q
        refine xp_call S (hr.mono (by decide)) (Xad.i (xs := [rowsV rows, intV rows.length]) (xad_cons (xd_name 1) (xad_cons (Xd.cast (xd_lenL B (xd_name 1)) (by rw [List.length_map])) xa_nil))) fun xs G2 q => ?_
        exact ⟨[], G2, rfl, rows, q.1, hok, fun b => ⟨b, rfl, q.2⟩⟩
      · obtain ⟨b, rfl, rfl⟩ := q
        exact ⟨[.int rows.length, .bool b], rfl, by show 2 ≤ 100000; decide, b, rfl, rfl⟩
    · obtain ⟨b, rfl, rfl⟩ := q
      exact ⟨_, rg_tup rfl (rgs_cons rg_name (rgs_cons rg_name rgs_nil)), b, rfl, rfl⟩
  obtain ⟨sh, rfl, rfl⟩ := q
  -- there, way
  refine xss_cons (M := fun ρ' G2 => ∃ (way : Int) (Gr1 : Store), ρ' = eR r rows (some (intV rows.length)) (some (.d (.bool sh))) (some (ksV (openM rows rows.length 0))) (some (intV way)) none none none none none none none none ∧ G2 = Gr1 ++ G' ∧ Rd (n + 1) r Gr1) ?_ fun ρ' G2 q => ?_
  · refine xs_par 4 5 (Φl := fun xs G2 => ∃ (way : Int) (Gr1 : Store), xs = [ksV (openM rows rows.length 0), intV way] ∧ G2 = Gr1 ++ G' ∧ Rd (n + 1) r Gr1) (xa_two (Φa := Is (ksV (openM rows rows.length 0)) (Gr ++ G')) ?_ (fun x G1 q => ?_)) (fun xs G2 q => ?_) scRow.nd
    · refine xi_call T (hr.mono (by decide)) (Xad.i (xs := [rowsV rows, intV rows.length, intV 0]) (xad_cons (xd_name 1) (xad_cons (xd_name 2) (xad_cons xd_int xa_nil)))) fun G Φ q => ?_
      exact ⟨rows, rows.length, 0, rfl, hok, by omega, by omega, by decide, q⟩
    · obtain ⟨rfl, rfl⟩ := q
      exact xp_draw0 (m := 8) D hD hR (by omega) (by decide) (by decide) (Xad.i (xad_cons (xd_name 0) (xad_cons xd_int xa_nil))) fun i Gr1 h1 h2 h3 => ⟨i, Gr1, rfl, rfl, h3⟩
    · obtain ⟨way, Gr1, rfl, rfl, h3⟩ := q
      exact ⟨_, _, rfl, way, Gr1, rfl, rfl, h3⟩
  obtain ⟨way, Gr1, rfl, rfl, hR1⟩ := q
  have hkk : ∀ kk ∈ openM rows rows.length 0, ∃ m s p z fs', rows[kk]? = some (.order m s p z fs') ∧ kk < rows.length ∧ 0 < restM rows kk rows.length 0 := fun kk h => by
    obtain ⟨⟨m, s, p, z, fs', e⟩, h2, h3⟩ := open_is h
    exact ⟨m, s, p, z, fs', e, by omega, h3⟩
  have hkl := open_len rows rows.length 0
  -- a call
  refine xss_at (ρ' := eR r rows (some (intV rows.length)) (some (.d (.bool sh))) (some (ksV (openM rows rows.length 0))) (some (intV way)) none none none none none none none none) (G' := Gr1 ++ G') (xs_ifI (t := sh && decide (way = 7)) ?_ ?_ ?_) ?_
  · exact xti_and (Xb.i (xb_val (xd_name 3))) fun _ => Xb.i (xb_eqi (xd_name 5) xd_int rfl)
  · intro h
    refine xss_cons (M := fun ρ' G2 => ∃ (p : Int) (Gr2 : Store), ρ' = eR r rows (some (intV rows.length)) (some (.d (.bool sh))) (some (ksV (openM rows rows.length 0))) (some (intV way)) (some (intV p)) none none none none none none none ∧ 8 ≤ p ∧ p ≤ 12 ∧ G2 = Gr2 ++ G' ∧ Rd (n + 2) r Gr2) (xs_set 6 (Φe := fun y G2 => ∃ (p : Int) (Gr2 : Store), y = intV p ∧ 8 ≤ p ∧ p ≤ 12 ∧ G2 = Gr2 ++ G' ∧ Rd (n + 2) r Gr2) ?_ (fun y G2 q => ?_) scRow.nd) fun ρ' G2 q => ?_
    · refine x_binR op_add xd_int (xp_draw0 (m := 5) (Φ := fun y G2 => ∃ (i : Int) (Gr2 : Store), y = intV i ∧ 0 ≤ i ∧ i < 5 ∧ G2 = Gr2 ++ G' ∧ Rd (n + 2) r Gr2) D hD hR1 (by omega) (by decide) (by decide) (Xad.i (xad_cons (xd_name 0) (xad_cons xd_int xa_nil))) fun i Gr2 h1 h2 h3 => ⟨i, Gr2, rfl, h1, h2, rfl, h3.mono (by omega)⟩) fun y G2 w => ?_
      obtain ⟨i, Gr3, rfl, h1, h2, e2, h4⟩ := w
      exact op_ii0 (fun _ => .rint _) ⟨8 + i, Gr3, rfl, by omega, by omega, e2, h4⟩
    · obtain ⟨p, Gr2, rfl, w⟩ := q
      exact ⟨p, Gr2, rfl, w⟩
    obtain ⟨p, Gr2, rfl, hp1, hp2, rfl, hR2⟩ := q
    -- good
    refine xss_cons (M := fun ρ' G2 => ∃ gs : List Nat, ρ' = eR r rows (some (intV rows.length)) (some (.d (.bool sh))) (some (ksV (openM rows rows.length 0))) (some (intV way)) (some (intV p)) none (some (ksV gs)) none none none none none ∧ G2 = Gr2 ++ G' ∧ (∀ kk ∈ gs, kk ∈ openM rows rows.length 0) ∧ gs.length ≤ 20) (xs_imp (xs_setLcI 8 (ds := ((openM rows rows.length 0).filter fun kk => decide (decide (p ≤ ordPrice (at_ rows kk)) = decide (ordSide (at_ rows kk) = u "buy")) || decide (ordPrice (at_ rows kk) = p)).map fun (kk : Nat) => PyData.int kk) ?_) fun ρ2 G2 q => ⟨_, q.1, q.2, fun kk h => (List.mem_filter.mp h).1, Nat.le_trans (List.length_filter_le _ _) (Nat.le_trans hkl hl20)⟩) fun ρ' G2 q => ?_
    · refine li_filL _ _ _ _ (fun kk => eR r rows (some (intV rows.length)) (some (.d (.bool sh))) (some (ksV (openM rows rows.length 0))) (some (intV way)) (some (intV p)) (some (intV kk)) none none none none none none) scRow.nd (xd_name 4).g (blkOk_by (own := [("_law_n", 7)]) (N := NRow) (sc := defScope sRow) (by decide +kernel)) (fun _ _ _ _ _ => pg_name (i := 7) scRow.nd rfl (Or.inl rfl)) (by decide) (Nat.le_trans hkl (by omega)) (fun x _ => rg_name) (fun kk hk z => ?_) (fun kk hk h z => (xd_name 7).g)
      obtain ⟨m, s2, p2, zz, fs', e1, h2, h3⟩ := hkk kk hk
      refine xti_or (Xb.i (xb_eqb (xv_ge (xd_row (xd_name 1) (xd_name 7) e1 rfl) (xd_name 6) ?_) (xv_eqs (xd_row (xd_name 1) (xd_name 7) e1 rfl) xd_str ?_) rfl)) fun _ => Xb.i (xb_eqi (xd_row (xd_name 1) (xd_name 7) e1 rfl) (xd_name 6) ?_)
      · unfold at_
        rw [e1]
        rfl
      · unfold at_
        rw [e1]
        rfl
      · unfold at_
        rw [e1]
        rfl
    obtain ⟨gs, rfl, rfl, hgs, hgl⟩ := q
    -- pairs
    refine xss_cons (M := fun ρ' G2 => ∃ (ps : List (Int × Int)) (Gr3 : Store), ρ' = eR r rows (some (intV rows.length)) (some (.d (.bool sh))) (some (ksV (openM rows rows.length 0))) (some (intV way)) (some (intV p)) none (some (ksV gs)) (some (.d (.list (ps.map pairD)))) none none none none ∧ ps.length ≤ 30 ∧ (∀ q ∈ ps, okP q ∧ 0 ≤ q.2 ∧ goodP rows q) ∧ G2 = Gr3 ++ G' ∧ Rd (n + 40) r Gr3) (xs_setLc 9 (Φe := fun y G2 => ∃ (ps : List (Int × Int)) (Gr3 : Store), y = .d (.list (ps.map pairD)) ∧ ps.length ≤ 30 ∧ (∀ q ∈ ps, okP q ∧ 0 ≤ q.2 ∧ goodP rows q) ∧ G2 = Gr3 ++ G' ∧ Rd (n + 40) r Gr3) (LcP.give ?_) (fun y G2 q => ?_)) fun ρ' G2 q => ?_
    · refine lcx_L (js := [7]) (Φs := fun y G2 => ∃ (hs : List Nat) (Gr3 : Store), y = ksV hs ∧ (∀ kk ∈ hs, kk ∈ openM rows rows.length 0) ∧ hs.length ≤ 20 ∧ G2 = Gr3 ++ G' ∧ Rd (n + 3) r Gr3) (fun ds => ∃ hs : List Nat, ds = hs.map (fun (kk : Nat) => PyData.int kk) ∧ (∀ kk ∈ hs, kk ∈ openM rows rows.length 0) ∧ hs.length ≤ 20) (fun ds i acc G1 => ∃ (ps : List (Int × Int)) (Gr3 : Store), acc = ps.map pairD ∧ ps.length = i ∧ (∀ q ∈ ps, okP q ∧ 0 ≤ q.2 ∧ goodP rows q) ∧ G1 = Gr3 ++ G' ∧ Rd (n + 3 + i) r Gr3) scRow.nd ?_
        (blkOk_by (own := [("_law_n", 7)]) (N := NRow) (sc := defScope sRow) (by decide +kernel)) (fun _ _ _ _ _ => pg_name (i := 7) scRow.nd rfl (Or.inl rfl)) (by decide) (fun y G1 q => ?_) (fun ds hP i d hd => ?_) (fun l acc G3 ds hP q => ?_)
      · refine R.give (xp_pick (xd_name 8) (xp_draw0 (m := 2) (Φ := fun y G2 => ∃ (i : Int) (Gr3 : Store), y = intV i ∧ G2 = Gr3 ++ G' ∧ Rd (n + 3) r Gr3) D hD hR2 (by omega) (by decide) (by decide) (Xad.i (xad_cons (xd_name 0) (xad_cons xd_int xa_nil))) fun i Gr2 h1 h2 h3 => ⟨i, Gr2, rfl, rfl, h3.mono (by omega)⟩) fun y G2 q => ?_)
        obtain ⟨i, Gr3, rfl, rfl, h3⟩ := q
        refine ⟨i, rfl, fun l => ⟨l, _, _, rfl, rfl, pick2 gs i, Gr3, ?_, fun kk h => hgs kk (pick2_mem h), Nat.le_trans (pick2_len gs i) hgl, rfl, h3⟩⟩
        show DV.d (.list (pick2 (gs.map _) i)) = _
        rw [pick2_map]
      · obtain ⟨hs, Gr3, rfl, h1, h2, rfl, h3⟩ := q
        exact ⟨_, rfl, by rw [List.length_map]; omega, ⟨hs, rfl, h1, h2⟩, [], Gr3, rfl, rfl, (fun q hq => by cases hq), rfl, h3.mono (by omega)⟩
      · obtain ⟨hs, rfl, h1, h2⟩ := hP
        obtain ⟨kk, hk, rfl⟩ := of_map_at hd
        obtain ⟨m, s2, p2, zz, fs', e1, h3, h4⟩ := hkk kk (h1 kk (List.mem_of_getElem? hk))
        have hil := (List.getElem?_eq_some_iff.mp hk).1
        have hr5 := rest_le htm e1 rows.length 0
        refine ⟨_, rg_name, fun acc G1 q => turn_each fun z => ?_⟩
        obtain ⟨ps, Gr3, rfl, hpl, hps, rfl, hR3⟩ := q
        refine xp_tup2 (x := .int kk) (Φb := fun y G2 => ∃ (j : Int) (Gr4 : Store), y = intV (1 + j) ∧ 0 ≤ j ∧ j < 1000 ∧ G2 = Gr4 ++ G' ∧ Rd (n + 3 + i + 1) r Gr4) (xd_name 7) ?_ fun y G2 w => ?_
        · refine x_binR op_add xd_int (xp_draw0 (m := restM rows kk rows.length 0) (Φ := fun y G2 => ∃ (j : Int) (Gr4 : Store), y = intV j ∧ 0 ≤ j ∧ j < 1000 ∧ G2 = Gr4 ++ G' ∧ Rd (n + 3 + i + 1) r Gr4) D hD hR3 (by omega) h4 (by omega) (Xad.i (xad_cons (xd_name 0) (xad_cons ?_ xa_nil))) fun j Gr4 h5 h6 h7 => ⟨j, Gr4, rfl, h5, by omega, rfl, h7⟩) fun y G2 w => ?_
          · refine xd_call T2 (hr.mono (by decide)) (xad_cons (xd_name 1) (xad_cons (xd_name 7) (xad_cons (xd_name 2) (xad_cons xd_int xa_nil)))) fun G Φ q => ?_
            exact ⟨rows, kk, _, _, rfl, hok, by omega, by omega, by decide, ⟨m, s2, p2, zz, fs', e1⟩, q⟩
          · obtain ⟨j, Gr4, rfl, w⟩ := w
            exact op_ii0 (fun _ => .rint _) ⟨j, Gr4, rfl, w⟩
        · obtain ⟨j, Gr4, rfl, h5, h6, rfl, h7⟩ := w
          refine ⟨_, rfl, _, rfl, ps ++ [((kk : Int), 1 + j)], Gr4, ?_, ?_, fun q hq2 => ?_, rfl, h7.mono (by omega)⟩
          · rw [List.map_append]
            rfl
          · rw [List.length_append, hpl]
            rfl
          · rcases List.mem_append.mp hq2 with hq2 | hq2
            · exact hps q hq2
            · rw [List.mem_singleton] at hq2
              subst hq2
              exact ⟨⟨lil_of (by show -100000 ≤ (kk : Int); omega) (by show (kk : Int) ≤ 100000; omega), lil_of (by show -100000 ≤ 1 + j; omega) (by show 1 + j ≤ 100000; omega)⟩, by show 0 ≤ 1 + j; omega, by show 0 < 1 + j; omega, kk, m, s2, p2, zz, fs', rfl, e1⟩
      · obtain ⟨hs, rfl, h1, h2⟩ := hP
        obtain ⟨ps, Gr3, rfl, hpl, hps, rfl, hR3⟩ := q
        rw [List.length_map] at hpl hR3
        exact ⟨l, _, _, rfl, rfl, ps, Gr3, rfl, by omega, hps, rfl, hR3.mono (by omega)⟩
    · obtain ⟨ps, Gr3, rfl, w⟩ := q
      exact ⟨ps, Gr3, rfl, w⟩
    obtain ⟨ps, Gr3, rfl, hpl, hps, rfl, hR3⟩ := q
    have shp : SeqAt.shaped (.list (ps.map pairD)) = true := (nice_lst (m := 30) (k := 1) (n := 1000) (fun d hd => by
      obtain ⟨q, hq, rfl⟩ := List.mem_map.mp hd
      exact nice_pair (hps q hq).1) (by rw [List.length_map]; exact hpl)).shaped (by decide)
    refine xss_one (xs_ret (xp_if (Φc := fun tt G2 => ∃ Gr4, G2 = Gr4 ++ G' ∧ Rd (n + 41) r Gr4) (xt_w (xw_or (Φa := fun tt G2 => G2 = Gr3 ++ G') ?_ (fun G1 q => xw_one ?_) fun G1 q => ?_)) (fun G1 q => ?_) fun G1 q => ?_))
    · exact Xb.to (xb_ned hr.units (xd_name 9) (xl_lst (ds := []) xa_nil).data shp (shaped_ints []) rfl) rfl
    · rw [q]
      refine xt_eqR (xp_draw0 (m := 2) (Φ := fun y G2 => ∃ (i : Int) (Gr4 : Store), y = intV i ∧ G2 = Gr4 ++ G' ∧ Rd (n + 41) r Gr4) D hD hR3 (by omega) (by decide) (by decide) (Xad.i (xad_cons (xd_name 0) (xad_cons xd_int xa_nil))) fun i Gr2 h1 h2 h3 => ⟨i, Gr2, rfl, rfl, h3.mono (by omega)⟩) fun y G2 w => ?_
      obtain ⟨i, Gr4, e1, e2, e3⟩ := w
      exact ⟨i, e1, Gr4, e2, e3⟩
    · exact ⟨Gr3, q, hR3.mono (by omega)⟩
    · obtain ⟨Gr4, rfl, h4⟩ := q
      exact Xd.to (xd_tup (ds := [.str "call", .int p, .tuple (ps.map pairD)]) (xad_cons xd_str (xad_cons (xd_name 6) (xad_cons (xd_tupL B (xd_name 9)) xa_nil))) (by show 3 ≤ 100000; decide)) (hq (.call (some p) ps) Gr4 ⟨fun k2 e => by rw [← Option.some.inj e]; exact lil_of (by omega) (by omega), hpl, fun q hq => (hps q hq).1⟩ (fun q hq => (hps q hq).2.1) (fun q hq => (hps q hq).2.2) (h4.mono (by omega)))
    · obtain ⟨Gr4, rfl, h4⟩ := q
      exact Xd.to (xd_tup (ds := [.str "call", .none, .tuple []]) (xad_cons xd_str (xad_cons xd_none (xad_cons (xd_tup (ds := []) xa_nil) xa_nil))) (by show 3 ≤ 100000; decide)) (hq (.call none []) Gr4 ⟨(fun k2 e => by cases e), Nat.zero_le _, fun q hq => by cases hq⟩ (fun q hq => by cases hq) (fun q hq => by cases hq) (h4.mono (by omega)))
  · intro h
    exact xss_nil ⟨rfl, rfl⟩
  -- a cancel
  refine xss_at (ρ' := eR r rows (some (intV rows.length)) (some (.d (.bool sh))) (some (ksV (openM rows rows.length 0))) (some (intV way)) none none none none none none none none) (G' := Gr1 ++ G') (xs_ifI (t := decide (way = 6) && !(openM rows rows.length 0).isEmpty) ?_ ?_ ?_) ?_
  · refine xti_and (Xb.i (xb_eqi (xd_name 5) xd_int rfl)) fun _ => Xb.i (xb_ned hr.units (xd_name 4) (xl_lst (ds := []) xa_nil).data ?_ ?_ ?_)
    · exact shaped_ints _
    · exact shaped_ints []
    · rw [eqv_nil, List.isEmpty_map]
  · intro h
    rw [Bool.and_eq_true] at h
    have hp : 0 < (openM rows rows.length 0).length := List.length_pos_iff.mpr fun e => by
      have := h.2
      rw [e] at this
      cases this
    refine xss_one (xs_ret (xp_tup2 (x := .str "cancel") (Φb := fun y G2 => ∃ (kk : Nat) (Gr2 : Store), y = intV kk ∧ kk < 100 ∧ ordAt rows kk ∧ G2 = Gr2 ++ G' ∧ Rd (n + 2) r Gr2) xd_str ?_ fun y G2 q => ?_))
    · refine xp_oneof (xd_name 4) (xp_draw0 (m := (openM rows rows.length 0).length) (Φ := fun y G2 => ∃ (i : Int) (Gr2 : Store), y = intV i ∧ 0 ≤ i ∧ i < (openM rows rows.length 0).length ∧ G2 = Gr2 ++ G' ∧ Rd (n + 2) r Gr2) D hD hR1 (by omega) (by omega) (by omega) (Xad.i (xad_cons (xd_name 0) (xad_cons (Xd.cast (xd_lenL B (xd_name 4)) (by rw [List.length_map])) xa_nil))) fun i Gr2 h1 h2 h3 => ⟨i, Gr2, rfl, h1, h2, rfl, h3.mono (by omega)⟩) fun y G2 w => ?_
      obtain ⟨i, Gr2, e1, h1, h2, e2, h3⟩ := w
      refine ⟨i, e1, h1, by rw [List.length_map]; exact h2, fun d hd => ?_⟩
      obtain ⟨kk, hk, rfl⟩ := List.mem_map.mp hd
      obtain ⟨m, s2, p2, zz, fs', e1, hlt, _⟩ := hkk kk hk
      exact ⟨kk, Gr2, rfl, by omega, ⟨kk, m, s2, p2, zz, fs', rfl, e1⟩, e2, h3⟩
    · obtain ⟨kk, Gr2, rfl, h1, hoa, rfl, h3⟩ := q
      exact ⟨_, rfl, hq (.cancel kk) Gr2 (lil_of (by omega) (by omega)) True.intro hoa (h3.mono (by omega))⟩
  · intro h
    exact xss_nil ⟨rfl, rfl⟩
  -- prints
  refine xss_at (ρ' := eR r rows (some (intV rows.length)) (some (.d (.bool sh))) (some (ksV (openM rows rows.length 0))) (some (intV way)) none none none none none none none none) (G' := Gr1 ++ G') (xs_ifD (t := decide (3 < way)) ?_ ?_ ?_) ?_
  · exact xb_gt (xd_name 5) xd_int rfl
  · intro h
    refine xss_one (xs_ret (xp_tup2 (x := .str "prints") (Φb := fun y G2 => ∃ fs Gr2, y = .d (.tuple (fs.map filD)) ∧ okFs fs ∧ (∀ f ∈ fs, goodF rows f) ∧ G2 = Gr2 ++ G' ∧ Rd (n + 101) r Gr2) xd_str (xp_ifD (t := sh) (xb_val (xd_name 3)) (fun _ => ?_) fun _ => ?_) fun y G2 q => ?_))
    · exact Xd.to (xd_tup (ds := []) xa_nil) ⟨[], Gr1, rfl, ⟨Nat.zero_le _, fun f h => by cases h⟩, (fun f h => by cases h), rfl, hR1.mono (by omega)⟩
    · refine xp_call W (hr.mono (by decide)) (Xad.i (xs := [.a r, rowsV rows, intV 2, intV 9, .d (sideD none), intV 0]) (xad_cons (xd_name 0) (xad_cons (xd_name 1) (xad_cons xd_int (xad_cons xd_int (xad_cons xd_none (xad_cons xd_int xa_nil))))))) fun xs G2 q => ?_
      exact ⟨[], G2, rfl, r, n + 1, rows, 2, 9, 0, none, Gr1, G', q.1, q.2, hR1, by omega, hok, by omega, by decide, by decide, by decide, by decide, fun fs Gr2 h1 h0 h2 => ⟨fs, Gr2, rfl, h1, h0, rfl, h2.mono (by omega)⟩⟩
    · obtain ⟨fs, Gr2, rfl, h1, h0, rfl, h3⟩ := q
      exact ⟨_, rfl, hq (.prints fs) Gr2 h1 (fun f hf => Int.le_of_lt (h0 f hf).1) h0 (h3.mono (by omega))⟩
  · intro h
    exact xss_nil ⟨rfl, rfl⟩
  -- side, price
  refine xss_cons (M := fun ρ' G2 => ∃ (sd : Str) (p : Int) (Gr2 : Store), ρ' = eR r rows (some (intV rows.length)) (some (.d (.bool sh))) (some (ksV (openM rows rows.length 0))) (some (intV way)) (some (intV p)) none none none (some (.d (.str sd))) none none none ∧ okS 8 sd ∧ 8 ≤ p ∧ p ≤ 12 ∧ G2 = Gr2 ++ G' ∧ Rd (n + 3) r Gr2) ?_ fun ρ' G2 q => ?_
  · refine xs_asg (js := [10] ++ ([6] ++ [])) (Φe := fun y G2 => ∃ (sd : Str) (p : Int) (Gr2 : Store), y = .d (.tuple [.str sd, .int p]) ∧ okS 8 sd ∧ 8 ≤ p ∧ p ≤ 12 ∧ G2 = Gr2 ++ G' ∧ Rd (n + 3) r Gr2) ?_ (pg_tup (n := 2) rfl (pgs_cons (pg_name (i := 10) scRow.nd rfl (Or.inl rfl)) (pgs_cons (pg_name (i := 6) scRow.nd rfl (Or.inr rfl)) pgs_nil))) fun x G2 q => ?_
    · refine xp_tup (Φl := fun xs G2 => ∃ (sd : Str) (p : Int) (Gr2 : Store), xs = [.d (.str sd), intV p] ∧ okS 8 sd ∧ 8 ≤ p ∧ p ≤ 12 ∧ G2 = Gr2 ++ G' ∧ Rd (n + 3) r Gr2) (xa_two (Φa := fun y G2 => ∃ (sd : Str) (Gr2 : Store), y = .d (.str sd) ∧ okS 8 sd ∧ G2 = Gr2 ++ G' ∧ Rd (n + 2) r Gr2) ?_ fun x G1 q => ?_) fun xs G2 q => ?_
      · refine xp_oneof (ds := [.str (u "buy"), .str (u "sell")]) (xl_lst (xad_cons xd_str (xad_cons xd_str xa_nil))).data (xp_draw0 (m := 2) (Φ := fun y G2 => ∃ (i : Int) (Gr2 : Store), y = intV i ∧ 0 ≤ i ∧ i < 2 ∧ G2 = Gr2 ++ G' ∧ Rd (n + 2) r Gr2) D hD hR1 (by omega) (by decide) (by decide) (Xad.i (xad_cons (xd_name 0) (xad_cons xd_int xa_nil))) fun i Gr2 h1 h2 h3 => ⟨i, Gr2, rfl, h1, h2, rfl, h3.mono (by omega)⟩) fun y G2 w => ?_
        obtain ⟨i, Gr2, e1, h1, h2, e2, h3⟩ := w
        refine ⟨i, e1, h1, h2, fun d hd => ?_⟩
        simp only [List.mem_cons, List.not_mem_nil, or_false] at hd
        rcases hd with e | e <;> subst e
        · exact ⟨_, Gr2, rfl, (okS_lit "buy").mono (by decide), e2, h3⟩
        · exact ⟨_, Gr2, rfl, (okS_lit "sell").mono (by decide), e2, h3⟩
      · obtain ⟨sd, Gr2, rfl, hsd, rfl, h3⟩ := q
        refine x_binR op_add xd_int (xp_draw0 (m := 5) (Φ := fun y G2 => ∃ (i : Int) (Gr2 : Store), y = intV i ∧ 0 ≤ i ∧ i < 5 ∧ G2 = Gr2 ++ G' ∧ Rd (n + 3) r Gr2) D hD h3 (by omega) (by decide) (by decide) (Xad.i (xad_cons (xd_name 0) (xad_cons xd_int xa_nil))) fun i Gr2 h1 h2 h3 => ⟨i, Gr2, rfl, h1, h2, rfl, h3.mono (by omega)⟩) fun y G2 w => ?_
        obtain ⟨i, Gr3, rfl, h1, h2, e2, h4⟩ := w
        exact op_ii0 (fun _ => .rint _) ⟨sd, 8 + i, Gr3, rfl, hsd, by omega, by omega, e2, h4⟩
      · obtain ⟨sd, p, Gr2, rfl, w⟩ := q
        exact ⟨[.str sd, .int p], rfl, by show 2 ≤ 100000; decide, sd, p, Gr2, rfl, w⟩
    · obtain ⟨sd, p, Gr2, rfl, w⟩ := q
      exact ⟨_, rg_tup rfl (rgs_cons rg_name (rgs_cons rg_name rgs_nil)), sd, p, Gr2, rfl, w⟩
  obtain ⟨sd, p, Gr2, rfl, hsd, hp1, hp2, rfl, hR2⟩ := q
  -- size, member
  refine xss_cons (M := fun ρ' G2 => ∃ (z : Int) (m : Str) (Gr3 : Store), ρ' = eR r rows (some (intV rows.length)) (some (.d (.bool sh))) (some (ksV (openM rows rows.length 0))) (some (intV way)) (some (intV p)) none none none (some (.d (.str sd))) (some (intV z)) (some (.d (.str m))) none ∧ (okS 8 m ∧ m ∈ memL) ∧ 1 ≤ z ∧ z ≤ 6 ∧ G2 = Gr3 ++ G' ∧ Rd (n + 5) r Gr3) ?_ fun ρ' G2 q => ?_
  · refine xs_par 11 12 (Φl := fun xs G2 => ∃ (z : Int) (m : Str) (Gr3 : Store), xs = [intV z, .d (.str m)] ∧ (okS 8 m ∧ m ∈ memL) ∧ 1 ≤ z ∧ z ≤ 6 ∧ G2 = Gr3 ++ G' ∧ Rd (n + 5) r Gr3) (xa_two (Φa := fun y G2 => ∃ (z : Int) (Gr3 : Store), y = intV z ∧ 1 ≤ z ∧ z ≤ 6 ∧ G2 = Gr3 ++ G' ∧ Rd (n + 4) r Gr3) ?_ (fun x G1 q => ?_)) (fun xs G2 q => ?_) scRow.nd
    · refine x_binR op_add xd_int (xp_draw0 (m := 6) (Φ := fun y G2 => ∃ (i : Int) (Gr2 : Store), y = intV i ∧ 0 ≤ i ∧ i < 6 ∧ G2 = Gr2 ++ G' ∧ Rd (n + 4) r Gr2) D hD hR2 (by omega) (by decide) (by decide) (Xad.i (xad_cons (xd_name 0) (xad_cons xd_int xa_nil))) fun i Gr2 h1 h2 h3 => ⟨i, Gr2, rfl, h1, h2, rfl, h3.mono (by omega)⟩) fun y G2 w => ?_
      obtain ⟨i, Gr3, rfl, h1, h2, e2, h4⟩ := w
      exact op_ii0 (fun _ => .rint _) ⟨1 + i, Gr3, rfl, by omega, by omega, e2, h4⟩
    · obtain ⟨z, Gr3, rfl, hz1, hz2, rfl, h3⟩ := q
      refine xp_oneof (ds := [.str (u "ann"), .str (u "bob"), .str (u "cy")]) (xl_lst (xad_cons xd_str (xad_cons xd_str (xad_cons xd_str xa_nil)))).data (xp_draw0 (m := 3) (Φ := fun y G2 => ∃ (i : Int) (Gr2 : Store), y = intV i ∧ 0 ≤ i ∧ i < 3 ∧ G2 = Gr2 ++ G' ∧ Rd (n + 5) r Gr2) D hD h3 (by omega) (by decide) (by decide) (Xad.i (xad_cons (xd_name 0) (xad_cons xd_int xa_nil))) fun i Gr2 h1 h2 h3 => ⟨i, Gr2, rfl, h1, h2, rfl, h3.mono (by omega)⟩) fun y G2 w => ?_
      obtain ⟨i, Gr4, e1, h1, h2, e2, h4⟩ := w
      refine ⟨i, e1, h1, h2, fun d hd => ?_⟩
      simp only [List.mem_cons, List.not_mem_nil, or_false] at hd
      rcases hd with e | e | e <;> subst e
      · exact ⟨z, _, Gr4, rfl, ⟨(okS_lit "ann").mono (by decide), by decide +kernel⟩, hz1, hz2, e2, h4⟩
      · exact ⟨z, _, Gr4, rfl, ⟨(okS_lit "bob").mono (by decide), by decide +kernel⟩, hz1, hz2, e2, h4⟩
      · exact ⟨z, _, Gr4, rfl, ⟨(okS_lit "cy").mono (by decide), by decide +kernel⟩, hz1, hz2, e2, h4⟩
    · obtain ⟨z, m, Gr3, rfl, w⟩ := q
      exact ⟨_, _, rfl, z, m, Gr3, rfl, w⟩
  obtain ⟨z, m, Gr3, rfl, hmm, hz1, hz2, rfl, hR3⟩ := q
  -- taken
  refine xss_cons (M := fun ρ' G2 => ∃ fs Gr4, ρ' = eR r rows (some (intV rows.length)) (some (.d (.bool sh))) (some (ksV (openM rows rows.length 0))) (some (intV way)) (some (intV p)) none none none (some (.d (.str sd))) (some (intV z)) (some (.d (.str m))) (some (.d (.tuple (fs.map filD)))) ∧ okFs fs ∧ (∀ f ∈ fs, goodF rows f) ∧ G2 = Gr4 ++ G' ∧ Rd (n + 105) r Gr4) (xs_set 13 (Φe := fun y G2 => ∃ fs Gr4, y = .d (.tuple (fs.map filD)) ∧ okFs fs ∧ (∀ f ∈ fs, goodF rows f) ∧ G2 = Gr4 ++ G' ∧ Rd (n + 105) r Gr4) (xp_ifD (t := sh) (xb_val (xd_name 3)) (fun _ => ?_) fun _ => ?_) (fun y G2 q => ?_) scRow.nd) fun ρ' G2 q => ?_
  · exact Xd.to (xd_tup (ds := []) xa_nil) ⟨[], Gr3, rfl, ⟨Nat.zero_le _, fun f h => by cases h⟩, (fun f h => by cases h), rfl, hR3.mono (by omega)⟩
  · refine xp_call W (hr.mono (by decide)) (Xad.i (xs := [.a r, rowsV rows, intV 2, intV z, .d (sideD (some sd)), intV p]) (xad_cons (xd_name 0) (xad_cons (xd_name 1) (xad_cons xd_int (xad_cons (xd_name 11) (xad_cons (xd_name 10) (xad_cons (xd_name 6) xa_nil))))))) fun xs G2 q => ?_
    exact ⟨[], G2, rfl, r, n + 5, rows, 2, z, p, some sd, Gr3, G', q.1, q.2, hR3, by omega, hok, by omega, by decide, by decide, by omega, by omega, fun fs Gr2 h1 h0 h2 => ⟨fs, Gr2, rfl, h1, h0, rfl, h2.mono (by omega)⟩⟩
  · obtain ⟨fs, Gr4, rfl, w⟩ := q
    exact ⟨fs, Gr4, rfl, w⟩
  obtain ⟨fs, Gr4, rfl, hf, hfp, rfl, hR4⟩ := q
  refine xss_one (xs_ret (Xd.to (xd_tup (ds := [.str "order", .str m, .str sd, .int p, .int z, .tuple (fs.map filD)]) (xad_cons xd_str (xad_cons (xd_name 12) (xad_cons (xd_name 10) (xad_cons (xd_name 6) (xad_cons (xd_name 11) (xad_cons (xd_name 13) xa_nil)))))) (by show 6 ≤ 100000; decide)) (hq (.order m sd p z fs) Gr4 ⟨hmm.1, hsd, lil_of (by omega) (by omega), lil_of (by omega) (by omega), hf⟩ ⟨by omega, fun f hf => Int.le_of_lt (hfp f hf).1⟩ ⟨hmm.2, by omega, hfp⟩ (hR4.mono (by omega)))))
end
end K5

set_option Elab.async false
set_option linter.all false
set_option maxRecDepth 100000
set_option maxHeartbeats 2000000
namespace K5
open PySem PySem.Spec L2 Fsh Rec
abbrev sRrs : Stmt := topG 43
abbrev sRr : Stmt := topG 44
abbrev sFix : Stmt := topG 45
abbrev NRrs : List Str := ["_law_reader_here", "_law_most", "_law_rows", "_law_k"]
abbrev NRr : List Str := ["_law_reader_here", "_law_most"]
abbrev NFix : List Str := ["_law_first", "_law_shut", "_law_late"]
theorem scRrs : FnScope NRrs ["_law_reader_here", "_law_most"] (defScope sRrs) := ⟨rfl, rfl, rfl, by decide +kernel, rfl, by decide +kernel, by decide +kernel⟩
theorem scRr : FnScope NRr ["_law_reader_here", "_law_most"] (defScope sRr) := ⟨rfl, rfl, rfl, by decide +kernel, rfl, by decide +kernel, by decide +kernel⟩
theorem scFix : FnScope NFix [] (defScope sFix) := ⟨rfl, rfl, rfl, by decide +kernel, rfl, by decide +kernel, by decide +kernel⟩
/-- each row may follow those before it -/
def validR (rows : List RowM) : Prop := ∀ (t : Nat) (r : RowM), rows[t]? = some r → goodR (rows.take t) r
theorem validR_snoc {rows : List RowM} {r : RowM} (h : validR rows) (hr : goodR rows r) : validR (rows ++ [r]) := by
  intro t x e
  by_cases ht : t < rows.length
  · rw [List.getElem?_append_left ht] at e
    rw [List.take_append_of_le_length (Nat.le_of_lt ht)]
    exact h t x e
  · have h2 := (List.getElem?_eq_some_iff.mp e).1
    rw [List.length_append] at h2
    have h3 : t = rows.length := by
      have : t < rows.length + 1 := h2
      omega
    subst h3
    rw [List.getElem?_concat_length] at e
    rw [← Option.some.inj e, List.take_left]
    exact hr
theorem validR_nil : validR [] := fun t r e => by cases e
def zRrs : Fsh.Spec := fun xs G Φ => ∃ (r : Addr) (n most : Int) (Gr G' : Store), xs = [.a r, intV most] ∧ G = Gr ++ G' ∧ Rd n r Gr ∧ n < 700000 ∧ 0 ≤ most ∧ most ≤ 9 ∧ (∀ p ∈ G', noLc p.2 = true) ∧
  ∀ rows Gr', okRs rows → rows.length ≤ 20 → validR rows → Rd (n + 5000) r Gr' → Φ (.d (.list (rows.map rowD))) (Gr' ++ G')
def recP (c : Str × List RowM) : PyData := .tuple [.str c.1, .tuple (c.2.map rowD)]
def okP' (c : Str × List RowM) : Prop := okS 8 c.1 ∧ c.2.length ≤ 40 ∧ ∀ r ∈ c.2, okR r
def zRr : Fsh.Spec := fun xs G Φ => ∃ (r : Addr) (n most : Int) (Gr G' : Store), xs = [.a r, intV most] ∧ G = Gr ++ G' ∧ Rd n r Gr ∧ n < 600000 ∧ 0 ≤ most ∧ most ≤ 9 ∧ (∀ p ∈ G', noLc p.2 = true) ∧
  ∀ c Gr', okP' c → validR c.2 → Rd (n + 6000) r Gr' → Φ (.d (recP c)) (Gr' ++ G')
theorem Rd.mem {n : Int} {r : Addr} {G : Store} (h : Rd n r G) : r ∈ G.map (·.1) := by
  obtain ⟨c, cs, sp, rs, cl, rfl, _⟩ := h
  exact List.mem_cons_of_mem _ List.mem_cons_self
theorem noLs_map {α : Type} (f : α → PyData) : ∀ xs : List α, (∀ x ∈ xs, noL (f x) = true) → noLs (xs.map f) = true
  | [], _ => rfl
  | x :: xs, h => by
    rw [List.map_cons]
    have h1 := noLs_map f xs fun y hy => h y (List.mem_cons_of_mem _ hy)
    have h2 := h x List.mem_cons_self
    unfold noLs
    rw [h1, h2]
    rfl
theorem noL_opt (o : Option Int) : noL (optD o) = true := by cases o <;> rfl
theorem noL_fil (f : Fil) : noL (filD f) = true := by
  unfold filD
  simp only [noL, noLs, noL_opt, Bool.and_true, Bool.true_and]
theorem noL_row (r : RowM) : noL (rowD r) = true := by
  cases r with
  | order m s p z fs => simp only [rowD, noL, noLs, noLs_map filD fs fun x _ => noL_fil x, Bool.and_true, Bool.true_and]
  | cancel n => rfl
  | prints fs => simp only [rowD, noL, noLs, noLs_map filD fs fun x _ => noL_fil x, Bool.and_true, Bool.true_and]
  | closed => rfl
  | call p ps => simp only [rowD, noL, noLs, noL_opt, noLs_map pairD ps fun x _ => rfl, Bool.and_true, Bool.true_and]
section
variable {P : Program} {w : World} {K : PySem.W.Frag} {mg : Str → Option Value} {base : Heap}
theorem f_rrs {f : Addr} {fd : FuncData} (F1 : Fun K "_law_random_rows" "_law_random_rows" sRrs f fd) (hm : mg "_law_random_rows" = some (.ref f)) (B : Bn mg) (D : Fn P w K mg base 1 "_law_draw" ["_law_reader_here", "_law_many"] zDraw) (W : Fn P w K mg base 5 "_law_new_row" ["_law_reader_here", "_law_rows"] zRow) : Fn P w K mg base 6 "_law_random_rows" ["_law_reader_here", "_law_most"] zRrs := by
  refine fn_rule F1 scRrs (F1.binds fun _ _ _ _ _ _ us hl => match us, hl with | [_, _], _ => rfl) hm (fun xs G Φ h => by obtain ⟨_, _, _, _, _, rfl, _⟩ := h; rfl) fun cdv A outer s H E hr xs G Φ hz => ?_
  obtain ⟨r, n, most, Gr, G', rfl, rfl, hR, hn, hm0, hm8, hG, hq⟩ := hz
  have hD : Room 1 (A.deeper (PyProof.Rows.envOfC (Str.ofString "_law_random_rows") (defScope sRrs) s.heap.objs.size f cdv)) := hr.mono (by decide)
  refine xss_cons (M := fun ρ' G2 => ∃ (l : Addr) (rows : List RowM) (Gr1 : Store), ρ' = [some (.a r), some (intV most), some (.a l), none] ∧ G2 = (l, .lst (rows.map rowD)) :: (Gr1 ++ G') ∧ okRs rows ∧ (∀ x ∈ rows, tameR x) ∧ validR rows ∧ rows.length ≤ 1 ∧ Rd (n + 1) r Gr1) (xs_set 2 (Φe := fun y G2 => ∃ (l : Addr) (rows : List RowM) (Gr1 : Store), y = .a l ∧ G2 = (l, .lst (rows.map rowD)) :: (Gr1 ++ G') ∧ okRs rows ∧ (∀ x ∈ rows, tameR x) ∧ validR rows ∧ rows.length ≤ 1 ∧ Rd (n + 1) r Gr1) ?_ (fun y G2 q => ?_) scRrs.nd) fun ρ' G2 q => ?_
  · refine xp_if (Φc := fun tt G2 => ∃ Gr1, G2 = Gr1 ++ G' ∧ Rd (n + 1) r Gr1) (xt_eqR (xp_draw0 (m := 3) (Φ := fun y G2 => ∃ (i : Int) (Gr1 : Store), y = intV i ∧ G2 = Gr1 ++ G' ∧ Rd (n + 1) r Gr1) D hD hR (by omega) (by decide) (by decide) (Xad.i (xad_cons (xd_name 0) (xad_cons xd_int xa_nil))) fun i Gr1 h1 h2 h3 => ⟨i, Gr1, rfl, rfl, h3⟩) fun y G2 w => ?_) (fun G1 q => ?_) fun G1 q => ?_
    · obtain ⟨i, Gr1, e1, e2, e3⟩ := w
      exact ⟨i, e1, Gr1, e2, e3⟩
    · obtain ⟨Gr1, rfl, h3⟩ := q
      refine (Xl.g (xl_lst (ds := [.tuple [.str "closed"]]) (xad_cons (xd_tup (ds := [.str "closed"]) (xad_cons xd_str xa_nil)) xa_nil))).imp fun y G2 w => ?_
      obtain ⟨l, e1, e2⟩ := w
      exact ⟨l, [.closed], Gr1, e1, e2, ⟨by decide, fun x hx => by rw [List.mem_singleton.mp hx]; exact True.intro⟩, (fun x hx => by rw [List.mem_singleton.mp hx]; exact True.intro), (validR_snoc (rows := []) validR_nil rfl), Nat.le_refl _, h3⟩
    · obtain ⟨Gr1, rfl, h3⟩ := q
      refine (Xl.g (xl_lst (ds := []) xa_nil)).imp fun y G2 w => ?_
      obtain ⟨l, e1, e2⟩ := w
      exact ⟨l, [], Gr1, e1, e2, ⟨by decide, fun x hx => by cases hx⟩, (fun x hx => by cases hx), validR_nil, by decide, h3⟩
  · obtain ⟨l, rows, Gr1, rfl, w⟩ := q
    exact ⟨l, rows, Gr1, rfl, w⟩
  obtain ⟨l, rows0, Gr1, rfl, rfl, hok0, htm0, hv0, hl0, hR1⟩ := q
  refine xss_cons (M := fun ρ' G2 => ∃ (rows : List RowM) (Gr1 : Store) (t3 : Option DV), ρ' = [some (.a r), some (intV most), some (.a l), t3] ∧ G2 = (l, .lst (rows.map rowD)) :: (Gr1 ++ G') ∧ okRs rows ∧ rows.length ≤ 20 ∧ validR rows ∧ Rd (n + 5000) r Gr1)
    (xs_forR (js := [3]) (Φl := fun xs G2 => ∃ c Gr1, xs = [intV c] ∧ 0 ≤ c ∧ c ≤ most ∧ Rd (n + 2) r Gr1 ∧ G2 = (l, .lst (rows0.map rowD)) :: (Gr1 ++ G'))
      (fun c k ρ1 G1 => c ≤ 9 ∧ ∃ (rows : List RowM) (Gr1 : Store) (t3 : Option DV), ρ1 = [some (.a r), some (intV most), some (.a l), t3] ∧ G1 = (l, .lst (rows.map rowD)) :: (Gr1 ++ G') ∧ okRs rows ∧ (∀ x ∈ rows, tameR x) ∧ validR rows ∧ rows.length ≤ 1 + k ∧ Rd (n + 2 + 300 * k) r Gr1) PassesOwn.never B.range ?_ (pg_name (i := 3) scRrs.nd rfl (Or.inl rfl)) ?_ ?_ ?_) fun ρ' G2 q => ?_
  · refine xa_step (xp_draw (G1 := [(l, .lst (rows0.map rowD))]) (m := most + 1) (Φ := fun y G2 => ∃ c Gr1, y = intV c ∧ 0 ≤ c ∧ c ≤ most ∧ Rd (n + 2) r Gr1 ∧ G2 = (l, .lst (rows0.map rowD)) :: (Gr1 ++ G')) D hD hR1 (by omega) (by omega) (by omega) (Xad.i (xad_cons (xd_name 0) (xad_cons (xd_add (xd_name 1) xd_int) xa_nil))) fun i Gr2 h1 h2 h3 => ⟨i, Gr2, rfl, h1, by omega, h3.mono (by omega), rfl⟩) fun x G1 q => xa_end ?_
    obtain ⟨c, Gr2, rfl, w⟩ := q
    exact ⟨c, Gr2, rfl, w⟩
  · rintro xs G1 ⟨c, Gr2, rfl, h1, h2, h3, rfl⟩
    exact ⟨c, rfl, by omega, by omega, by omega, rows0, Gr2, none, rfl, rfl, hok0, htm0, hv0, by omega, h3.mono (by omega)⟩
  · rintro c k ρ1 G1 hk ⟨hc8, rows, Gr2, t3, rfl, rfl, hok, htm, hv, hl, hR2⟩
    refine ⟨_, rg_name, ?_⟩
    refine xss_one (xs_expr (Φe := fun y G2 => ∃ (row : RowM) (Gr3 : Store), okR row ∧ tameR row ∧ goodR rows row ∧ Rd (n + 2 + 300 * k + 300) r Gr3 ∧ G2 = (l, .lst ((rows ++ [row]).map rowD)) :: (Gr3 ++ G')) (xp_append (Φe := fun y G2 => ∃ (row : RowM) (Gr3 : Store), y = .d (rowD row) ∧ okR row ∧ tameR row ∧ goodR rows row ∧ Rd (n + 2 + 300 * k + 300) r Gr3 ∧ G2 = (l, .lst (rows.map rowD)) :: (Gr3 ++ G')) (xd_name 2) ⟨_, List.mem_cons_self⟩ (R.nd fun nd => xp_frozen ?_) fun y G2 w => ?_) fun y G2 w => ?_)
    · have hne : r ≠ l := fun e => by
        rw [List.map_cons, List.map_append] at nd
        exact (List.nodup_cons.mp nd).1 (e ▸ List.mem_append_left _ hR2.mem)
      refine xp_call W (hr.mono (by decide)) (Xad.i (xs := [.a r, rowsV rows]) (xad_cons (xd_name 0 (hr := thaw_ne rfl hne)) (xad_cons (xd_name 2 (hr := thaw_at rfl)) xa_nil))) fun xs G2 q => ?_
      refine ⟨[], G2, rfl, r, n + 2 + 300 * k, rows, Gr2, G', q.1, q.2, hR2, by omega, hok, htm, by omega, fun row Gr3 h1 h2 hg h3 => ⟨noL_row row, fun p hp => ?_, row, Gr3, rfl, h1, h2, hg, h3, rfl⟩⟩
      have hp : p ∈ Gr3 ++ G' := hp
      rcases List.mem_append.mp hp with hp | hp
      · exact h3.noL p hp
      · exact hG p hp
    · obtain ⟨row, Gr3, rfl, h1, h2, hg, h3, rfl⟩ := w
      refine ⟨_, [], rows.map rowD, Gr3 ++ G', rfl, rfl, by rw [List.length_map]; omega, row, Gr3, h1, h2, hg, h3, ?_⟩
      rw [List.map_append]
      rfl
    · obtain ⟨row, Gr3, h1, h2, hg, h3, rfl⟩ := w
      refine ⟨hc8, rows ++ [row], Gr3, _, rfl, rfl, ⟨?_, fun x hx => ?_⟩, fun x hx => ?_, validR_snoc hv hg, ?_, h3.mono (by omega)⟩
      · rw [List.length_append]
        show rows.length + 1 ≤ 40
        omega
      · rcases List.mem_append.mp hx with h | h
        · exact hok.2 x h
        · rw [List.mem_singleton.mp h]
          exact h1
      · rcases List.mem_append.mp hx with h | h
        · exact htm x h
        · rw [List.mem_singleton.mp h]
          exact h2
      · rw [List.length_append]
        show rows.length + 1 ≤ 1 + (k + 1)
        omega
  · rintro c ρ1 G1 ⟨hc8, rows, Gr2, t3, rfl, rfl, hok, htm, hv, hl, hR2⟩
    exact ⟨rows, Gr2, t3, rfl, rfl, hok, by omega, hv, hR2.mono (by omega)⟩
  obtain ⟨rows, Gr2, t3, rfl, rfl, hok, hl, hv, hR2⟩ := q
  exact xss_one (xs_ret (xp_give (Xd.to (xd_name 2) ⟨l, _, _, rfl, rfl, hq rows Gr2 hok hl hv hR2⟩)))
theorem f_rr {f : Addr} {fd : FuncData} (F1 : Fun K "_law_random_record" "_law_random_record" sRr f fd) (hm : mg "_law_random_record" = some (.ref f)) (B : Bn mg) (D : Fn P w K mg base 1 "_law_draw" ["_law_reader_here", "_law_many"] zDraw) (W : Fn P w K mg base 6 "_law_random_rows" ["_law_reader_here", "_law_most"] zRrs) : Fn P w K mg base 7 "_law_random_record" ["_law_reader_here", "_law_most"] zRr := by
  refine fn_rule F1 scRr (F1.binds fun _ _ _ _ _ _ us hl => match us, hl with | [_, _], _ => rfl) hm (fun xs G Φ h => by obtain ⟨_, _, _, _, _, rfl, _⟩ := h; rfl) fun cdv A outer s H E hr xs G Φ hz => ?_
  obtain ⟨r, n, most, Gr, G', rfl, rfl, hR, hn, hm0, hm8, hG, hq⟩ := hz
  have hD : Room 1 (A.deeper (PyProof.Rows.envOfC (Str.ofString "_law_random_record") (defScope sRr) s.heap.objs.size f cdv)) := hr.mono (by decide)
  refine xss_one (xs_ret (xp_tup (Φl := fun xs G2 => ∃ (c : Str × List RowM) (Gr1 : Store), xs = [.d (.str c.1), .d (.tuple (c.2.map rowD))] ∧ okP' c ∧ validR c.2 ∧ G2 = Gr1 ++ G' ∧ Rd (n + 6000) r Gr1) (xa_two (Φa := fun y G2 => ∃ (rule : Str) (Gr1 : Store), y = .d (.str rule) ∧ okS 8 rule ∧ G2 = Gr1 ++ G' ∧ Rd (n + 1) r Gr1) ?_ fun x G1 q => ?_) fun xs G2 q => ?_))
  · refine xp_oneof (ds := [.str (u "time"), .str (u "late"), .str (u "price")]) (xl_lst (xad_cons xd_str (xad_cons xd_str (xad_cons xd_str xa_nil)))).data (xp_draw0 (m := 3) (Φ := fun y G2 => ∃ (i : Int) (Gr2 : Store), y = intV i ∧ 0 ≤ i ∧ i < 3 ∧ G2 = Gr2 ++ G' ∧ Rd (n + 1) r Gr2) D hD hR (by omega) (by decide) (by decide) (Xad.i (xad_cons (xd_name 0) (xad_cons xd_int xa_nil))) fun i Gr2 h1 h2 h3 => ⟨i, Gr2, rfl, h1, h2, rfl, h3⟩) fun y G2 w => ?_
    obtain ⟨i, Gr4, e1, h1, h2, e2, h4⟩ := w
    refine ⟨i, e1, h1, h2, fun d hd => ?_⟩
    simp only [List.mem_cons, List.not_mem_nil, or_false] at hd
    rcases hd with e | e | e <;> subst e
    · exact ⟨_, Gr4, rfl, (okS_lit "time").mono (by decide), e2, h4⟩
    · exact ⟨_, Gr4, rfl, (okS_lit "late").mono (by decide), e2, h4⟩
    · exact ⟨_, Gr4, rfl, (okS_lit "price").mono (by decide), e2, h4⟩
  · obtain ⟨rule, Gr1, rfl, h0, rfl, h3⟩ := q
    refine xp_tupL (Φe := fun y G2 => ∃ (rows : List RowM) (Gr2 : Store), y = rowsV rows ∧ okRs rows ∧ validR rows ∧ G2 = Gr2 ++ G' ∧ Rd (n + 6000) r Gr2) B ?_ fun y G2 q => ?_
    · refine xp_call W (hr.mono (by decide)) (Xad.i (xs := [.a r, intV most]) (xad_cons (xd_name 0) (xad_cons (xd_name 1) xa_nil))) fun xs G2 q => ?_
      exact ⟨[], G2, rfl, r, n + 1, most, Gr1, G', q.1, q.2, h3, by omega, hm0, hm8, hG, fun rows Gr2 h1 h2 hv h4 => ⟨rows, Gr2, rfl, h1, hv, rfl, h4.mono (by omega)⟩⟩
    · obtain ⟨rows, Gr2, rfl, h1, hv, rfl, h4⟩ := q
      exact ⟨_, rfl, (rule, rows), Gr2, rfl, ⟨h0, h1.1, h1.2⟩, hv, rfl, h4⟩
  · obtain ⟨c, Gr1, rfl, h1, hv, rfl, h4⟩ := q
    exact ⟨[.str c.1, .tuple (c.2.map rowD)], rfl, by show 2 ≤ 100000; decide, hq c Gr1 h1 hv h4⟩
end
end K5

set_option Elab.async false
set_option linter.all false
set_option maxRecDepth 100000
set_option maxHeartbeats 2000000
namespace K5
open PySem PySem.Spec L2 Fsh Rec
def oR (m s : String) (p z : Int) (fs : List Fil) : RowM := .order (u m) (u s) p z fs
def first1 : List RowM := [oR "ann" "buy" 10 3 [], oR "bob" "buy" 10 2 []]
def first2 : List RowM := [.prints [(10, 1, none), (10, 1, some 0)], .prints [(10, 1, none)]]
def shut1 : List RowM := [.closed, oR "ann" "sell" 9 4 [], oR "cy" "buy" 11 2 [], .prints []]
def shut2 : List RowM := [oR "bob" "sell" 9 1 [], .call (some 10) [(1, 1), (2, 2)], .cancel 1]
def shut3 : List RowM := [.prints [(9, 1, some 4), (12, 3, none)]]
def late1 : List RowM := [oR "ann" "sell" 9 2 [], oR "bob" "buy" 9 5 [(8, 1, none), (9, 2, some 0)]]
def late2 : List RowM := [oR "ann" "sell" 9 1 [(9, 1, some 1)], .cancel 1, .prints [(7, 1000, none)]]
def fixR : List (Str × List RowM) := [(u "time", first1 ++ first2), (u "late", shut1 ++ shut2 ++ shut3), (u "price", late1 ++ late2), (u "time", []), (u "late", [.closed])]
def zFix : Fsh.Spec := fun xs G Φ => xs = [] ∧ ∀ l, Φ (.a l) ((l, .lst (fixR.map recP)) :: G)
def fx1 : List PyData := [.tuple [.str (u "order"), .str (u "ann"), .str (u "buy"), .int 10, .int 3, .tuple []], .tuple [.str (u "order"), .str (u "bob"), .str (u "buy"), .int 10, .int 2, .tuple []]]
def fx2 : List PyData := [.tuple [.str (u "prints"), .tuple [.tuple [.int 10, .int 1, .none], .tuple [.int 10, .int 1, .int 0]]], .tuple [.str (u "prints"), .tuple [.tuple [.int 10, .int 1, .none]]]]
def fx3 : List PyData := [.tuple [.str (u "closed")], .tuple [.str (u "order"), .str (u "ann"), .str (u "sell"), .int 9, .int 4, .tuple []], .tuple [.str (u "order"), .str (u "cy"), .str (u "buy"), .int 11, .int 2, .tuple []], .tuple [.str (u "prints"), .tuple []]]
def fx4 : List PyData := [.tuple [.str (u "order"), .str (u "bob"), .str (u "sell"), .int 9, .int 1, .tuple []], .tuple [.str (u "call"), .int 10, .tuple [.tuple [.int 1, .int 1], .tuple [.int 2, .int 2]]], .tuple [.str (u "cancel"), .int 1]]
def fx5 : List PyData := [.tuple [.str (u "prints"), .tuple [.tuple [.int 9, .int 1, .int 4], .tuple [.int 12, .int 3, .none]]]]
def fx6 : List PyData := [.tuple [.str (u "order"), .str (u "ann"), .str (u "sell"), .int 9, .int 2, .tuple []], .tuple [.str (u "order"), .str (u "bob"), .str (u "buy"), .int 9, .int 5, .tuple [.tuple [.int 8, .int 1, .none], .tuple [.int 9, .int 2, .int 0]]]]
def fx7 : List PyData := [.tuple [.str (u "order"), .str (u "ann"), .str (u "sell"), .int 9, .int 1, .tuple [.tuple [.int 9, .int 1, .int 1]]], .tuple [.str (u "cancel"), .int 1], .tuple [.str (u "prints"), .tuple [.tuple [.int 7, .int 1000, .none]]]]
def fxL : List PyData := [.tuple [.str (u "time"), .tuple (fx1 ++ fx2)], .tuple [.str (u "late"), .tuple (fx3 ++ fx4 ++ fx5)], .tuple [.str (u "price"), .tuple (fx6 ++ fx7)], .tuple [.str (u "time"), .tuple []], .tuple [.str (u "late"), .tuple [.tuple [.str (u "closed")]]]]
theorem fxL_is : fxL = fixR.map recP := rfl
section
variable {P : Program} {w : World} {K : PySem.W.Frag} {mg : Str → Option Value} {base : Heap}
theorem f_fix {f : Addr} {fd : FuncData} (F1 : Fun K "_law_fixed_records" "_law_fixed_records" sFix f fd) (hm : mg "_law_fixed_records" = some (.ref f)) : Fn P w K mg base 1 "_law_fixed_records" [] zFix := by
  refine fn_rule F1 scFix (F1.binds fun _ _ _ _ _ _ us hl => match us, hl with | [], _ => rfl) hm (fun xs G Φ h => by rw [h.1]; rfl) fun cdv A outer s H E hr xs G Φ hz => ?_
  obtain ⟨rfl, hq⟩ := hz
  show Xss _ (List.cons _ _) _ _ _ _
  refine xss_at (xs_setD 0 (y := .d (.tuple fx1)) ?_ scFix.nd) ?_
  · exact xd_tup (ds := fx1) (xad_cons (xd_tup (ds := [.str (u "order"), .str (u "ann"), .str (u "buy"), .int 10, .int 3, .tuple []]) (xad_cons xd_str (xad_cons xd_str (xad_cons xd_str (xad_cons xd_int (xad_cons xd_int (xad_cons (xd_tup (ds := []) xa_nil (by show 0 ≤ 100000; decide)) xa_nil)))))) (by show 6 ≤ 100000; decide)) (xad_cons (xd_tup (ds := [.str (u "order"), .str (u "bob"), .str (u "buy"), .int 10, .int 2, .tuple []]) (xad_cons xd_str (xad_cons xd_str (xad_cons xd_str (xad_cons xd_int (xad_cons xd_int (xad_cons (xd_tup (ds := []) xa_nil (by show 0 ≤ 100000; decide)) xa_nil)))))) (by show 6 ≤ 100000; decide)) xa_nil)) (by show 2 ≤ 100000; decide)
  refine xss_at (xs_setD 0 (y := .d (.tuple (fx1 ++ fx2))) (xd_catt (xd_name 0) ?_ (by decide)) scFix.nd) ?_
  · exact xd_tup (ds := fx2) (xad_cons (xd_tup (ds := [.str (u "prints"), .tuple [.tuple [.int 10, .int 1, .none], .tuple [.int 10, .int 1, .int 0]]]) (xad_cons xd_str (xad_cons (xd_tup (ds := [.tuple [.int 10, .int 1, .none], .tuple [.int 10, .int 1, .int 0]]) (xad_cons (xd_tup (ds := [.int 10, .int 1, .none]) (xad_cons xd_int (xad_cons xd_int (xad_cons xd_none xa_nil))) (by show 3 ≤ 100000; decide)) (xad_cons (xd_tup (ds := [.int 10, .int 1, .int 0]) (xad_cons xd_int (xad_cons xd_int (xad_cons xd_int xa_nil))) (by show 3 ≤ 100000; decide)) xa_nil)) (by show 2 ≤ 100000; decide)) xa_nil)) (by show 2 ≤ 100000; decide)) (xad_cons (xd_tup (ds := [.str (u "prints"), .tuple [.tuple [.int 10, .int 1, .none]]]) (xad_cons xd_str (xad_cons (xd_tup (ds := [.tuple [.int 10, .int 1, .none]]) (xad_cons (xd_tup (ds := [.int 10, .int 1, .none]) (xad_cons xd_int (xad_cons xd_int (xad_cons xd_none xa_nil))) (by show 3 ≤ 100000; decide)) xa_nil) (by show 1 ≤ 100000; decide)) xa_nil)) (by show 2 ≤ 100000; decide)) xa_nil)) (by show 2 ≤ 100000; decide)
  refine xss_at (xs_setD 1 (y := .d (.tuple fx3)) ?_ scFix.nd) ?_
  · exact xd_tup (ds := fx3) (xad_cons (xd_tup (ds := [.str (u "closed")]) (xad_cons xd_str xa_nil) (by show 1 ≤ 100000; decide)) (xad_cons (xd_tup (ds := [.str (u "order"), .str (u "ann"), .str (u "sell"), .int 9, .int 4, .tuple []]) (xad_cons xd_str (xad_cons xd_str (xad_cons xd_str (xad_cons xd_int (xad_cons xd_int (xad_cons (xd_tup (ds := []) xa_nil (by show 0 ≤ 100000; decide)) xa_nil)))))) (by show 6 ≤ 100000; decide)) (xad_cons (xd_tup (ds := [.str (u "order"), .str (u "cy"), .str (u "buy"), .int 11, .int 2, .tuple []]) (xad_cons xd_str (xad_cons xd_str (xad_cons xd_str (xad_cons xd_int (xad_cons xd_int (xad_cons (xd_tup (ds := []) xa_nil (by show 0 ≤ 100000; decide)) xa_nil)))))) (by show 6 ≤ 100000; decide)) (xad_cons (xd_tup (ds := [.str (u "prints"), .tuple []]) (xad_cons xd_str (xad_cons (xd_tup (ds := []) xa_nil (by show 0 ≤ 100000; decide)) xa_nil)) (by show 2 ≤ 100000; decide)) xa_nil)))) (by show 4 ≤ 100000; decide)
  refine xss_at (xs_setD 1 (y := .d (.tuple (fx3 ++ fx4))) (xd_catt (xd_name 1) ?_ (by decide)) scFix.nd) ?_
  · exact xd_tup (ds := fx4) (xad_cons (xd_tup (ds := [.str (u "order"), .str (u "bob"), .str (u "sell"), .int 9, .int 1, .tuple []]) (xad_cons xd_str (xad_cons xd_str (xad_cons xd_str (xad_cons xd_int (xad_cons xd_int (xad_cons (xd_tup (ds := []) xa_nil (by show 0 ≤ 100000; decide)) xa_nil)))))) (by show 6 ≤ 100000; decide)) (xad_cons (xd_tup (ds := [.str (u "call"), .int 10, .tuple [.tuple [.int 1, .int 1], .tuple [.int 2, .int 2]]]) (xad_cons xd_str (xad_cons xd_int (xad_cons (xd_tup (ds := [.tuple [.int 1, .int 1], .tuple [.int 2, .int 2]]) (xad_cons (xd_tup (ds := [.int 1, .int 1]) (xad_cons xd_int (xad_cons xd_int xa_nil)) (by show 2 ≤ 100000; decide)) (xad_cons (xd_tup (ds := [.int 2, .int 2]) (xad_cons xd_int (xad_cons xd_int xa_nil)) (by show 2 ≤ 100000; decide)) xa_nil)) (by show 2 ≤ 100000; decide)) xa_nil))) (by show 3 ≤ 100000; decide)) (xad_cons (xd_tup (ds := [.str (u "cancel"), .int 1]) (xad_cons xd_str (xad_cons xd_int xa_nil)) (by show 2 ≤ 100000; decide)) xa_nil))) (by show 3 ≤ 100000; decide)
  refine xss_at (xs_setD 1 (y := .d (.tuple (fx3 ++ fx4 ++ fx5))) (xd_catt (xd_name 1) ?_ (by decide)) scFix.nd) ?_
  · exact xd_tup (ds := fx5) (xad_cons (xd_tup (ds := [.str (u "prints"), .tuple [.tuple [.int 9, .int 1, .int 4], .tuple [.int 12, .int 3, .none]]]) (xad_cons xd_str (xad_cons (xd_tup (ds := [.tuple [.int 9, .int 1, .int 4], .tuple [.int 12, .int 3, .none]]) (xad_cons (xd_tup (ds := [.int 9, .int 1, .int 4]) (xad_cons xd_int (xad_cons xd_int (xad_cons xd_int xa_nil))) (by show 3 ≤ 100000; decide)) (xad_cons (xd_tup (ds := [.int 12, .int 3, .none]) (xad_cons xd_int (xad_cons xd_int (xad_cons xd_none xa_nil))) (by show 3 ≤ 100000; decide)) xa_nil)) (by show 2 ≤ 100000; decide)) xa_nil)) (by show 2 ≤ 100000; decide)) xa_nil) (by show 1 ≤ 100000; decide)
  refine xss_at (xs_setD 2 (y := .d (.tuple fx6)) ?_ scFix.nd) ?_
  · exact xd_tup (ds := fx6) (xad_cons (xd_tup (ds := [.str (u "order"), .str (u "ann"), .str (u "sell"), .int 9, .int 2, .tuple []]) (xad_cons xd_str (xad_cons xd_str (xad_cons xd_str (xad_cons xd_int (xad_cons xd_int (xad_cons (xd_tup (ds := []) xa_nil (by show 0 ≤ 100000; decide)) xa_nil)))))) (by show 6 ≤ 100000; decide)) (xad_cons (xd_tup (ds := [.str (u "order"), .str (u "bob"), .str (u "buy"), .int 9, .int 5, .tuple [.tuple [.int 8, .int 1, .none], .tuple [.int 9, .int 2, .int 0]]]) (xad_cons xd_str (xad_cons xd_str (xad_cons xd_str (xad_cons xd_int (xad_cons xd_int (xad_cons (xd_tup (ds := [.tuple [.int 8, .int 1, .none], .tuple [.int 9, .int 2, .int 0]]) (xad_cons (xd_tup (ds := [.int 8, .int 1, .none]) (xad_cons xd_int (xad_cons xd_int (xad_cons xd_none xa_nil))) (by show 3 ≤ 100000; decide)) (xad_cons (xd_tup (ds := [.int 9, .int 2, .int 0]) (xad_cons xd_int (xad_cons xd_int (xad_cons xd_int xa_nil))) (by show 3 ≤ 100000; decide)) xa_nil)) (by show 2 ≤ 100000; decide)) xa_nil)))))) (by show 6 ≤ 100000; decide)) xa_nil)) (by show 2 ≤ 100000; decide)
  refine xss_at (xs_setD 2 (y := .d (.tuple (fx6 ++ fx7))) (xd_catt (xd_name 2) ?_ (by decide)) scFix.nd) ?_
  · exact xd_tup (ds := fx7) (xad_cons (xd_tup (ds := [.str (u "order"), .str (u "ann"), .str (u "sell"), .int 9, .int 1, .tuple [.tuple [.int 9, .int 1, .int 1]]]) (xad_cons xd_str (xad_cons xd_str (xad_cons xd_str (xad_cons xd_int (xad_cons xd_int (xad_cons (xd_tup (ds := [.tuple [.int 9, .int 1, .int 1]]) (xad_cons (xd_tup (ds := [.int 9, .int 1, .int 1]) (xad_cons xd_int (xad_cons xd_int (xad_cons xd_int xa_nil))) (by show 3 ≤ 100000; decide)) xa_nil) (by show 1 ≤ 100000; decide)) xa_nil)))))) (by show 6 ≤ 100000; decide)) (xad_cons (xd_tup (ds := [.str (u "cancel"), .int 1]) (xad_cons xd_str (xad_cons xd_int xa_nil)) (by show 2 ≤ 100000; decide)) (xad_cons (xd_tup (ds := [.str (u "prints"), .tuple [.tuple [.int 7, .int 1000, .none]]]) (xad_cons xd_str (xad_cons (xd_tup (ds := [.tuple [.int 7, .int 1000, .none]]) (xad_cons (xd_tup (ds := [.int 7, .int 1000, .none]) (xad_cons xd_int (xad_cons xd_int (xad_cons xd_none xa_nil))) (by show 3 ≤ 100000; decide)) xa_nil) (by show 1 ≤ 100000; decide)) xa_nil)) (by show 2 ≤ 100000; decide)) xa_nil))) (by show 3 ≤ 100000; decide)
  refine xss_one (xs_ret ((Xl.g (xl_lst (ds := fxL) ?_ (by show 5 ≤ 100000; decide))).imp fun y G2 w => ?_))
  · exact xad_cons (xd_tup (ds := [.str (u "time"), .tuple (fx1 ++ fx2)]) (xad_cons xd_str (xad_cons (xd_name 0) xa_nil)) (by show 2 ≤ 100000; decide)) (xad_cons (xd_tup (ds := [.str (u "late"), .tuple (fx3 ++ fx4 ++ fx5)]) (xad_cons xd_str (xad_cons (xd_name 1) xa_nil)) (by show 2 ≤ 100000; decide)) (xad_cons (xd_tup (ds := [.str (u "price"), .tuple (fx6 ++ fx7)]) (xad_cons xd_str (xad_cons (xd_name 2) xa_nil)) (by show 2 ≤ 100000; decide)) (xad_cons (xd_tup (ds := [.str (u "time"), .tuple []]) (xad_cons xd_str (xad_cons (xd_tup (ds := []) xa_nil (by show 0 ≤ 100000; decide)) xa_nil)) (by show 2 ≤ 100000; decide)) (xad_cons (xd_tup (ds := [.str (u "late"), .tuple [.tuple [.str (u "closed")]]]) (xad_cons xd_str (xad_cons (xd_tup (ds := [.tuple [.str (u "closed")]]) (xad_cons (xd_tup (ds := [.str (u "closed")]) (xad_cons xd_str xa_nil) (by show 1 ≤ 100000; decide)) xa_nil) (by show 1 ≤ 100000; decide)) xa_nil)) (by show 2 ≤ 100000; decide)) xa_nil))))
  · obtain ⟨l, rfl, rfl⟩ := w
    rw [fxL_is]
    exact hq l
end
/-! ### validity, decided -/
def ordB (rows : List RowM) (n : Int) : Bool := decide (0 ≤ n) && (match rows[n.toNat]? with | some (.order ..) => true | _ => false)
theorem ordAt_of {rows : List RowM} {n : Int} (h : ordB rows n = true) : ordAt rows n := by
  unfold ordB at h
  rw [Bool.and_eq_true] at h
  obtain ⟨h0, h1⟩ := h
  obtain ⟨k, rfl⟩ := Int.eq_ofNat_of_zero_le (of_decide_eq_true h0)
  rw [Int.toNat_natCast] at h1
  split at h1
  · rename_i m s p z fs e
    exact ⟨k, m, s, p, z, fs, rfl, e⟩
  · cases h1
def goodFB (rows : List RowM) (f : Fil) : Bool := decide (0 < f.2.1) && (match f.2.2 with | none => true | some n => ordB rows n)
theorem goodF_of {rows : List RowM} {f : Fil} (h : goodFB rows f = true) : goodF rows f := by
  unfold goodFB at h
  rw [Bool.and_eq_true] at h
  refine ⟨of_decide_eq_true h.1, fun n e => ordAt_of ?_⟩
  have h2 := h.2
  rw [e] at h2
  exact h2
def goodRB (rows : List RowM) : RowM → Bool
  | .order m _ _ z fs => decide (m ∈ memL) && (decide (0 < z) && fs.all (goodFB rows))
  | .cancel n => ordB rows n
  | .prints fs => fs.all (goodFB rows)
  | .closed => rows.isEmpty
  | .call _ ps => ps.all fun q => decide (0 < q.2) && ordB rows q.1
theorem goodR_of {rows : List RowM} : ∀ {r : RowM}, goodRB rows r = true → goodR rows r
  | .order m _ _ z fs, h => by
    have h : (decide (m ∈ memL) && (decide (0 < z) && fs.all (goodFB rows))) = true := h
    rw [Bool.and_eq_true, Bool.and_eq_true] at h
    exact ⟨of_decide_eq_true h.1, of_decide_eq_true h.2.1, fun f hf => goodF_of (List.all_eq_true.mp h.2.2 f hf)⟩
  | .cancel n, h => ordAt_of h
  | .prints fs, h => fun f hf => goodF_of (List.all_eq_true.mp h f hf)
  | .closed, h => List.isEmpty_iff.mp h
  | .call _ ps, h => fun q hq => by
    have h2 := List.all_eq_true.mp h q hq
    rw [Bool.and_eq_true] at h2
    exact ⟨of_decide_eq_true h2.1, ordAt_of h2.2⟩
def validB (rows : List RowM) : Bool := (List.range rows.length).all fun t => match rows[t]? with | some r => goodRB (rows.take t) r | none => true
theorem validR_of {rows : List RowM} (h : validB rows = true) : validR rows := fun t r e => by
  have ht := (List.getElem?_eq_some_iff.mp e).1
  have h2 := List.all_eq_true.mp h t (List.mem_range.mpr ht)
  rw [e] at h2
  exact goodR_of h2
theorem fix_valid : ∀ c ∈ fixR, validR c.2 := fun c hc => validR_of (by
  simp only [fixR, List.mem_cons, List.not_mem_nil, or_false] at hc
  rcases hc with e | e | e | e | e <;> subst e <;> decide +kernel)
end K5

set_option Elab.async false
set_option linter.all false
set_option maxRecDepth 100000
set_option maxHeartbeats 8000000
namespace K5
open PySem PySem.Spec L2 Fsh Rec
def d_RULES : PyData := .tuple [.str (u "time"), .str (u "late"), .str (u "price")]
abbrev s_is_integer : Stmt := topG 16
abbrev N_is_integer : List Str := ["thing"]
theorem sc_is_integer : FnScope N_is_integer ["thing"] (defScope s_is_integer) := ⟨rfl, rfl, rfl, by decide +kernel, rfl, by decide +kernel, by decide +kernel⟩
def d_is_integer (v_thing : PyData): Option PyData :=
  ((andO ((some v_thing).bind (isiO "int")) (notO ((some v_thing).bind (isiO "bool")))).map PyData.bool)
theorem f_is_integer {P : Program} {w : World} {K : PySem.W.Frag} {mg : Str → Option Value} {base : Heap} {f : Addr} {fd : FuncData} (F1 : Fun K "is_integer" "is_integer" s_is_integer f fd) (hm : mg "is_integer" = some (.ref f)) (Y : By mg)   : Fg P w K mg base 1 "is_integer" ["thing"] (z1 d_is_integer) := by
  refine fg_rule F1 sc_is_integer (F1.binds fun _ _ _ _ _ _ us hl => match us, hl with | [_], _ => rfl) hm (fun xs G Φ h => by obtain ⟨x, y, rfl, _⟩ := h; rfl) fun cdv A outer s H E hr hg xs G Φ hz => ?_
  obtain ⟨v_thing, y, rfl, hf, hq⟩ := hz
  have kx : Kx (cxOf CX0 P w K mg base N_is_integer "is_integer" (defScope s_is_integer) f cdv A outer s H E).nox := kx_of Y hg hr
  have es : ES (cxOf CX0 P w K mg base N_is_integer "is_integer" (defScope s_is_integer) f cdv A outer s H E).nox (defBody s_is_integer) [some (.d v_thing)] (d_is_integer v_thing) := by
    unfold d_is_integer
    exact (es_ret (ev_eb (eb_and (eb_isi kx "int" (Kx.bn kx).int boot_int_is (ev_name 0)) (eb_one (eb_not (eb_isi kx "bool" (Kx.bool kx) boot_bool_is (ev_name 0)))))))
  exact es.run y hf G _ Φ hq
abbrev s_is_number : Stmt := topG 17
abbrev N_is_number : List Str := ["thing"]
theorem sc_is_number : FnScope N_is_number ["thing"] (defScope s_is_number) := ⟨rfl, rfl, rfl, by decide +kernel, rfl, by decide +kernel, by decide +kernel⟩
def d_is_number (v_thing : PyData): Option PyData :=
  ((andO (((some v_thing).bind d_is_integer).bind boO) (bin2 geO (some v_thing) (some (PyData.int 0)))).map PyData.bool)
theorem f_is_number {P : Program} {w : World} {K : PySem.W.Frag} {mg : Str → Option Value} {base : Heap} {f : Addr} {fd : FuncData} (F1 : Fun K "is_number" "is_number" s_is_number f fd) (hm : mg "is_number" = some (.ref f)) (Y : By mg) (h_is_integer : Fg P w K mg base 1 "is_integer" ["thing"] (z1 d_is_integer))  : Fg P w K mg base 2 "is_number" ["thing"] (z1 d_is_number) := by
  refine fg_rule F1 sc_is_number (F1.binds fun _ _ _ _ _ _ us hl => match us, hl with | [_], _ => rfl) hm (fun xs G Φ h => by obtain ⟨x, y, rfl, _⟩ := h; rfl) fun cdv A outer s H E hr hg xs G Φ hz => ?_
  obtain ⟨v_thing, y, rfl, hf, hq⟩ := hz
  have kx : Kx (cxOf CX0 P w K mg base N_is_number "is_number" (defScope s_is_number) f cdv A outer s H E).nox := kx_of Y hg hr
  have es : ES (cxOf CX0 P w K mg base N_is_number "is_number" (defScope s_is_number) f cdv A outer s H E).nox (defBody s_is_number) [some (.d v_thing)] (d_is_number v_thing) := by
    unfold d_is_number
    exact (es_ret (ev_eb (eb_and (eb_ev (ev_call1 kx h_is_integer (hr.mono (by decide)) (ev_name 0))) (eb_one (eb_cmp cs_ge (ev_name 0) ev_int)))))
  exact es.run y hf G _ Φ hq
abbrev s_is_rule : Stmt := topG 18
abbrev N_is_rule : List Str := ["thing"]
theorem sc_is_rule : FnScope N_is_rule ["thing"] (defScope s_is_rule) := ⟨rfl, rfl, rfl, by decide +kernel, rfl, by decide +kernel, by decide +kernel⟩
def d_is_rule (v_thing : PyData): Option PyData :=
  ((andO ((some v_thing).bind (isiO "str")) (bin2 inDO (some v_thing) (some d_RULES))).map PyData.bool)
theorem f_is_rule {P : Program} {w : World} {K : PySem.W.Frag} {mg : Str → Option Value} {base : Heap} {f : Addr} {fd : FuncData} (F1 : Fun K "is_rule" "is_rule" s_is_rule f fd) (hm : mg "is_rule" = some (.ref f)) (Y : By mg)  (g_RULES : GlD mg K "RULES" d_RULES) : Fg P w K mg base 1 "is_rule" ["thing"] (z1 d_is_rule) := by
  refine fg_rule F1 sc_is_rule (F1.binds fun _ _ _ _ _ _ us hl => match us, hl with | [_], _ => rfl) hm (fun xs G Φ h => by obtain ⟨x, y, rfl, _⟩ := h; rfl) fun cdv A outer s H E hr hg xs G Φ hz => ?_
  obtain ⟨v_thing, y, rfl, hf, hq⟩ := hz
  have kx : Kx (cxOf CX0 P w K mg base N_is_rule "is_rule" (defScope s_is_rule) f cdv A outer s H E).nox := kx_of Y hg hr
  have es : ES (cxOf CX0 P w K mg base N_is_rule "is_rule" (defScope s_is_rule) f cdv A outer s H E).nox (defBody s_is_rule) [some (.d v_thing)] (d_is_rule v_thing) := by
    unfold d_is_rule
    exact (es_ret (ev_eb (eb_and (eb_isi kx "str" (Kx.bn kx).str boot_str_is (ev_name 0)) (eb_one (eb_cmp (cs_inD kx) (ev_name 0) (ev_glob g_RULES))))))
  exact es.run y hf G _ Φ hq
abbrev s_row_fills : Stmt := topG 20
abbrev N_row_fills : List Str := ["row"]
theorem sc_row_fills : FnScope N_row_fills ["row"] (defScope s_row_fills) := ⟨rfl, rfl, rfl, by decide +kernel, rfl, by decide +kernel, by decide +kernel⟩
noncomputable def d_row_fills (v_row : PyData) : Option PyData :=
  (ifO (bin2 eqO (bin2 ixO (some v_row) (some (PyData.int 0))) (some (PyData.str "order"))) (bin2 ixO (some v_row) (some (PyData.int 5)))
  (ifO (bin2 eqO (bin2 ixO (some v_row) (some (PyData.int 0))) (some (PyData.str "prints"))) (bin2 ixO (some v_row) (some (PyData.int 1)))
  (tupO (some []))))
theorem f_row_fills {P : Program} {w : World} {K : PySem.W.Frag} {mg : Str → Option Value} {base : Heap} {f : Addr} {fd : FuncData} (F1 : Fun K "row_fills" "row_fills" s_row_fills f fd) (hm : mg "row_fills" = some (.ref f)) (Y : By mg)  : Fg P w K mg base 1 "row_fills" ["row"] (z1 d_row_fills) := by
  refine fg_rule F1 sc_row_fills (F1.binds fun _ _ _ _ _ _ us hl => match us, hl with | [_], _ => rfl) hm (fun xs G Φ h => by obtain ⟨_, y, rfl, _⟩ := h; rfl) fun cdv A outer s H E hr hg xs G Φ hz => ?_
  obtain ⟨v_row, y, rfl, hf, hq⟩ := hz
  have kx : Kx (cxOf CX0 P w K mg base N_row_fills "row_fills" (defScope s_row_fills) f cdv A outer s H E).nox := kx_of Y hg hr
  have es : ES (cxOf CX0 P w K mg base N_row_fills "row_fills" (defScope s_row_fills) f cdv A outer s H E).nox (defBody s_row_fills) [some (.d v_row)] (d_row_fills v_row) := by
    unfold d_row_fills
    exact (es_if (et_cmp (cs_eq kx) (ev_ix (ev_name 0) ev_int) ev_str) (es_ret (ev_ix (ev_name 0) ev_int))
    (es_if (et_cmp (cs_eq kx) (ev_ix (ev_name 0) ev_int) ev_str) (es_ret (ev_ix (ev_name 0) ev_int))
    (es_ret (ev_tup ea_nil))))
  exact es.run y hf G _ Φ hq
abbrev s_members_of : Stmt := topG 22
abbrev N_members_of : List Str := ["record", "row"]
theorem sc_members_of : FnScope N_members_of ["record"] (defScope s_members_of) := ⟨rfl, rfl, rfl, by decide +kernel, rfl, by decide +kernel, by decide +kernel⟩
noncomputable def d_members_of (v_record : PyData) : Option PyData :=
  (((((bin2 ixO (some v_record) (some (PyData.int 1))).bind seqO).bind fun xs => if xs.length ≤ 60 then lcO (fun x1 => (bin2 eqO (bin2 ixO (some x1) (some (PyData.int 0))) (some (PyData.str "order")))) (fun x1 => (bin2 ixO (some x1) (some (PyData.int 1)))) xs else none).bind sortO).bind tupleO)
theorem f_members_of {P : Program} {w : World} {K : PySem.W.Frag} {mg : Str → Option Value} {base : Heap} {f : Addr} {fd : FuncData} (F1 : Fun K "members_of" "members_of" s_members_of f fd) (hm : mg "members_of" = some (.ref f)) (Y : By mg)  (hso : mg "sorted" = none) : Fg P w K mg base 1 "members_of" ["record"] (z1 d_members_of) := by
  refine fg_rule F1 sc_members_of (F1.binds fun _ _ _ _ _ _ us hl => match us, hl with | [_], _ => rfl) hm (fun xs G Φ h => by obtain ⟨_, y, rfl, _⟩ := h; rfl) fun cdv A outer s H E hr hg xs G Φ hz => ?_
  obtain ⟨v_record, y, rfl, hf, hq⟩ := hz
  have kx : Kx (cxOf CX0 P w K mg base N_members_of "members_of" (defScope s_members_of) f cdv A outer s H E).nox := kx_of Y hg hr
  have es : ES (cxOf CX0 P w K mg base N_members_of "members_of" (defScope s_members_of) f cdv A outer s H E).nox (defBody s_members_of) [some (.d v_record), none] (d_members_of v_record) := by
    unfold d_members_of
    exact (es_ret (ev_tuple kx (ev_sortSc (own := [("row", 1)]) (js := [1]) (ρ' := fun x1 => [some (.d v_record), some (.d x1)]) sc_members_of.nd hso (it_seq (ev_ix (ev_name 0) ev_int)) (blkOk_by (own := [("row", 1)]) (N := N_members_of) (sc := defScope s_members_of) (by decide +kernel)) (fun _ _ _ _ _ => pg_name (i := 1) sc_members_of.nd rfl (Or.inl rfl)) (by decide) (fun _ _ _ => rg_name) (fun x1 z1 => (ets_one (et_cmp (cs_eq (kx_bx kx z1)) (ev_ix (ev_name 1) ev_int) ev_str))) (fun x1 z1 => (ev_ix (ev_name 1) ev_int)))))
  exact es.run y hf G _ Φ hq
abbrev s_orders_of : Stmt := topG 23
abbrev N_orders_of : List Str := ["record", "n", "row"]
theorem sc_orders_of : FnScope N_orders_of ["record"] (defScope s_orders_of) := ⟨rfl, rfl, rfl, by decide +kernel, rfl, by decide +kernel, by decide +kernel⟩
noncomputable def d_orders_of (v_record : PyData) : Option PyData :=
  (((((bin2 ixO (some v_record) (some (PyData.int 1))).bind enumO).bind fun xs => if xs.length ≤ 100000 then lcO (un2 fun x1a x1b => (bin2 eqO (bin2 ixO (some x1b) (some (PyData.int 0))) (some (PyData.str "order")))) (un2 fun x1a x1b => (some x1a)) xs else none).map PyData.list).bind tupleO)
theorem f_orders_of {P : Program} {w : World} {K : PySem.W.Frag} {mg : Str → Option Value} {base : Heap} {f : Addr} {fd : FuncData} (F1 : Fun K "orders_of" "orders_of" s_orders_of f fd) (hm : mg "orders_of" = some (.ref f)) (Y : By mg)  : Fg P w K mg base 1 "orders_of" ["record"] (z1 d_orders_of) := by
  refine fg_rule F1 sc_orders_of (F1.binds fun _ _ _ _ _ _ us hl => match us, hl with | [_], _ => rfl) hm (fun xs G Φ h => by obtain ⟨_, y, rfl, _⟩ := h; rfl) fun cdv A outer s H E hr hg xs G Φ hz => ?_
  obtain ⟨v_record, y, rfl, hf, hq⟩ := hz
  have kx : Kx (cxOf CX0 P w K mg base N_orders_of "orders_of" (defScope s_orders_of) f cdv A outer s H E).nox := kx_of Y hg hr
  have es : ES (cxOf CX0 P w K mg base N_orders_of "orders_of" (defScope s_orders_of) f cdv A outer s H E).nox (defBody s_orders_of) [some (.d v_record), none, none] (d_orders_of v_record) := by
    unfold d_orders_of
    exact (es_ret (ev_tuple kx (ev_lc (lc_of (own := [("n", 1), ("row", 2)]) (js := [1, 2]) (g := gTup K 2 (gCons (gName 1) (gCons (gName 2) gNil))) (ρ' := env2 fun x1a x1b => [some (.d v_record), some (.d x1a), some (.d x1b)]) sc_orders_of.nd (it_enum kx (ev_ix (ev_name 0) ev_int)) (blkOk_by (own := [("n", 1), ("row", 2)]) (N := N_orders_of) (sc := defScope s_orders_of) (by decide +kernel)) (fun _ _ _ _ _ => pg_tup (n := 2) rfl (pgs_cons (pg_name (i := 1) sc_orders_of.nd rfl (Or.inl rfl)) (pgs_cons (pg_name (i := 2) sc_orders_of.nd rfl (Or.inl rfl)) pgs_nil))) (by decide) (fun x t hx => by obtain ⟨x1a, x1b, rfl⟩ := un2_shape hx; exact rg_tup rfl (rgs_cons rg_name (rgs_cons rg_name rgs_nil))) (fun x1 z1 => ets_un2 fun x1a x1b => (ets_one (et_cmp (cs_eq (kx_bx kx z1)) (ev_ix (ev_name 2) ev_int) ev_str))) (fun x1 z1 => ev_un2 fun x1a x1b => (ev_name 1))))))
  exact es.run y hf G _ Φ hq
abbrev s_row_seen : Stmt := topG 25
abbrev N_row_seen : List Str := ["row", "t", "own", "pair", "fills", "fill"]
theorem sc_row_seen : FnScope N_row_seen ["row", "t", "own"] (defScope s_row_seen) := ⟨rfl, rfl, rfl, by decide +kernel, rfl, by decide +kernel, by decide +kernel⟩
noncomputable def d_row_seen (v_row : PyData) (v_t : PyData) (v_own : PyData) : Option PyData :=
  (ifO (bin2 eqO (bin2 ixO (some v_row) (some (PyData.int 0))) (some (PyData.str "cancel"))) (ifO (bin2 inDO (bin2 ixO (some v_row) (some (PyData.int 1))) (some v_own)) (some v_row) (some (PyData.tuple [.str "prints", .tuple []])))
  (ifO (bin2 eqO (bin2 ixO (some v_row) (some (PyData.int 0))) (some (PyData.str "call"))) (tupO (consO (some (PyData.str "call")) (consO (bin2 ixO (some v_row) (some (PyData.int 1))) (consO (((((bin2 ixO (some v_row) (some (PyData.int 2))).bind seqO).bind fun xs => if xs.length ≤ 100000 then lcO (fun x1 => (bin2 inDO (bin2 ixO (some x1) (some (PyData.int 0))) (some v_own))) (fun x1 => (some x1)) xs else none).map PyData.list).bind tupleO) (some [])))))
  (ifO (bin2 eqO (bin2 ixO (some v_row) (some (PyData.int 0))) (some (PyData.str "closed"))) (some v_row)
  (((((((some v_row).bind d_row_fills).bind seqO).bind fun xs => if xs.length ≤ 100000 then lcO (fun x3 => (some true)) (fun x3 => (tupO (consO (bin2 ixO (some x3) (some (PyData.int 0))) (consO (bin2 ixO (some x3) (some (PyData.int 1))) (consO (ifO (bin2 inDO (bin2 ixO (some x3) (some (PyData.int 2))) (some v_own)) (bin2 ixO (some x3) (some (PyData.int 2))) (some PyData.none)) (some [])))))) xs else none).map PyData.list).bind tupleO).bind fun v_fills2 =>
  (ifO (bin2 inDO (some v_t) (some v_own)) (bin2 addD ((some v_row).bind fun x => (some none).bind fun l => ((some (PyData.int 5)).bind intO).bind fun h => slO x l h) (tupO (consO (some v_fills2) (some [])))) (tupO (consO (some (PyData.str "prints")) (consO (some v_fills2) (some [])))))))))
theorem f_row_seen {P : Program} {w : World} {K : PySem.W.Frag} {mg : Str → Option Value} {base : Heap} {f : Addr} {fd : FuncData} (F1 : Fun K "row_seen" "row_seen" s_row_seen f fd) (hm : mg "row_seen" = some (.ref f)) (Y : By mg) (h_row_fills : Fg P w K mg base 1 "row_fills" ["row"] (z1 d_row_fills)) : Fg P w K mg base 2 "row_seen" ["row", "t", "own"] (z3 d_row_seen) := by
  refine fg_rule F1 sc_row_seen (F1.binds fun _ _ _ _ _ _ us hl => match us, hl with | [_, _, _], _ => rfl) hm (fun xs G Φ h => by obtain ⟨_, _, _, y, rfl, _⟩ := h; rfl) fun cdv A outer s H E hr hg xs G Φ hz => ?_
  obtain ⟨v_row, v_t, v_own, y, rfl, hf, hq⟩ := hz
  have kx : Kx (cxOf CX0 P w K mg base N_row_seen "row_seen" (defScope s_row_seen) f cdv A outer s H E).nox := kx_of Y hg hr
  have es : ES (cxOf CX0 P w K mg base N_row_seen "row_seen" (defScope s_row_seen) f cdv A outer s H E).nox (defBody s_row_seen) [some (.d v_row), some (.d v_t), some (.d v_own), none, none, none] (d_row_seen v_row v_t v_own) := by
    unfold d_row_seen
    exact (es_if (et_cmp (cs_eq kx) (ev_ix (ev_name 0) ev_int) ev_str) (es_ret (ev_if (et_cmp (cs_inD kx) (ev_ix (ev_name 0) ev_int) (ev_name 2)) (ev_name 0) (ev_cstK 60 (by kernel_rfl))))
    (es_if (et_cmp (cs_eq kx) (ev_ix (ev_name 0) ev_int) ev_str) (es_ret (ev_tup (ea_cons ev_str (ea_cons (ev_ix (ev_name 0) ev_int) (ea_cons (ev_tuple kx (ev_lc (lc_of (own := [("pair", 3)]) (js := [3]) (ρ' := fun x1 => [some (.d v_row), some (.d v_t), some (.d v_own), some (.d x1), none, none]) sc_row_seen.nd (it_seq (ev_ix (ev_name 0) ev_int)) (blkOk_by (own := [("pair", 3)]) (N := N_row_seen) (sc := defScope s_row_seen) (by decide +kernel)) (fun _ _ _ _ _ => pg_name (i := 3) sc_row_seen.nd rfl (Or.inl rfl)) (by decide) (fun _ _ _ => rg_name) (fun x1 z1 => (ets_one (et_cmp (cs_inD (kx_bx kx z1)) (ev_ix (ev_name 3) ev_int) (ev_name 2)))) (fun x1 z1 => (ev_name 3))))) ea_nil)))))
    (es_if (et_cmp (cs_eq kx) (ev_ix (ev_name 0) ev_int) ev_str) (es_ret (ev_name 0))
    (es_asg 4 (ev_tuple kx (ev_lc (lc_of (own := [("fill", 5)]) (js := [5]) (ρ' := fun x3 => [some (.d v_row), some (.d v_t), some (.d v_own), none, none, some (.d x3)]) sc_row_seen.nd (it_seq (ev_call1 kx h_row_fills (hr.mono (by decide)) (ev_name 0))) (blkOk_by (own := [("fill", 5)]) (N := N_row_seen) (sc := defScope s_row_seen) (by decide +kernel)) (fun _ _ _ _ _ => pg_name (i := 5) sc_row_seen.nd rfl (Or.inl rfl)) (by decide) (fun _ _ _ => rg_name) (fun x3 z3 => ets_nil) (fun x3 z3 => (ev_tup (ea_cons (ev_ix (ev_name 5) ev_int) (ea_cons (ev_ix (ev_name 5) ev_int) (ea_cons (ev_if (et_cmp (cs_inD (kx_bx kx z3)) (ev_ix (ev_name 5) ev_int) (ev_name 2)) (ev_ix (ev_name 5) ev_int) ev_none) ea_nil)))))))) (fun v_fills2 =>
    (es_ret (ev_if (et_cmp (cs_inD kx) (ev_name 1) (ev_name 2)) (ev_bin bs_add (ev_slice (ev_name 0) eo_none (eo_some ev_int)) (ev_tup (ea_cons (ev_name 4) ea_nil))) (ev_tup (ea_cons ev_str (ea_cons (ev_name 4) ea_nil)))))) sc_row_seen.nd))))
  exact es.run y hf G _ Φ hq
end K5

set_option Elab.async false
set_option linter.all false
set_option maxRecDepth 100000
set_option maxHeartbeats 8000000
namespace K5
open PySem PySem.Spec L2 Fsh Rec
abbrev s_seen : Stmt := topG 24
abbrev N_seen : List Str := ["record", "members", "there", "member", "rule", "rows", "own", "n", "t", "row"]
theorem sc_seen : FnScope N_seen ["record", "members"] (defScope s_seen) := ⟨rfl, rfl, rfl, by decide +kernel, rfl, by decide +kernel, by decide +kernel⟩
noncomputable def d_seen_tail (v_record v_members v_there : PyData) : Option PyData :=
  ((some v_record).bind (un2 fun v_rule1 v_rows1 =>
  ((((((some v_record).bind d_orders_of).bind seqO).bind fun xs => if xs.length ≤ 100000 then lcO (fun x3 => (bin2 inDO (bin2 ixO (bin2 ixO (some v_rows1) (some x3)) (some (PyData.int 1))) (some v_members))) (fun x3 => (some x3)) xs else none).map PyData.list).bind fun v_own2 =>
  (tupO (consO (some v_rule1) (consO (((((some v_rows1).bind enumO).bind fun xs => if xs.length ≤ 100000 then lcO (un2 fun x4a x4b => (some true)) (un2 fun x4a x4b => (app3 d_row_seen (some x4b) (some x4a) (some v_own2))) xs else none).map PyData.list).bind tupleO) (some [])))))))
theorem es_seen_tail {P : Program} {w : World} {K : PySem.W.Frag} {mg : Str → Option Value} {base : Heap} {f : Addr} {cdv : Value} {A : Around} {outer : List PySem.Env} {s : Shared} {H : Hp} {E : XK} (h_orders_of : Fg P w K mg base 1 "orders_of" ["record"] (z1 d_orders_of)) (h_row_seen : Fg P w K mg base 2 "row_seen" ["row", "t", "own"] (z3 d_row_seen)) (kx : Kx (cxOf (L2N.CX P w) P w K mg base N_seen "seen" (defScope s_seen) f cdv A outer s H E)) (hr : Room 2 (A.deeper (PyProof.Rows.envOfC "seen" (defScope s_seen) s.heap.objs.size f cdv))) (v_record v_members v_there : PyData) :
    ES (cxOf (L2N.CX P w) P w K mg base N_seen "seen" (defScope s_seen) f cdv A outer s H E) ((defBody s_seen).drop 2) [some (.d v_record), some (.d v_members), some (.d v_there), none, none, none, none, none, none, none] (d_seen_tail v_record v_members v_there) := by
  unfold d_seen_tail
  exact (es_un2 (ev_name 0) (pg_tup (n := 2) rfl (pgs_cons (pg_name (i := 4) sc_seen.nd rfl (Or.inl rfl)) (pgs_cons (pg_name (i := 5) sc_seen.nd rfl (Or.inr rfl)) pgs_nil))) fun v_rule1 v_rows1 =>
    (es_asg 6 (ev_lc (lc_of (own := [("n", 7)]) (js := [7]) (ρ' := fun x3 => [some (.d v_record), some (.d v_members), some (.d v_there), none, some (.d v_rule1), some (.d v_rows1), none, some (.d x3), none, none]) sc_seen.nd (it_seq (ev_call1 kx h_orders_of (hr.mono (by decide)) (ev_name 0))) (blkOk_by (own := [("n", 7)]) (N := N_seen) (sc := defScope s_seen) (by decide +kernel)) (fun _ _ _ _ _ => pg_name (i := 7) sc_seen.nd rfl (Or.inl rfl)) (by decide) (fun _ _ _ => rg_name) (fun x3 z3 => (ets_one (et_cmp (cs_inD (kx_bx kx z3)) (ev_ix (ev_ix (ev_name 5) (ev_name 7)) ev_int) (ev_name 1)))) (fun x3 z3 => (ev_name 7)))) (fun v_own2 =>
    (es_ret (ev_tup (ea_cons (ev_name 4) (ea_cons (ev_tuple kx (ev_lc (lc_of (own := [("t", 8), ("row", 9)]) (js := [8, 9]) (g := gTup K 2 (gCons (gName 8) (gCons (gName 9) gNil))) (ρ' := env2 fun x4a x4b => [some (.d v_record), some (.d v_members), some (.d v_there), none, some (.d v_rule1), some (.d v_rows1), some (.d v_own2), none, some (.d x4a), some (.d x4b)]) sc_seen.nd (it_enum kx (ev_name 5)) (blkOk_by (own := [("t", 8), ("row", 9)]) (N := N_seen) (sc := defScope s_seen) (by decide +kernel)) (fun _ _ _ _ _ => pg_tup (n := 2) rfl (pgs_cons (pg_name (i := 8) sc_seen.nd rfl (Or.inl rfl)) (pgs_cons (pg_name (i := 9) sc_seen.nd rfl (Or.inl rfl)) pgs_nil))) (by decide) (fun x t hx => by obtain ⟨x4a, x4b, rfl⟩ := un2_shape hx; exact rg_tup rfl (rgs_cons rg_name (rgs_cons rg_name rgs_nil))) (fun x4 z4 => ets_un2 fun x4a x4b => ets_nil) (fun x4 z4 => ev_un2 fun x4a x4b => (ev_call3 (kx_bx kx z4) h_row_seen (hr.mono (by decide)) (ev_name 9) (ev_name 8) (ev_name 6)))))) ea_nil))))) sc_seen.nd))
end K5

set_option Elab.async false
set_option linter.all false
set_option maxRecDepth 100000
set_option maxHeartbeats 8000000
namespace K5
open PySem PySem.Spec L2 Fsh Rec
/-! ### what the readings say of a record -/
theorem lcO_map {α : Type} {cc : PyData → Option Bool} {f : PyData → Option PyData} (enc out : α → PyData) (t : α → Bool) : ∀ xs : List α, (∀ x ∈ xs, cc (enc x) = some (t x)) → (∀ x ∈ xs, t x = true → f (enc x) = some (out x)) → lcO cc f (xs.map enc) = some ((xs.filter t).map out)
  | [], _, _ => rfl
  | x :: r, h1, h2 => by
    have ih := lcO_map enc out t r (fun y hy => h1 y (List.mem_cons_of_mem _ hy)) fun y hy => h2 y (List.mem_cons_of_mem _ hy)
    rw [List.map_cons]
    unfold lcO
    rw [h1 x List.mem_cons_self]
    show (if t x = true then _ else _) = _
    by_cases e : t x = true
    · rw [if_pos e, h2 x List.mem_cons_self e, ih, List.filter_cons_of_pos e]
      rfl
    · rw [if_neg e, ih, List.filter_cons_of_neg e]
theorem eqO_int (a b : Int) : eqO (.int a) (.int b) = some (decide (a = b)) := by
  unfold eqO
  rw [if_pos ⟨rfl, rfl⟩]
  rfl
theorem eqO_opt (o : Option Int) (b : Int) : eqO (optD o) (.int b) = some (decide (o = some b)) := by
  cases o with
  | none =>
    unfold eqO
    rw [if_pos ⟨rfl, rfl⟩]
    rfl
  | some a =>
    rw [show optD (some a) = .int a from rfl, eqO_int]
    exact congrArg some (decide_eq_decide.mpr ⟨fun h => h ▸ rfl, fun h => Option.some.inj h⟩)
def isCall : RowM → Bool
  | .call _ _ => true
  | _ => false
theorem tag_ord (r : RowM) : bin2 eqO (bin2 ixO (some (rowD r)) (some (.int 0))) (some (.str "order")) = some (Rec.isOrd r) := by
  cases r with
  | order m s p z fs => show eqO (.str "order") (.str "order") = some true; decide +kernel
  | cancel n => show eqO (.str "cancel") (.str "order") = some false; decide +kernel
  | prints fs => show eqO (.str "prints") (.str "order") = some false; decide +kernel
  | closed => show eqO (.str "closed") (.str "order") = some false; decide +kernel
  | call p ps => show eqO (.str "call") (.str "order") = some false; decide +kernel
theorem tag_cl (r : RowM) : bin2 eqO (bin2 ixO (some (rowD r)) (some (.int 0))) (some (.str "call")) = some (isCall r) := by
  cases r with
  | order m s p z fs => show eqO (.str "order") (.str "call") = some false; decide +kernel
  | cancel n => show eqO (.str "cancel") (.str "call") = some false; decide +kernel
  | prints fs => show eqO (.str "prints") (.str "call") = some false; decide +kernel
  | closed => show eqO (.str "closed") (.str "call") = some false; decide +kernel
  | call p ps => show eqO (.str "call") (.str "call") = some true; decide +kernel
theorem d_fils_is (r : RowM) : d_row_fills (rowD r) = some (.tuple ((filsOf r).map filD)) := by
  unfold d_row_fills
  rw [tag_ord]
  cases r with
  | order m s p z fs => rfl
  | cancel n =>
    show ifO (bin2 eqO (some (.str "cancel")) (some (.str "prints"))) _ _ = _
    rw [show bin2 eqO (some (PyData.str "cancel")) (some (PyData.str "prints")) = some false by show eqO (.str "cancel") (.str "prints") = _; decide +kernel]
    rfl
  | prints fs =>
    show ifO (bin2 eqO (some (.str "prints")) (some (.str "prints"))) _ _ = _
    rw [show bin2 eqO (some (PyData.str "prints")) (some (PyData.str "prints")) = some true by show eqO (.str "prints") (.str "prints") = _; decide +kernel]
    rfl
  | closed =>
    show ifO (bin2 eqO (some (.str "closed")) (some (.str "prints"))) _ _ = _
    rw [show bin2 eqO (some (PyData.str "closed")) (some (PyData.str "prints")) = some false by show eqO (.str "closed") (.str "prints") = _; decide +kernel]
    rfl
  | call p ps =>
    show ifO (bin2 eqO (some (.str "call")) (some (.str "prints"))) _ _ = _
    rw [show bin2 eqO (some (PyData.str "call")) (some (PyData.str "prints")) = some false by show eqO (.str "call") (.str "prints") = _; decide +kernel]
    rfl
/-! members -/
def membOf : RowM → Str
  | .order m _ _ _ _ => m
  | _ => Str.empty
def names (rows : List RowM) : List Str := (rows.filter Rec.isOrd).map membOf
theorem names_len (rows : List RowM) : (names rows).length ≤ rows.length := by
  unfold names
  rw [List.length_map]
  exact List.length_filter_le _ _
theorem memb_at {r : RowM} (h : Rec.isOrd r = true) : bin2 ixO (some (rowD r)) (some (.int 1)) = some (.str (membOf r)) := by
  cases r <;> first | rfl | cases h
theorem rec_1 (c : Str × List RowM) : bin2 ixO (some (recP c)) (some (.int 1)) = some (.tuple (c.2.map rowD)) := rfl
theorem d_members_is {c : Str × List RowM} (hl : c.2.length ≤ 60) : d_members_of (recP c) = some (.tuple ((tsort (allTx (names c.2))).map PyData.str)) := by
  unfold d_members_of
  rw [rec_1]
  show (Option.bind (Option.bind (if (c.2.map rowD).length ≤ 60 then _ else _) sortO) tupleO) = _
  rw [if_pos (by rw [List.length_map]; exact hl), lcO_map rowD (fun r => .str (membOf r)) Rec.isOrd c.2 (fun r _ => tag_ord r) fun r _ h => memb_at h]
  show (sortO ((c.2.filter Rec.isOrd).map fun r => .str (membOf r))).bind tupleO = _
  unfold sortO
  rw [show (c.2.filter Rec.isOrd).map (fun r => PyData.str (membOf r)) = (names c.2).map PyData.str by unfold names; rw [List.map_map]; rfl, strs_map]
  rfl
/-! orders, prints -/
def rowAt (rows : List RowM) (k : Nat) : RowM := rows.getD k .closed
def enR (rows : List RowM) (k : Nat) : PyData := .tuple [.int k, rowD (rowAt rows k)]
theorem rowAt_at {rows : List RowM} {k : Nat} (h : k < rows.length) : rows[k]? = some (rowAt rows k) := by
  unfold rowAt
  rw [List.getD_eq_getElem?_getD, List.getElem?_eq_getElem h]
  rfl
theorem en_rows (rows : List RowM) : enD 0 (rows.map rowD) = (List.range rows.length).map (enR rows) := by
  apply List.ext_getElem?
  intro k
  rw [enD_at, List.getElem?_map, List.getElem?_map]
  by_cases h : k < rows.length
  · rw [rowAt_at h, List.getElem?_range h, Nat.zero_add]
    rfl
  · rw [List.getElem?_eq_none (by omega), List.getElem?_eq_none (by rw [List.length_range]; omega)]
    rfl
theorem orders_is (rows : List RowM) : (List.range rows.length).filter (fun k => Rec.isOrd (rowAt rows k)) = ordersM rows := by
  unfold ordersM
  refine List.filter_congr fun k hk => ?_
  rw [rowAt_at (List.mem_range.mp hk)]
theorem d_orders_is {c : Str × List RowM} (hl : c.2.length ≤ 60) : d_orders_of (recP c) = some (.tuple ((ordersM c.2).map fun (k : Nat) => PyData.int k)) := by
  unfold d_orders_of
  rw [rec_1]
  show (Option.map PyData.list (if (enD 0 (c.2.map rowD)).length ≤ 100000 then lcO _ _ (enD 0 (c.2.map rowD)) else _)).bind tupleO = _
  rw [if_pos (by rw [enD_len, List.length_map]; omega), en_rows, lcO_map (enR c.2) (fun (k : Nat) => .int k) (fun k => Rec.isOrd (rowAt c.2 k)) (List.range c.2.length) (fun k _ => tag_ord _) fun k _ _ => rfl, orders_is]
  rfl
theorem fils_len {rows : List RowM} (h : ∀ r ∈ rows, okR r) {k : Nat} (hk : k < rows.length) : (filsOf (rowAt rows k)).length ≤ 30 := (filsOf_ok (h _ (List.mem_of_getElem? (rowAt_at hk)))).1
/-! what some see of a row -/
def inI (own : List Nat) (n : Int) : Bool := own.any fun k => decide ((k : Int) = n)
def seenO (own : List Nat) : Option Int → Option Int
  | some n => if inI own n = true then some n else none
  | none => none
def seenF (own : List Nat) (f : Fil) : Fil := (f.1, f.2.1, seenO own f.2.2)
def seenRow (own : List Nat) (t : Nat) : RowM → RowM
  | .order m s p z fs => if inI own t = true then .order m s p z (fs.map (seenF own)) else .prints (fs.map (seenF own))
  | .cancel n => if inI own n = true then .cancel n else .prints []
  | .prints fs => .prints (fs.map (seenF own))
  | .closed => .closed
  | .call p ps => .call p (ps.filter fun q => inI own q.1)
abbrev intsD (own : List Nat) : List PyData := own.map fun (k : Nat) => PyData.int k
theorem lay_ints : ∀ own : List Nat, PyData.canLayAll0 (intsD own) = true
  | [] => by simp only [intsD, List.map_nil, PyData.canLayAll0]
  | k :: own => by
    have h := lay_ints own
    show PyData.canLayAll0 (.int k :: intsD own) = true
    simp only [PyData.canLayAll0, PyData.canLay0, h]
    rfl
theorem mem_int (own : List Nat) (n : Int) : memO (.int n) (intsD own) = some (inI own n) := by
  unfold memO
  rw [if_pos ⟨rfl, lay_ints own⟩]
  unfold inI intsD
  rw [List.any_map]
  rfl
theorem mem_non (own : List Nat) : memO .none (intsD own) = some false := by
  unfold memO
  rw [if_pos ⟨rfl, lay_ints own⟩]
  unfold intsD
  rw [List.any_map]
  refine congrArg some ?_
  rw [Bool.eq_false_iff]
  intro h
  obtain ⟨k, _, e⟩ := List.any_eq_true.mp h
  cases e
theorem fil_seen (own : List Nat) (f : Fil) : (tupO (consO (bin2 ixO (some (filD f)) (some (PyData.int 0))) (consO (bin2 ixO (some (filD f)) (some (PyData.int 1))) (consO (ifO (bin2 inDO (bin2 ixO (some (filD f)) (some (PyData.int 2))) (some (.list (intsD own)))) (bin2 ixO (some (filD f)) (some (PyData.int 2))) (some PyData.none)) (some []))))) = some (filD (seenF own f)) := by
  have e : bin2 ixO (some (filD f)) (some (PyData.int 2)) = some (optD f.2.2) := rfl
  rw [e]
  obtain ⟨a, b, o⟩ := f
  show tupO (consO (some (.int a)) (consO (some (.int b)) (consO (ifO (memO (optD o) (intsD own)) (some (optD o)) (some PyData.none)) (some [])))) = some (.tuple [.int a, .int b, optD (seenO own o)])
  cases o with
  | none =>
    rw [show memO (optD none) (intsD own) = some false from mem_non own]
    rfl
  | some n =>
    rw [show memO (optD (some n)) (intsD own) = some (inI own n) from mem_int own n]
    show _ = some (PyData.tuple [.int a, .int b, optD (if inI own n = true then some n else none)])
    cases inI own n <;> rfl
theorem tag_ca (r : RowM) : bin2 eqO (bin2 ixO (some (rowD r)) (some (.int 0))) (some (.str "cancel")) = some (match r with | .cancel _ => true | _ => false) := by
  cases r with
  | order m s p z fs => show eqO (.str "order") (.str "cancel") = some false; decide +kernel
  | cancel n => show eqO (.str "cancel") (.str "cancel") = some true; decide +kernel
  | prints fs => show eqO (.str "prints") (.str "cancel") = some false; decide +kernel
  | closed => show eqO (.str "closed") (.str "cancel") = some false; decide +kernel
  | call p ps => show eqO (.str "call") (.str "cancel") = some false; decide +kernel
theorem tag_ce (r : RowM) : bin2 eqO (bin2 ixO (some (rowD r)) (some (.int 0))) (some (.str "closed")) = some (match r with | .closed => true | _ => false) := by
  cases r with
  | order m s p z fs => show eqO (.str "order") (.str "closed") = some false; decide +kernel
  | cancel n => show eqO (.str "cancel") (.str "closed") = some false; decide +kernel
  | prints fs => show eqO (.str "prints") (.str "closed") = some false; decide +kernel
  | closed => show eqO (.str "closed") (.str "closed") = some true; decide +kernel
  | call p ps => show eqO (.str "call") (.str "closed") = some false; decide +kernel
theorem fils_seen {r : RowM} (h : okR r) (own : List Nat) : ((((((some (rowD r)).bind d_row_fills).bind seqO).bind fun xs => if xs.length ≤ 100000 then lcO (fun x3 => (some true)) (fun x3 => (tupO (consO (bin2 ixO (some x3) (some (PyData.int 0))) (consO (bin2 ixO (some x3) (some (PyData.int 1))) (consO (ifO (bin2 inDO (bin2 ixO (some x3) (some (PyData.int 2))) (some (.list (intsD own)))) (bin2 ixO (some x3) (some (PyData.int 2))) (some PyData.none)) (some [])))))) xs else none).map PyData.list).bind tupleO) = some (.tuple (((filsOf r).map (seenF own)).map filD)) := by
  have f30 := (filsOf_ok h).1
  rw [show (some (rowD r)).bind d_row_fills = some (.tuple ((filsOf r).map filD)) from d_fils_is r]
  show (Option.map PyData.list (if ((filsOf r).map filD).length ≤ 100000 then _ else _)).bind tupleO = _
  rw [if_pos (by rw [List.length_map]; omega), lcO_map filD (fun f => filD (seenF own f)) (fun _ => true) (filsOf r) (fun _ _ => rfl) fun f _ _ => fil_seen own f, List.filter_eq_self.mpr fun _ _ => rfl, List.map_map]
  rfl
theorem d_row_seen_is {r : RowM} (h : okR r) {t : Nat} {own : List Nat} (ho : isOrd r = false → inI own t = false) : d_row_seen (rowD r) (.int t) (.list (intsD own)) = some (rowD (seenRow own t r)) := by
  unfold d_row_seen
  rw [tag_ca, tag_cl, tag_ce, fils_seen h own]
  cases r with
  | order m s p z fs =>
    show (ifO (memO (.int t) (intsD own)) (bin2 addD (some (.tuple [.str "order", .str m, .str s, .int p, .int z])) (tupO (consO (some (.tuple ((fs.map (seenF own)).map filD))) (some [])))) (tupO (consO (some (.str "prints")) (consO (some (.tuple ((fs.map (seenF own)).map filD))) (some []))))) = some (rowD (if inI own t = true then .order m s p z (fs.map (seenF own)) else .prints (fs.map (seenF own))))
    rw [mem_int]
    cases inI own t <;> rfl
  | cancel n =>
    show (ifO (memO (.int n) (intsD own)) (some (rowD (.cancel n))) (some (.tuple [.str "prints", .tuple []]))) = some (rowD (if inI own n = true then .cancel n else .prints []))
    rw [mem_int]
    cases inI own n <;> rfl
  | prints fs =>
    show (ifO (memO (.int t) (intsD own)) (bin2 addD (slO (rowD (.prints fs)) none (some 5)) (tupO (consO (some (.tuple ((fs.map (seenF own)).map filD))) (some [])))) (tupO (consO (some (.str "prints")) (consO (some (.tuple ((fs.map (seenF own)).map filD))) (some []))))) = some (rowD (.prints (fs.map (seenF own))))
    rw [mem_int, ho rfl]
    rfl
  | closed => rfl
  | call p ps =>
    show tupO (consO (some (PyData.str "call")) (consO (some (optD p)) (consO ((Option.map PyData.list (if (ps.map pairD).length ≤ 100000 then lcO _ _ (ps.map pairD) else none)).bind tupleO) (some [])))) = some (rowD (.call p (ps.filter fun q => inI own q.1)))
    have h2 := h.2.1
    rw [if_pos (by rw [List.length_map]; omega), lcO_map pairD pairD (fun q => inI own q.1) ps (fun q _ => mem_int own q.1) fun q _ _ => rfl]
    rfl
end K5

set_option Elab.async false
set_option linter.all false
set_option maxRecDepth 100000
set_option maxHeartbeats 8000000
namespace K5
open PySem PySem.Spec L2 Fsh Rec
/-! ### what some members see of a record -/
def ownM (rows : List RowM) (G : List Str) : List Nat := (ordersM rows).filter fun k => decide (membOf (rowAt rows k) ∈ G)
def seenRows (rows : List RowM) (own : List Nat) : List RowM := (List.range rows.length).map fun t => seenRow own t (rowAt rows t)
def seenM (c : Str × List RowM) (G : List Str) : Str × List RowM := (c.1, seenRows c.2 (ownM c.2 G))
theorem ordersM_ord {rows : List RowM} {k : Nat} (h : k ∈ ordersM rows) : k < rows.length ∧ Rec.isOrd (rowAt rows k) = true := by
  rw [← orders_is] at h
  obtain ⟨h1, h2⟩ := List.mem_filter.mp h
  exact ⟨List.mem_range.mp h1, h2⟩
theorem memb_ok {rows : List RowM} (h : ∀ r ∈ rows, okR r) {k : Nat} (hk : k < rows.length) (ho : Rec.isOrd (rowAt rows k) = true) : okS 8 (membOf (rowAt rows k)) := by
  have ok := h _ (List.mem_of_getElem? (rowAt_at hk))
  cases e : rowAt rows k <;> rw [e] at ok ho <;> first | exact ok.1 | cases ho
theorem mem_str {G : List Str} (hG : ∀ x ∈ G, okS 8 x) {m : Str} (hm : okS 8 m) : memO (.str m) (G.map PyData.str) = some (decide (m ∈ G)) := by
  unfold memO
  rw [if_pos ⟨(nice_str hm).shaped (by decide), (nice_all (k := 0) (n := 82) fun d hd => by
    obtain ⟨x, hx, rfl⟩ := List.mem_map.mp hd
    exact nice_str (hG x hx)).1⟩]
  refine congrArg some ?_
  rw [List.any_map, Bool.eq_iff_iff, decide_eq_true_iff, List.any_eq_true]
  constructor
  · rintro ⟨y, hy, he⟩
    have he : decide (y = m) = true := he
    exact of_decide_eq_true he ▸ hy
  · intro h
    exact ⟨m, h, (by show decide (m = m) = true; exact decide_eq_true rfl)⟩
theorem own_ord {rows : List RowM} {G : List Str} {t : Nat} (h : inI (ownM rows G) t = true) : Rec.isOrd (rowAt rows t) = true := by
  obtain ⟨k, hk, e⟩ := List.any_eq_true.mp h
  have e : (k : Int) = t := of_decide_eq_true e
  have e : k = t := by omega
  subst e
  exact (ordersM_ord (List.mem_filter.mp hk).1).2
theorem d_seen_tail_is {c : Str × List RowM} (h : okP' c) {G : List Str} (hG : ∀ x ∈ G, okS 8 x) (there : PyData) : d_seen_tail (recP c) (.tuple (G.map PyData.str)) there = some (recP (seenM c G)) := by
  have hl := h.2.1
  unfold d_seen_tail
  show ((Option.map PyData.list ((((some (recP c)).bind d_orders_of).bind seqO).bind _)).bind _) = _
  rw [show (some (recP c)).bind d_orders_of = some (.tuple (intsD (ordersM c.2))) from d_orders_is (by omega)]
  have l1 : (intsD (ordersM c.2)).length ≤ 100000 := by
    have := List.length_filter_le (fun k => Rec.isOrd (rowAt c.2 k)) (List.range c.2.length)
    rw [List.length_range, orders_is] at this
    rw [List.length_map]
    omega
  show ((Option.map PyData.list (if (intsD (ordersM c.2)).length ≤ 100000 then lcO _ _ (intsD (ordersM c.2)) else none)).bind _) = _
  rw [if_pos l1, lcO_map (fun (k : Nat) => PyData.int k) (fun (k : Nat) => PyData.int k) (fun k => decide (membOf (rowAt c.2 k) ∈ G)) (ordersM c.2) (fun k hk => ?_) fun k _ _ => rfl]
  · show tupO (consO (some (.str c.1)) (consO ((Option.map PyData.list (if (enD 0 (c.2.map rowD)).length ≤ 100000 then lcO _ _ (enD 0 (c.2.map rowD)) else none)).bind tupleO) (some []))) = _
    rw [if_pos (by rw [enD_len, List.length_map]; omega), en_rows, lcO_map (enR c.2) (fun t => rowD (seenRow (ownM c.2 G) t (rowAt c.2 t))) (fun _ => true) (List.range c.2.length) (fun _ _ => rfl) fun t ht _ => ?_, List.filter_eq_self.mpr fun _ _ => rfl]
    · show some (PyData.tuple [.str c.1, .tuple _]) = some (PyData.tuple [.str c.1, .tuple ((seenRows c.2 (ownM c.2 G)).map rowD)])
      unfold seenRows
      rw [List.map_map]
      rfl
    · show d_row_seen (rowD (rowAt c.2 t)) (.int t) (.list (intsD (ownM c.2 G))) = _
      refine d_row_seen_is (h.2.2 _ (List.mem_of_getElem? (rowAt_at (List.mem_range.mp ht)))) fun z => ?_
      rw [Bool.eq_false_iff]
      intro w
      rw [own_ord w] at z
      cases z
  · obtain ⟨hk1, hk2⟩ := ordersM_ord hk
    have e : bin2 ixO (bin2 ixO (some (PyData.tuple (c.2.map rowD))) (some (.int k))) (some (.int 1)) = some (.str (membOf (rowAt c.2 k))) := by
      rw [show bin2 ixO (some (PyData.tuple (c.2.map rowD))) (some (.int k)) = some (rowD (rowAt c.2 k)) from atI_nat (by rw [List.getElem?_map, rowAt_at hk1]; rfl)]
      exact memb_at hk2
    rw [e]
    exact mem_str hG (memb_ok h.2.2 hk1 hk2)
/-! ### the classes -/
def clsInit (s : Stmt) : Stmt := match s with
  | .ClassDef (body := b) .. => b.getD 0 (.Pass ⟨0, 0, 0, 0⟩)
  | _ => .Pass ⟨0, 0, 0, 0⟩
abbrev sUM : Stmt := clsInit (topG 8)
abbrev sNU : Stmt := clsInit (topG 9)
abbrev NUM : List Str := ["self", "member"]
abbrev NNU : List Str := ["self", "word", "at"]
theorem scUM : FnScope NUM ["self", "member"] (defScope sUM) := ⟨rfl, rfl, rfl, by decide +kernel, rfl, by decide +kernel, by decide +kernel⟩
theorem scNU : FnScope NNU ["self", "word", "at"] (defScope sNU) := ⟨rfl, rfl, rfl, by decide +kernel, rfl, by decide +kernel, by decide +kernel⟩
abbrev UMF (K : PySem.W.Frag) (mg : Str → Option Value) (C : Addr) : Prop := XcF K mg "UnknownMember" "RecordError" "member" "UnknownMember.__init__" sUM C
abbrev NUF (K : PySem.W.Frag) (mg : Str → Option Value) (C : Addr) : Prop := XcF2 K mg "NotUsable" "RecordError" "word" "at" "NotUsable.__init__" sNU C
section
variable {P : Program} {w : World} {K : PySem.W.Frag} {mg : Str → Option Value} {base : Heap} {C : Addr}
theorem xcUM (x : UMF K mg C) : Xc P w K mg base 1 "UnknownMember" C "member" := ⟨x.ox, x.at_, x.no, by
  obtain ⟨fI, fd, i1, i2, F1⟩ := x.ini
  obtain ⟨D, hD, bD⟩ := x.ba
  refine ⟨fI, fd, i1, i2, F1.binds fun _ _ _ _ _ _ us hl => match us, hl with | [_, _], _ => rfl, rg_init (k := 0) F1 scUM rfl fun cdv A outer s H E hr hg a C v d Q T no ea dp ok q => ?_⟩
  exact init_body (D := D) hg (by have := hr.un; show (A.deeper _).units + 200 < cLine; omega) rfl hD bD rfl rfl (Or.inl rfl) (Or.inl rfl) (by decide) (by decide) (by decide) (by decide) T no ea dp ok q⟩
theorem xcNU (x : NUF K mg C) : Xc2 P w K mg base 1 "NotUsable" C "word" "at" := ⟨x.ox, x.at_, x.no, x.no2, by
  obtain ⟨fI, fd, i1, i2, F1⟩ := x.ini
  obtain ⟨D, hD, bD⟩ := x.ba
  refine ⟨fI, fd, i1, i2, F1.binds fun _ _ _ _ _ _ us hl => match us, hl with | [_, _, _], _ => rfl, rg_init2 (k := 0) F1 scNU rfl fun cdv A outer s H E hr hg a C z v d Q T no no2 ea lz dp ok q => ?_⟩
  exact init_body2 (D := D) hg (by have := hr.un; show (A.deeper _).units + 200 < cLine; omega) rfl hD bD rfl rfl rfl (Or.inl rfl) (Or.inl rfl) (Or.inl rfl) (by decide) (by decide) (by decide) (by decide) (by decide) (by decide) T no no2 ea lz dp ok q⟩
end
end K5

set_option Elab.async false
set_option linter.all false
set_option maxRecDepth 100000
set_option maxHeartbeats 8000000
namespace K5
open PySem PySem.Spec L2 Fsh Rec
theorem tsort_perm (L : List Str) : (tsort L).Perm L := by
  unfold tsort
  by_cases h : ∃ ys : List Str, ys.Perm L ∧ PyProof.Rows.sortedS ys = true
  · rw [dif_pos h]
    exact (Classical.choose_spec h).1
  · rw [dif_neg h]
noncomputable def thereM (rows : List RowM) : List Str := tsort (allTx (names rows))
theorem there_mem {rows : List RowM} {x : Str} : x ∈ thereM rows ↔ x ∈ names rows := by
  unfold thereM
  rw [(tsort_perm _).mem_iff]
  unfold allTx
  rw [foldTx_mem]
  exact ⟨fun h => h.elim id fun z => (by cases z), fun h => .inl h⟩
theorem names_ok {rows : List RowM} (h : ∀ r ∈ rows, okR r) : ∀ x ∈ names rows, okS 8 x := fun x hx => by
  unfold names at hx
  obtain ⟨r, hr, rfl⟩ := List.mem_map.mp hx
  obtain ⟨hr1, hr2⟩ := List.mem_filter.mp hr
  have ok := h r hr1
  cases r <;> first | exact ok.1 | cases hr2
/-- a value that may be asked for -/
structure OkV (d : PyData) : Prop where
  fm : FmtOk d
  nd : ∀ kvs, d ≠ .dict kvs
  sh : SeqAt.shaped d = true
  tx : ∀ s, d = .str s → okS 60 s
def isMem (rows : List RowM) : PyData → Bool
  | .str x => decide (x ∈ names rows)
  | _ => false
theorem mem_there {rows : List RowM} (h : ∀ r ∈ rows, okR r) {d : PyData} (hd : OkV d) : memO d ((thereM rows).map PyData.str) = some (isMem rows d) := by
  have lay : PyData.canLayAll0 ((thereM rows).map PyData.str) = true := (nice_all (k := 0) (n := 82) fun d hd => by
    obtain ⟨x, hx, rfl⟩ := List.mem_map.mp hd
    exact nice_str (names_ok h x (there_mem.mp hx))).1
  unfold memO
  rw [if_pos ⟨hd.sh, lay⟩]
  refine congrArg some ?_
  rw [List.any_map]
  cases d with
  | str x =>
    rw [Bool.eq_iff_iff, List.any_eq_true]
    show _ ↔ decide (x ∈ names rows) = true
    rw [decide_eq_true_iff]
    constructor
    · rintro ⟨y, hy, he⟩
      have he : decide (y = x) = true := he
      exact of_decide_eq_true he ▸ there_mem.mp hy
    · intro z
      exact ⟨x, there_mem.mpr z, (by show decide (x = x) = true; exact decide_eq_true rfl)⟩
  | dict kvs => exact (hd.nd kvs rfl).elim
  | none => exact Bool.eq_false_iff.mpr fun z => by obtain ⟨y, _, e⟩ := List.any_eq_true.mp z; cases e
  | bool b => exact Bool.eq_false_iff.mpr fun z => by obtain ⟨y, _, e⟩ := List.any_eq_true.mp z; cases e
  | int n => exact Bool.eq_false_iff.mpr fun z => by obtain ⟨y, _, e⟩ := List.any_eq_true.mp z; cases e
  | list l => exact Bool.eq_false_iff.mpr fun z => by obtain ⟨y, _, e⟩ := List.any_eq_true.mp z; cases e
  | tuple l => exact Bool.eq_false_iff.mpr fun z => by obtain ⟨y, _, e⟩ := List.any_eq_true.mp z; cases e
/-- members who are some, then one who is none, perhaps with others behind -/
def zSeen (C : Addr) : SpecX := fun xs G Φ Ψ => ∃ (c : Str × List RowM) (gs : List Str) (tail : List PyData), xs = [.d (recP c), .d (.tuple (gs.map PyData.str ++ tail))] ∧ okP' c ∧ gs.length + tail.length ≤ 1000 ∧ (∀ x ∈ gs, x ∈ names c.2) ∧
  (tail = [] → Φ (.d (recP (seenM c gs))) G) ∧ ∀ d ds, tail = d :: ds → OkV d ∧ isMem c.2 d = false ∧ Ψ (.ref C) [("member", .d d)] G
section
variable {P : Program} {w : World} {K : PySem.W.Frag} {mg : Str → Option Value} {base : Heap} {C : Addr}
theorem f_seen {f : Addr} {fd : FuncData} (F1 : Fun K "seen" "seen" s_seen f fd) (hm : mg "seen" = some (.ref f)) (Y : By mg) (x : UMF K mg C) (h_members_of : Fg P w K mg base 1 "members_of" ["record"] (z1 d_members_of)) (h_orders_of : Fg P w K mg base 1 "orders_of" ["record"] (z1 d_orders_of)) (h_row_seen : Fg P w K mg base 2 "row_seen" ["row", "t", "own"] (z3 d_row_seen)) : Fx P w K mg base 3 "seen" ["record", "members"] (zSeen C) := by
  refine fx_rule F1 sc_seen (F1.binds fun _ _ _ _ _ _ us hl => match us, hl with | [_, _], _ => rfl) hm (fun xs G Φ Ψ h => by obtain ⟨_, _, _, rfl, _⟩ := h; rfl) fun cdv A outer s H E hr hg xs G Φ Ψ hz => ?_
  obtain ⟨c, gs, tail, rfl, ok, hl, hgs, h1, h2⟩ := hz
  have kx : Kx (cxOf (L2N.CX P w) P w K mg base N_seen "seen" (defScope s_seen) f cdv A outer s H E) := ⟨Y.bn, Y.isi, Y.all, Y.zip, Y.enum, Y.bool, hg, by have := hr.un; show (A.deeper _).units + 200 < cLine; omega⟩
  show Yss _ _ (List.cons _ _) _ _ _ _ _
  refine yss_cons (M := fun ρ' G' => ρ' = [some (.d (recP c)), some (.d (.tuple (gs.map PyData.str ++ tail))), some (.d (.tuple ((thereM c.2).map PyData.str))), none, none, none, none, none, none, none] ∧ G' = G) (RXS.of (xs_setD 2 (y := .d (.tuple ((thereM c.2).map PyData.str))) ((ev_call1 kx h_members_of (hr.mono (by decide)) (ev_name 0)).run _ (d_members_is (by have := ok.2.1; omega))) sc_seen.nd)) fun ρ' G0 q => ?_
  obtain ⟨rfl, rfl⟩ := q
  refine yss_cons (M := fun ρ' G' => (∃ t3, ρ' = [some (.d (recP c)), some (.d (.tuple (gs.map PyData.str ++ tail))), some (.d (.tuple ((thereM c.2).map PyData.str))), t3, none, none, none, none, none, none]) ∧ G' = G0 ∧ tail = []) ?_ fun ρ' G' q => ?_
  · refine ys_forE (js := [3]) (xs := gs.map PyData.str ++ tail) (L2.passes_of rfl) (it_seq (ev_name 1)) rfl (by rw [List.length_append, List.length_map]; omega) (fun i ρ1 G1 => (∃ t3, ρ1 = [some (.d (recP c)), some (.d (.tuple (gs.map PyData.str ++ tail))), some (.d (.tuple ((thereM c.2).map PyData.str))), t3, none, none, none, none, none, none]) ∧ G1 = G0 ∧ i ≤ gs.length) (pg_name (i := 3) sc_seen.nd rfl (Or.inl rfl)) ⟨⟨none, rfl⟩, rfl, Nat.zero_le _⟩ ?_ ?_
    · rintro i d ρ1 G1 hd ⟨⟨t3, rfl⟩, rfl, hi⟩
      refine ⟨_, rg_name, ?_⟩
      by_cases lt : i < gs.length
      · rw [List.getElem?_append_left (by rw [List.length_map]; exact lt), List.getElem?_map] at hd
        obtain ⟨y, hy, rfl⟩ := Option.map_eq_some_iff.mp hd
        have hin := hgs y (List.mem_of_getElem? hy)
        have oky := names_ok ok.2.2 y hin
        have tt : bin2 ninDO (some (PyData.str y)) (some (.tuple ((thereM c.2).map PyData.str))) = some false := by
          show notO (memO (.str y) ((thereM c.2).map PyData.str)) = _
          rw [mem_str (fun x hx => names_ok ok.2.2 x (there_mem.mp hx)) oky, decide_eq_true (there_mem.mpr hin)]
          rfl
        exact yss_one (ys_ifD (t := false) ((et_cmp (cs_ninD kx) (ev_name 3) (ev_name 2)).run _ tt) (fun z => nomatch z) fun _ => yss_nil ⟨⟨_, rfl⟩, rfl, lt⟩)
      · have ei : i = gs.length := by omega
        subst ei
        rw [List.getElem?_append_right (by rw [List.length_map]; exact Nat.le_refl _), List.length_map, Nat.sub_self] at hd
        cases et : tail with
        | nil =>
          rw [et] at hd
          cases hd
        | cons d0 ds =>
          rw [et] at hd
          have : d0 = d := Option.some.inj hd
          subst this
          obtain ⟨okd, hno, hΨ⟩ := h2 d0 ds et
          have tt : bin2 ninDO (some d0) (some (.tuple ((thereM c.2).map PyData.str))) = some true := by
            show notO (memO d0 ((thereM c.2).map PyData.str)) = _
            rw [mem_there ok.2.2 okd, hno]
            rfl
          rw [← et]
          exact yss_one (ys_ifD (t := true) ((et_cmp (cs_ninD kx) (ev_name 3) (ev_name 2)).run _ tt) (fun _ => yss_one (ys_raise (xcUM x) (hr.mono (by decide)) hg takes_cx (xd_name 3) okd.fm hΨ)) fun z => nomatch z)
    · rintro ρ1 G1 ⟨h3, h4, h5⟩
      refine ⟨h3, h4, ?_⟩
      rw [List.length_append, List.length_map] at h5
      exact List.eq_nil_of_length_eq_zero (by omega)
  obtain ⟨⟨t3, rfl⟩, rfl, rfl⟩ := q
  refine RXS.of (RS.forget (j := 3) ?_)
  rw [List.append_nil]
  exact (es_seen_tail h_orders_of h_row_seen kx hr (recP c) (.tuple (gs.map PyData.str)) _).run _ (d_seen_tail_is ok (fun x hx => names_ok ok.2.2 x (hgs x hx)) _) _ _ Φ (h1 rfl)
end
end K5

set_option Elab.async false
set_option linter.all false
set_option maxRecDepth 100000
set_option maxHeartbeats 8000000
namespace K5
open PySem PySem.Spec L2 Fsh Rec
def ruleL : List Str := [u "time", u "late", u "price"]
def ruleB : PyData → Bool
  | .str s => decide (s ∈ ruleL)
  | _ => false
theorem rule_told {d : PyData} (h : OkV d) : d_is_rule d = some (.bool (ruleB d)) := by
  unfold d_is_rule
  cases d with
  | str s =>
    show (andO (some true) (memO (.str s) (ruleL.map PyData.str))).map PyData.bool = _
    unfold memO
    rw [if_pos ⟨h.sh, by decide +kernel⟩, List.any_map]
    show some (PyData.bool (ruleL.any _)) = some (.bool (decide (s ∈ ruleL)))
    refine congrArg (fun b => some (PyData.bool b)) ?_
    rw [Bool.eq_iff_iff, List.any_eq_true, decide_eq_true_iff]
    constructor
    · rintro ⟨y, hy, he⟩
      have he : decide (y = s) = true := he
      exact of_decide_eq_true he ▸ hy
    · intro z
      exact ⟨s, z, (by show decide (s = s) = true; exact decide_eq_true rfl)⟩
  | dict kvs => exact (h.nd kvs rfl).elim
  | none => rfl
  | bool b => rfl
  | int n => rfl
  | list l => rfl
  | tuple l => rfl
def numB : PyData → Bool
  | .int n => decide (0 ≤ n)
  | _ => false
theorem num_told (d : PyData) (nd : ∀ kvs, d ≠ .dict kvs) : d_is_number d = some (.bool (numB d)) := by
  cases d with
  | dict kvs => exact (nd kvs rfl).elim
  | none => rfl
  | bool b => rfl
  | int n =>
    show Option.map PyData.bool (andO (some true) (some (decide (n ≥ 0)))) = _
    rfl
  | str s => rfl
  | list l => rfl
  | tuple l => rfl
def cutB (rows : List RowM) : PyData → Bool
  | .int n => decide (0 ≤ n) && decide (n ≤ (rows.length : Int))
  | _ => false
theorem cut_told {rows : List RowM} {d : PyData} (h : OkV d) : orO (notO ((((some d).bind d_is_number)).bind boO)) (bin2 gtO (some d) ((some (PyData.tuple (rows.map rowD))).bind lenO)) = some (!cutB rows d) := by
  have e : (some d).bind d_is_number = some (.bool (numB d)) := num_told d h.nd
  rw [e]
  clear e
  cases d with
  | int n =>
    by_cases h0 : 0 ≤ n
    · have e1 : decide (0 ≤ n) = true := decide_eq_true h0
      show orO (notO ((some (PyData.bool (decide (0 ≤ n)))).bind boO)) _ = some (!(decide (0 ≤ n) && decide (n ≤ (rows.length : Int))))
      rw [e1]
      show some (decide (n > ((rows.map rowD).length : Int))) = some (!decide (n ≤ (rows.length : Int)))
      rw [List.length_map]
      refine congrArg some ?_
      by_cases h1 : n ≤ (rows.length : Int)
      · rw [decide_eq_true h1, decide_eq_false (by omega)]
        rfl
      · rw [decide_eq_false h1, decide_eq_true (by omega)]
        rfl
    · have e1 : decide (0 ≤ n) = false := decide_eq_false h0
      show orO (notO ((some (PyData.bool (decide (0 ≤ n)))).bind boO)) _ = some (!(decide (0 ≤ n) && decide (n ≤ (rows.length : Int))))
      rw [e1]
      rfl
  | none => rfl
  | bool b => rfl
  | str s => rfl
  | list l => rfl
  | tuple l => rfl
  | dict kvs => exact (h.nd kvs rfl).elim
abbrev useF (word : Str) : List (Str × DV) := [(Str.ofString "at", .d (.int (-1))), (Str.ofString "word", .d (.str word))]
/-- a record and a value that may be used, or may not -/
def zUse (C : Addr) (word : Str) (okB : List RowM → PyData → Bool) (out : Str × List RowM → PyData → PyData) : SpecX := fun xs G Φ Ψ => ∃ (c : Str × List RowM) (d : PyData), xs = [.d (recP c), .d d] ∧ OkV d ∧ okP' c ∧ (okB c.2 d = true → Φ (.d (out c d)) G) ∧ (okB c.2 d = false → Ψ (.ref C) (useF word) G)
def withOut (c : Str × List RowM) (d : PyData) : PyData := .tuple [d, .tuple (c.2.map rowD)]
def cutOut (c : Str × List RowM) : PyData → PyData
  | .int n => recP (c.1, c.2.take n.toNat)
  | _ => .none
abbrev s_with : Stmt := topG 26
abbrev s_cut : Stmt := topG 27
abbrev N_with : List Str := ["record", "rule"]
abbrev N_cut : List Str := ["record", "t", "rule", "rows"]
theorem sc_with : FnScope N_with ["record", "rule"] (defScope s_with) := ⟨rfl, rfl, rfl, by decide +kernel, rfl, by decide +kernel, by decide +kernel⟩
theorem sc_cut : FnScope N_cut ["record", "t"] (defScope s_cut) := ⟨rfl, rfl, rfl, by decide +kernel, rfl, by decide +kernel, by decide +kernel⟩
theorem fmt_m1 : FmtOk (.int (-1)) := ⟨by decide +kernel, rfl, by decide, by show (PyData.shown (.int (-1))).length + 100 ≤ sizeLine; rw [sizeLine_eq]; decide +kernel, by show (PyData.shown (.int (-1))).length + 100 ≤ sizeLine; rw [sizeLine_eq]; decide +kernel⟩
theorem cut_map (f : RowM → PyData) (rows : List RowM) (n : Nat) : cutD (rows.map f) none (some (n : Int)) = (rows.take n).map f := cut_take f rows n
section
variable {P : Program} {w : World} {K : PySem.W.Frag} {mg : Str → Option Value} {base : Heap} {C : Addr}
theorem f_with {f : Addr} {fd : FuncData} (F1 : Fun K "with_rule" "with_rule" s_with f fd) (hm : mg "with_rule" = some (.ref f)) (Y : By mg) (x : NUF K mg C) (h_is_rule : Fg P w K mg base 1 "is_rule" ["thing"] (z1 d_is_rule)) : Fx P w K mg base 3 "with_rule" ["record", "rule"] (zUse C "rule" (fun _ d => ruleB d) withOut) := by
  refine fx_rule F1 sc_with (F1.binds fun _ _ _ _ _ _ us hl => match us, hl with | [_, _], _ => rfl) hm (fun xs G Φ Ψ h => by obtain ⟨c, d, rfl, _⟩ := h; rfl) fun cdv A outer s H E hr hg xs G Φ Ψ hz => ?_
  obtain ⟨c, d, rfl, okd, ok, h1, h2⟩ := hz
  have kx : Kx (cxOf (L2N.CX P w) P w K mg base N_with "with_rule" (defScope s_with) f cdv A outer s H E) := ⟨Y.bn, Y.isi, Y.all, Y.zip, Y.enum, Y.bool, hg, by have := hr.un; show (A.deeper _).units + 200 < cLine; omega⟩
  show Yss _ _ (List.cons _ _) _ _ _ _ _
  have tt : notO (((some d).bind d_is_rule).bind boO) = some (!ruleB d) := by
    rw [show (some d).bind d_is_rule = some (.bool (ruleB d)) from rule_told okd]
    rfl
  refine yss_cons (M := fun ρ' G' => (ρ' = [some (.d (recP c)), some (.d d)] ∧ G' = G) ∧ ruleB d = true) (ys_ifD (t := !ruleB d) ((et_not (et_val (eb_ev (ev_call1 kx h_is_rule (hr.mono (by decide)) (ev_name 1))))).run _ tt) (fun z => ?_) fun z => yss_nil ⟨⟨rfl, rfl⟩, by cases e : ruleB d <;> rw [e] at z <;> first | rfl | cases z⟩) fun ρ' G0 q => ?_
  · exact yss_one (ys_raise2 (xcNU x) (hr.mono (by decide)) hg takes_cx xd_str (xd_neg xd_int) (by decide) fmt_m1 (h2 (show ruleB d = false by cases e : ruleB d <;> rw [e] at z <;> first | rfl | cases z)))
  obtain ⟨⟨rfl, rfl⟩, isR⟩ := q
  exact RXS.of (xss_one (xs_ret (Xd.to (x := .d (withOut c d)) (xd_tup (ds := [d, .tuple (c.2.map rowD)]) (xad_cons (xd_name 1) (xad_cons (xd_ixT (ds := [.str c.1, .tuple (c.2.map rowD)]) (xd_name 0) xd_int rfl) xa_nil)) (by show 2 ≤ 100000; decide)) (h1 isR))))
theorem f_cut {f : Addr} {fd : FuncData} (F1 : Fun K "cut" "cut" s_cut f fd) (hm : mg "cut" = some (.ref f)) (Y : By mg) (x : NUF K mg C) (h_is_number : Fg P w K mg base 2 "is_number" ["thing"] (z1 d_is_number)) : Fx P w K mg base 3 "cut" ["record", "t"] (zUse C "row" cutB cutOut) := by
  refine fx_rule F1 sc_cut (F1.binds fun _ _ _ _ _ _ us hl => match us, hl with | [_, _], _ => rfl) hm (fun xs G Φ Ψ h => by obtain ⟨c, d, rfl, _⟩ := h; rfl) fun cdv A outer s H E hr hg xs G Φ Ψ hz => ?_
  obtain ⟨c, d, rfl, okd, ok, h1, h2⟩ := hz
  have kx : Kx (cxOf (L2N.CX P w) P w K mg base N_cut "cut" (defScope s_cut) f cdv A outer s H E) := ⟨Y.bn, Y.isi, Y.all, Y.zip, Y.enum, Y.bool, hg, by have := hr.un; show (A.deeper _).units + 200 < cLine; omega⟩
  show Yss _ _ (List.cons _ _) _ _ _ _ _
  refine yss_cons (M := fun ρ' G' => ρ' = [some (.d (recP c)), some (.d d), some (.d (.str c.1)), some (.d (.tuple (c.2.map rowD)))] ∧ G' = G) (RXS.of (xs_asg (js := [2] ++ ([3] ++ [])) (Φe := Is (.d (recP c)) G) (Xd.g (xd_name 0)) (pg_tup (n := 2) rfl (pgs_cons (pg_name (i := 2) sc_cut.nd rfl (Or.inl rfl)) (pgs_cons (pg_name (i := 3) sc_cut.nd rfl (Or.inl rfl)) pgs_nil))) fun y G2 q => ?_)) fun ρ' G0 q => ?_
  · obtain ⟨rfl, rfl⟩ := q
    exact ⟨_, rg_tup rfl (rgs_cons rg_name (rgs_cons rg_name rgs_nil)), rfl, rfl⟩
  obtain ⟨rfl, rfl⟩ := q
  refine yss_cons (M := fun ρ' G' => (ρ' = [some (.d (recP c)), some (.d d), some (.d (.str c.1)), some (.d (.tuple (c.2.map rowD)))] ∧ G' = G0) ∧ cutB c.2 d = true) (ys_ifD (t := !cutB c.2 d) ((et_w (ew_or (et_not (et_val (eb_ev (ev_call1 kx h_is_number (hr.mono (by decide)) (ev_name 1))))) (ew_one (et_cmp cs_gt (ev_name 1) (ev_len kx (ev_name 3)))))).run _ (cut_told okd)) (fun z => ?_) fun z => yss_nil ⟨⟨rfl, rfl⟩, by cases e : cutB c.2 d <;> rw [e] at z <;> first | rfl | cases z⟩) fun ρ' G1 q => ?_
  · exact yss_one (ys_raise2 (xcNU x) (hr.mono (by decide)) hg takes_cx xd_str (xd_neg xd_int) (by decide) fmt_m1 (h2 (by cases e : cutB c.2 d <;> rw [e] at z <;> first | rfl | cases z)))
  obtain ⟨⟨rfl, rfl⟩, isC⟩ := q
  cases d with
  | int n =>
    have isC2 : (decide (0 ≤ n) && decide (n ≤ (c.2.length : Int))) = true := isC
    rw [Bool.and_eq_true] at isC2
    obtain ⟨k, rfl⟩ := Int.eq_ofNat_of_zero_le (of_decide_eq_true isC2.1)
    refine RXS.of (xss_one (xs_ret (Xd.to (x := .d (cutOut c (.int k))) ((ev_tup (ea_cons (ev_name 2) (ea_cons (ev_slice (ev_name 3) eo_none (eo_some (ev_name 1))) ea_nil))).run _ ?_) (h1 isC))))
    show tupO (consO (some (.str c.1)) (consO (some (.tuple (cutD (c.2.map rowD) none (some (k : Int))))) (some []))) = some (.tuple [.str c.1, .tuple ((c.2.take (k : Int).toNat).map rowD)])
    rw [cut_map, Int.toNat_natCast]
    rfl
  | _ => cases isC
end
end K5

set_option Elab.async false
set_option linter.all false
set_option maxRecDepth 100000
set_option maxHeartbeats 8000000
namespace K5
open PySem PySem.Spec L2 Fsh Rec
abbrev sGr : Stmt := topG 50
abbrev NGr : List Str := ["_law_reader_here", "_law_rows", "_law_taken"]
theorem scGr : FnScope NGr ["_law_reader_here"] (defScope sGr) := ⟨rfl, rfl, rfl, by decide +kernel, rfl, by decide +kernel, by decide +kernel⟩
def gr1 : List RowM := [oR "ann" "buy" 10 6 [], oR "bob" "buy" 10 6 [], oR "cy" "buy" 10 6 []]
def gr2 : List RowM := [oR "dee" "buy" 10 6 [], oR "ann" "buy" 9 2 []]
def gr3 : List RowM := [.prints [(10, 1, some 0), (10, 2, some 0), (10, 1, none), (10, 1, some 0), (10, 2, some 0), (10, 1, some 1)]]
def grT : List Fil := [(10, 1, some 1), (10, 1, some 2), (10, 1, none), (9, 1, none), (10, 1, some 1), (10, 1, some 3)]
def gr4 : List RowM := [oR "ann" "sell" 9 6 grT]
def gr5 : List RowM := List.replicate 18 (.prints [])
def gr6 : List RowM := [.cancel 4]
def gr7 : List RowM := [oR "bob" "sell" 12 3 [], oR "cy" "buy" 8 2 []]
def gr8 : List RowM := [oR "eve" "buy" 8 1 [], .prints [(8, 1, some 28), (12, 2, some 26)]]
def grR : List RowM := gr1 ++ gr2 ++ gr3 ++ gr4 ++ gr5 ++ gr6 ++ gr7 ++ gr8
def greatR : Str × List RowM := (u "late", grR)
def zGr : Fsh.Spec := fun xs G Φ => ∃ (r : Addr) (n : Int) (Gr G' : Store), xs = [.a r] ∧ G = Gr ++ G' ∧ Rd n r Gr ∧ n < 900000 ∧ ∀ (L : List (Str × List RowM)) (Gr' : Store), (L = [] ∨ L = [greatR]) → Φ (.d (.list (L.map recP))) (Gr' ++ G')
section
variable {P : Program} {w : World} {K : PySem.W.Frag} {mg : Str → Option Value} {base : Heap}
theorem f_great {f : Addr} {fd : FuncData} (F1 : Fun K "_law_great_records" "_law_great_records" sGr f fd) (hm : mg "_law_great_records" = some (.ref f)) (D : Fn P w K mg base 1 "_law_draw" ["_law_reader_here", "_law_many"] zDraw) : Fn P w K mg base 2 "_law_great_records" ["_law_reader_here"] zGr := by
  refine fn_rule F1 scGr (F1.binds fun _ _ _ _ _ _ us hl => match us, hl with | [_], _ => rfl) hm (fun xs G Φ h => by obtain ⟨_, _, _, _, rfl, _⟩ := h; rfl) fun cdv A outer s H E hr xs G Φ hz => ?_
  obtain ⟨r, n, Gr, G', rfl, rfl, hR, hn, hq⟩ := hz
  show Xss _ (List.cons _ _) _ _ _ _
  refine xss_at (xs_setD 1 (y := .d (.tuple (gr1.map rowD))) ((ev_cstK 60 (by kernel_rfl)).run _ rfl) scGr.nd) ?_
  refine xss_at (xs_setD 1 (y := .d (.tuple ((gr1 ++ gr2).map rowD))) ((ev_bin bs_add (ev_name 1) (ev_cstK 60 (d := .tuple (gr2.map rowD)) (by kernel_rfl))).run _ (by kernel_rfl)) scGr.nd) ?_
  refine xss_at (xs_setD 1 (y := .d (.tuple ((gr1 ++ gr2 ++ gr3).map rowD))) ((ev_bin bs_add (ev_name 1) (ev_cstK 60 (d := .tuple (gr3.map rowD)) (by kernel_rfl))).run _ (by kernel_rfl)) scGr.nd) ?_
  refine xss_at (xs_setD 2 (y := .d (.tuple (grT.map filD))) ((ev_cstK 60 (by kernel_rfl)).run _ rfl) scGr.nd) ?_
  refine xss_at (xs_setD 1 (y := .d (.tuple ((gr1 ++ gr2 ++ gr3 ++ gr4 ++ gr5 ++ gr6).map rowD))) (Xd.cast (xd_catt (xd_catt (xd_catt (ys := gr4.map rowD) (xd_name 1) ((ev_tup (ea_cons (ev_tup (ea_cons ev_str (ea_cons ev_str (ea_cons ev_str (ea_cons ev_int (ea_cons ev_int (ea_cons (ev_name 2) ea_nil))))))) ea_nil)).run _ (by kernel_rfl)) (by decide)) (xd_mult (xs := [rowD (.prints [])]) (n := 18) ((ev_cstK 60 (by kernel_rfl)).run _ rfl) xd_int (by decide) (by decide) (by decide) (by show 1 ≤ 1000; decide)) (by decide)) ((ev_cstK 60 (d := .tuple (gr6.map rowD)) (by kernel_rfl)).run _ rfl) (by decide)) (by kernel_rfl)) scGr.nd) ?_
  refine xss_at (xs_setD 1 (y := .d (.tuple ((gr1 ++ gr2 ++ gr3 ++ gr4 ++ gr5 ++ gr6 ++ gr7).map rowD))) ((ev_bin bs_add (ev_name 1) (ev_cstK 60 (d := .tuple (gr7.map rowD)) (by kernel_rfl))).run _ (by kernel_rfl)) scGr.nd) ?_
  refine xss_at (xs_setD 1 (y := .d (.tuple (grR.map rowD))) ((ev_bin bs_add (ev_name 1) (ev_cstK 60 (d := .tuple (gr8.map rowD)) (by kernel_rfl))).run _ (by kernel_rfl)) scGr.nd) ?_
  refine xss_one (xs_ret (xp_if (Φc := fun tt G2 => ∃ Gr1, G2 = Gr1 ++ G') (xt_eqR (xp_draw0 (m := 3) (Φ := fun y G2 => ∃ (i : Int) (Gr1 : Store), y = intV i ∧ G2 = Gr1 ++ G') D (hr.mono (by decide)) hR (by omega) (by decide) (by decide) (Xad.i (xad_cons (xd_name 0) (xad_cons xd_int xa_nil))) fun i Gr1 h1 h2 h3 => ⟨i, Gr1, rfl, rfl⟩) fun y G2 w => ?_) (fun G1 q => ?_) fun G1 q => ?_))
  · obtain ⟨i, Gr1, e1, e2⟩ := w
    exact ⟨i, e1, Gr1, e2⟩
  · obtain ⟨Gr1, rfl⟩ := q
    exact Xd.to (x := .d (.list ([greatR].map recP))) ((ev_lst (ea_cons (ev_tup (ea_cons ev_str (ea_cons (ev_name 1) ea_nil))) ea_nil)).run _ rfl) (hq [greatR] Gr1 (.inr rfl))
  · obtain ⟨Gr1, rfl⟩ := q
    exact Xd.to (x := .d (.list [])) ((ev_lst ea_nil).run _ rfl) (hq [] Gr1 (.inl rfl))
end
theorem great_ok : okP' greatR := by
  have L : ∀ n : Int, -100000 ≤ n ∧ n ≤ 100000 → lil n := fun n h => lil_of h.1 h.2
  have S : ∀ (s : String), s.length ≤ 8 → okS 8 (u s) := fun s h => okS_of s h
  have F0 : okFs [] := ⟨by decide, fun f h => by cases h⟩
  have N : lilO none := fun v e => by cases e
  have I : ∀ n : Int, -100000 ≤ n ∧ n ≤ 100000 → lilO (some n) := fun n h v e => by rw [← Option.some.inj e]; exact L n h
  have O : ∀ (m s : String) (p z : Int) (fs : List Fil), m.length ≤ 8 → s.length ≤ 8 → (-100000 ≤ p ∧ p ≤ 100000) → (-100000 ≤ z ∧ z ≤ 100000) → okFs fs → okR (oR m s p z fs) := fun m s p z fs h1 h2 h3 h4 h5 => ⟨S m h1, S s h2, L p h3, L z h4, h5⟩
  have FF : ∀ fs : List Fil, fs.length ≤ 30 → (∀ f ∈ fs, (-100000 ≤ f.1 ∧ f.1 ≤ 100000) ∧ (-100000 ≤ f.2.1 ∧ f.2.1 ≤ 100000) ∧ (∀ k, f.2.2 = some k → -100000 ≤ k ∧ k ≤ 100000)) → okFs fs := fun fs h1 h2 => ⟨h1, fun f hf => by
    obtain ⟨q1, q2, q3⟩ := h2 f hf
    exact ⟨L _ q1, L _ q2, fun v e => L v (q3 v e)⟩⟩
  refine ⟨S "late" (by decide), by decide, fun r hr => ?_⟩
  have hr : r ∈ grR := hr
  unfold grR at hr
  simp only [List.mem_append] at hr
  rcases hr with ((((((hr | hr) | hr) | hr) | hr) | hr) | hr) | hr
  · simp only [gr1, List.mem_cons, List.not_mem_nil, or_false] at hr
    rcases hr with e | e | e <;> subst e <;> exact O _ _ _ _ _ (by decide) (by decide) (by decide) (by decide) F0
  · simp only [gr2, List.mem_cons, List.not_mem_nil, or_false] at hr
    rcases hr with e | e <;> subst e <;> exact O _ _ _ _ _ (by decide) (by decide) (by decide) (by decide) F0
  · simp only [gr3, List.mem_cons, List.not_mem_nil, or_false] at hr
    subst hr
    refine FF _ (by decide) fun f hf => ?_
    simp only [List.mem_cons, List.not_mem_nil, or_false] at hf
    rcases hf with e | e | e | e | e | e <;> subst e <;> refine ⟨by decide, by decide, fun k e => ?_⟩ <;> cases e <;> decide
  · simp only [gr4, List.mem_cons, List.not_mem_nil, or_false] at hr
    subst hr
    refine O _ _ _ _ _ (by decide) (by decide) (by decide) (by decide) (FF _ (by decide) fun f hf => ?_)
    simp only [grT, List.mem_cons, List.not_mem_nil, or_false] at hf
    rcases hf with e | e | e | e | e | e <;> subst e <;> refine ⟨by decide, by decide, fun k e => ?_⟩ <;> cases e <;> decide
  · obtain rfl := (List.mem_replicate.mp hr).2
    exact F0
  · simp only [gr6, List.mem_cons, List.not_mem_nil, or_false] at hr
    subst hr
    exact L 4 (by decide)
  · simp only [gr7, List.mem_cons, List.not_mem_nil, or_false] at hr
    rcases hr with e | e <;> subst e <;> exact O _ _ _ _ _ (by decide) (by decide) (by decide) (by decide) F0
  · simp only [gr8, List.mem_cons, List.not_mem_nil, or_false] at hr
    rcases hr with e | e <;> subst e
    · exact O _ _ _ _ _ (by decide) (by decide) (by decide) (by decide) F0
    · refine FF _ (by decide) fun f hf => ?_
      simp only [List.mem_cons, List.not_mem_nil, or_false] at hf
      rcases hf with e | e <;> subst e <;> refine ⟨by decide, by decide, fun k e => ?_⟩ <;> cases e <;> decide
theorem great_valid : validR greatR.2 := validR_of (by decide +kernel)
end K5

set_option Elab.async false
set_option linter.all false
set_option maxRecDepth 100000
set_option maxHeartbeats 8000000
namespace K5
open PySem PySem.Spec L2 Fsh Rec
abbrev bD (b : Bool) : PyData := .bool b
abbrev sFlg : Stmt := topG 31
abbrev sOwn : Stmt := topG 32
abbrev sFld : Stmt := topG 33
abbrev sOut : Stmt := topG 34
abbrev NFlg : List Str := ["_law_e", "_law_found"]
abbrev NOwn : List Str := ["_law_number", "_law_own", "_law_k"]
abbrev NFld : List Str := ["_law_e", "_law_number"]
abbrev NOut : List Str := ["_law_ask", "_law_found", "_law_e", "_law_flags", "_law_numbers", "_law_k"]
theorem scFlg : FnScope NFlg ["_law_e"] (defScope sFlg) := ⟨rfl, rfl, rfl, by decide +kernel, rfl, by decide +kernel, by decide +kernel⟩
theorem scOwn : FnScope NOwn ["_law_number"] (defScope sOwn) := ⟨rfl, rfl, rfl, by decide +kernel, rfl, by decide +kernel, by decide +kernel⟩
theorem scFld : FnScope NFld ["_law_e", "_law_number"] (defScope sFld) := ⟨rfl, rfl, rfl, by decide +kernel, rfl, by decide +kernel, by decide +kernel⟩
theorem scOut : FnScope NOut ["_law_ask"] (defScope sOut) := ⟨rfl, rfl, rfl, by decide +kernel, rfl, by decide +kernel, by decide +kernel⟩
/-- the exception p is of the class at C, its dict at dd -/
structure IsExc (p : Addr × Obj) (C dd : Addr) : Prop where
  cls : p.2.cls = .ref C
  dict : p.2.dict = some dd
  data : ∃ vs, p.2.data = .fields vs
theorem boot_ve : bootBuiltins "ValueError" = some (.type "ValueError") := PyProof.Rows.Boot.«ValueError»
end K5
namespace K5M
open PySem PySem.Spec L2 Fsh Rec K5
def flagsD : List PyData := [bD false, bD false, bD true, bD false, bD false, bD false, bD false, bD false, bD false, bD true, bD false, bD false, bD true, bD true]
def zFlg (C : Addr) (p : Addr × Obj) : Fsh.Spec := fun xs G Φ => ∃ dd fs, xs = [.a p.1] ∧ G = [(dd, Cell.xd fs)] ∧ IsExc p C dd ∧ Φ (.d (.list flagsD)) G
def zOwn (p : Addr × Obj) : Fsh.Spec := fun xs G Φ => xs = [.d (.int 2)] ∧ Φ (.d (.list flagsD)) G
def zFld (C : Addr) (p : Addr × Obj) : Fsh.Spec := fun xs G Φ => ∃ dd y, xs = [.a p.1, .d (.int 2)] ∧ G = [(dd, Cell.xd [("member", .d y)])] ∧ IsExc p C dd ∧ Φ (.d (.tuple [.str "member", y])) G
structure Ecs (K : PySem.W.Frag) (mg : Str → Option Value) (C : Addr) : Prop where
  um : UMF K mg C
  c0 : ClsAt K mg "InvalidPaper" C false
  c1 : ClsAt K mg "UnknownOrder" C false
  c2 : ClsAt K mg "UnknownMember" C true
  c3 : ClsAt K mg "NotUsable" C false
  c4 : ClsAt K mg "InvalidEvent" C false
  c5 : ClsAt K mg "NothingToUndo" C false
  c6 : ClsAt K mg "InvalidText" C false
  c7 : ClsAt K mg "InvalidRow" C false
  c8 : ClsAt K mg "PaperError" C false
  c9 : ClsAt K mg "RecordError" C true
  c10 : ClsAt K mg "AuditError" C false
  c11 : ClsAt K mg "TextError" C false
  c12 : ClsAt K mg "ShownError" C true
  ve : PySem.W.kitOne K (.ref C) (.type "ValueError") = some true
  noVE : mg "ValueError" = none
  isi : mg "isinstance" = none
  exm : ExmAt K mg "ShownError" C
section
variable {P : Program} {w : World} {K : PySem.W.Frag} {mg : Str → Option Value} {base : Heap} {C : Addr}
theorem f_flg {f : Addr} {fd : FuncData} (F1 : Fun K "_law_class_flags" "_law_class_flags" sFlg f fd) (hm : mg "_law_class_flags" = some (.ref f)) (E : Ecs K mg C) : Fh P w K mg base 1 "_law_class_flags" ["_law_e"] (zFlg C) := by
  refine fh_rule F1 scFlg (F1.binds fun _ _ _ _ _ _ us hl => match us, hl with | [_], _ => rfl) hm (fun p xs G Φ h => by obtain ⟨dd, fs, rfl, _⟩ := h; rfl) fun cdv A outer s H p hot gds hr xs G Φ hz => ?_
  obtain ⟨dd, fs, rfl, rfl, ie, hq⟩ := hz
  have hh : Held (cxHot P w K mg base NFlg "_law_class_flags" (defScope sFlg) f cdv A outer s H p) p.1 C dd p.2 := ⟨List.mem_singleton.mpr rfl, ie.cls, ie.dict, ie.data⟩
  have ek := E.um.ek
  have I : ∀ {x : Str} {b : Bool} {t2 : Option DV} {pos p1 p2 p3 : Pos}, ClsAt K mg x C b → Gl (cxHot P w K mg base NFlg "_law_class_flags" (defScope sFlg) f cdv A outer s H p) x → (x == ("__debug__" : Str)) = false →
      Xi (cxHot P w K mg base NFlg "_law_class_flags" (defScope sFlg) f cdv A outer s H p) (.Call (.Name "isinstance" p1) [.Name "_law_e" p2, .Name x p3] [] pos) [some (.a p.1), t2] [(dd, Cell.xd fs)] (.d (.bool b)) := fun c hg hd => xi_isx hh ek E.isi c (Xd.g (xd_name 0)) List.mem_cons_self rfl hg hd
  show Xss _ (List.cons _ _) _ _ _ _
  refine xss_at (ρ' := [some (.a p.1), some (.d (.list [bD false, bD false, bD true]))]) (G' := [(dd, Cell.xd fs)]) (xs_set 1 (xi_lst (ds := [bD false, bD false, bD true]) (xi_cons (I E.c0 rfl (by decide)) (xi_cons (I E.c1 rfl (by decide)) (xi_cons (I E.c2 rfl (by decide)) (Xad.i xa_nil)))) (by decide)) (fun y G2 q => ⟨by rw [q.1]; rfl, q.2⟩) scFlg.nd) ?_
  refine xss_at (ρ' := [some (.a p.1), some (.d (.list [bD false, bD false, bD true, bD false, bD false, bD false]))]) (G' := [(dd, Cell.xd fs)]) (xs_set 1 (xi_cat (xs := [bD false, bD false, bD true]) (ys := [bD false, bD false, bD false]) (Xd.g (xd_name 1)) (xi_lst (ds := [bD false, bD false, bD false]) (xi_cons (I E.c3 rfl (by decide)) (xi_cons (I E.c4 rfl (by decide)) (xi_cons (I E.c5 rfl (by decide)) (Xad.i xa_nil)))) (by decide)) (by decide)) (fun y G2 q => ⟨by rw [q.1]; rfl, q.2⟩) scFlg.nd) ?_
  refine xss_at (ρ' := [some (.a p.1), some (.d (.list [bD false, bD false, bD true, bD false, bD false, bD false, bD false, bD false]))]) (G' := [(dd, Cell.xd fs)]) (xs_set 1 (xi_cat (xs := [bD false, bD false, bD true, bD false, bD false, bD false]) (ys := [bD false, bD false]) (Xd.g (xd_name 1)) (xi_lst (ds := [bD false, bD false]) (xi_cons (I E.c6 rfl (by decide)) (xi_cons (I E.c7 rfl (by decide)) (Xad.i xa_nil))) (by decide)) (by decide)) (fun y G2 q => ⟨by rw [q.1]; rfl, q.2⟩) scFlg.nd) ?_
  refine xss_at (ρ' := [some (.a p.1), some (.d (.list [bD false, bD false, bD true, bD false, bD false, bD false, bD false, bD false, bD false, bD true, bD false]))]) (G' := [(dd, Cell.xd fs)]) (xs_set 1 (xi_cat (xs := [bD false, bD false, bD true, bD false, bD false, bD false, bD false, bD false]) (ys := [bD false, bD true, bD false]) (Xd.g (xd_name 1)) (xi_lst (ds := [bD false, bD true, bD false]) (xi_cons (I E.c8 rfl (by decide)) (xi_cons (I E.c9 rfl (by decide)) (xi_cons (I E.c10 rfl (by decide)) (Xad.i xa_nil)))) (by decide)) (by decide)) (fun y G2 q => ⟨by rw [q.1]; rfl, q.2⟩) scFlg.nd) ?_
  refine xss_one (xs_ret (R.imp (xi_cat (xs := [bD false, bD false, bD true, bD false, bD false, bD false, bD false, bD false, bD false, bD true, bD false]) (ys := [bD false, bD true, bD true]) (Xd.g (xd_name 1)) (xi_lst (ds := [bD false, bD true, bD true]) (xi_cons (I E.c11 rfl (by decide)) (xi_cons (I E.c12 rfl (by decide)) (xi_cons (xi_isxT hh ek E.isi E.noVE boot_ve E.ve (Xd.g (xd_name 0)) List.mem_cons_self) (Xad.i xa_nil)))) (by decide)) (by decide)) fun y G2 q => ?_))
  rw [q.1, q.2]
  exact hq
theorem f_own {f : Addr} {fd : FuncData} (F1 : Fun K "_law_own_flags" "_law_own_flags" sOwn f fd) (hm : mg "_law_own_flags" = some (.ref f)) (Y : By mg) : Fh P w K mg base 1 "_law_own_flags" ["_law_number"] zOwn := by
  refine fh_rule F1 scOwn (F1.binds fun _ _ _ _ _ _ us hl => match us, hl with | [_], _ => rfl) hm (fun p xs G Φ h => by obtain ⟨rfl, _⟩ := h; rfl) fun cdv A outer s H p hot gds hr xs G Φ hz => ?_
  obtain ⟨rfl, hq⟩ := hz
  have kx : Kx (cxHot P w K mg base NOwn "_law_own_flags" (defScope sOwn) f cdv A outer s H p) := ⟨Y.bn, Y.isi, Y.all, Y.zip, Y.enum, Y.bool, gds, by have := hr.un; show (A.deeper _).units + 200 < cLine; omega⟩
  show Xss _ (List.cons _ _) _ _ _ _
  refine xss_at (ρ' := [some (.d (.int 2)), some (.d (.list (((List.range 8).filter fun _ => true).map fun (k : Nat) => bD (decide ((k : Int) = 2))))), none]) (G' := G) (xs_setLcHot 1 (ph := p) (own := [("_law_k", 2)]) 8 2 (fun _ => true) (fun k => bD (decide ((k : Int) = 2))) (fun k => [some (.d (.int 2)), none, some (.d (.int (k : Nat)))]) hot (List.mem_singleton.mpr rfl) scOwn.nd Y.bn.range (by decide) xd_int (blkOk_by (own := [("_law_k", 2)]) (N := NOwn) (sc := defScope sOwn) (by decide +kernel))
    (fun _ _ _ _ _ => pg_name (i := 2) scOwn.nd rfl (Or.inl rfl)) (List.mem_singleton.mpr rfl) (fun k => rfl) (fun k hk z G => xts_nil ⟨rfl, rfl⟩) (fun k hk ht z => ?_)) ?_
  · exact (eb_cmp (cs_eq (kx_bx kx z)) (ev_name 2) (ev_name 0)).run _ (by
      show eqO (.int (k : Nat)) (.int 2) = _
      unfold eqO
      rw [if_pos ⟨rfl, rfl⟩]
      rfl)
  · refine xss_one (xs_ret (Xd.to (x := .d (.list flagsD)) ((ev_bin bs_add (ev_name 1) (ev_lst (ea_cons (ev_eb (eb_cmp (cs_eq kx) (ev_name 0) ev_int)) (ea_cons (ev_eb (eb_chain op_lt op_lt ev_int (ev_name 0) ev_int)) (ea_cons (ev_eb (eb_chain op_lt op_lt ev_int (ev_name 0) ev_int)) (ea_cons (ev_eb (eb_cmp cs_gt (ev_name 0) ev_int)) (ea_cons ev_bool (ea_cons ev_bool ea_nil)))))))).run _ ?_) hq))
    kernel_rfl
theorem f_fld {f : Addr} {fd : FuncData} (F1 : Fun K "_law_fields" "_law_fields" sFld f fd) (hm : mg "_law_fields" = some (.ref f)) (E : Ecs K mg C) : Fh P w K mg base 1 "_law_fields" ["_law_e", "_law_number"] (zFld C) := by
  refine fh_rule F1 scFld (F1.binds fun _ _ _ _ _ _ us hl => match us, hl with | [_, _], _ => rfl) hm (fun p xs G Φ h => by obtain ⟨dd, _, rfl, _⟩ := h; rfl) fun cdv A outer s H p hot gds hr xs G Φ hz => ?_
  obtain ⟨dd, y, rfl, rfl, ie, hq⟩ := hz
  have hh : Held (cxHot P w K mg base NFld "_law_fields" (defScope sFld) f cdv A outer s H p) p.1 C dd p.2 := ⟨List.mem_singleton.mpr rfl, ie.cls, ie.dict, ie.data⟩
  show Xss _ (List.cons _ _) _ _ _ _
  refine xss_at (ρ' := [some (.a p.1), some (.d (.int 2))]) (G' := [(dd, Cell.xd [("member", .d y)])]) (xs_ifD (t := false) (xb_eqi (xd_name 1) xd_int rfl) (fun h => nomatch h) fun h => xss_nil ⟨rfl, rfl⟩) ?_
  refine xss_at (ρ' := [some (.a p.1), some (.d (.int 2))]) (G' := [(dd, Cell.xd [("member", .d y)])]) (xs_ifD (t := false) (xb_eqi (xd_name 1) xd_int rfl) (fun h => nomatch h) fun h => xss_nil ⟨rfl, rfl⟩) ?_
  refine xss_cons (M := fun _ _ => False) (xs_ifD (t := true) (xb_eqi (xd_name 1) xd_int rfl) (fun h => ?_) fun h => nomatch h) fun _ _ z => z.elim
  refine xss_one (xs_ret (R.imp (xi_tup (ds := [.str "member", y]) (xi_cons (Xd.g xd_str) (xi_cons (xi_fld hh E.um.ek E.um.no (Xd.g (xd_name 0)) List.mem_cons_self) (Xad.i xa_nil))) (by show 2 ≤ 100000; decide)) fun z G2 q => ?_))
  rw [q.1, q.2]
  exact hq
end
def flag (k : Nat) : Bool := match flagsD[k]? with
  | some (.bool b) => b
  | _ => false
theorem flag_at : ∀ k : Nat, k < 8 → atI flagsD (k : Int) = some (.bool (flag k))
  | 0, _ => rfl
  | 1, _ => rfl
  | 2, _ => rfl
  | 3, _ => rfl
  | 4, _ => rfl
  | 5, _ => rfl
  | 6, _ => rfl
  | 7, _ => rfl
  | k + 8, h => by omega
theorem flags_one : ((List.range 8).filter flag).map (fun (k : Nat) => PyData.int k) = [.int 2] := by kernel_rfl
section
variable {P : Program} {w : World} {K : PySem.W.Frag} {mg : Str → Option Value} {base : Heap} {C : Addr}
theorem f_out (E : Ecs K mg C) (Y : By mg) (flg : Fh P w K mg base 1 "_law_class_flags" ["_law_e"] (zFlg C)) (own : Fh P w K mg base 1 "_law_own_flags" ["_law_number"] zOwn) (fld : Fh P w K mg base 1 "_law_fields" ["_law_e", "_law_number"] (zFld C)) {g : Addr} {cdv : Value} {A : Around} {outer : List PySem.Env} {s : Shared} {H : Hp}
    (hr : Room 1 (A.deeper (PyProof.Rows.envOfC "_law_outcome" (defScope sOut) s.heap.objs.size g cdv))) (hg : A.guards = some []) {lam : DV} {y : PyData}
    (ask : ∀ (W : WX) (pn : List (Addr × Obj)) (xe : Value → Shared → Prop), L2N.Takes ((cxOf CX0 P w K mg base NOut "_law_outcome" (defScope sOut) g cdv A outer s H E0).nox.tr pn xe) W → ∀ (ρ1 : Fsh.Env) (G : Store) (p1 p2 : Pos), ρ1[0]? = some (some lam) →
      Yp ((cxOf CX0 P w K mg base NOut "_law_outcome" (defScope sOut) g cdv A outer s H E0).nox.tr pn xe) W (.Call (.Name "_law_ask" p1) [] [] p2) ρ1 G (fun _ _ => False) (fun cls fs ρ' G2 => ρ' = ρ1 ∧ cls = .ref C ∧ fs = ([(Str.ofString "member", DV.d y)] : List (Str × DV)) ∧ G2 = G)) :
    Xss (cxOf CX0 P w K mg base NOut "_law_outcome" (defScope sOut) g cdv A outer s H E0).nox (defBody sOut) (start0 NOut [lam]) [] (fun _ _ => False) (fun z G3 => z = .d (.tuple [.str "member", y]) ∧ G3 = []) := by
  obtain ⟨T, atS, exm⟩ := E.exm.ex
  show Xss _ (List.cons _ _) _ _ _ _
  refine xss_at (ρ' := [some lam, some (.d (.tuple [.str "other"])), none, none, none, none]) (G' := []) (xs_setD 1 (xd_tup (ds := [.str "other"]) (xad_cons xd_str xa_nil)) scOut.nd) ?_
  refine xss_at (ρ' := [some lam, some (.d (.tuple [.str "member", y])), none, some (.d (.list flagsD)), some (.d (.list [.int 2])), none]) (G' := []) (xs_try (i := 2) (c := .ref T) (Ψ := fun cls fs ρ' G2 => ρ' = [some lam, some (.d (.tuple [.str "other"])), none, none, none, none] ∧ cls = .ref C ∧ fs = ([(Str.ofString "member", DV.d y)] : List (Str × DV)) ∧ G2 = []) rfl rfl scOut.nd rfl rfl ⟨rfl, by decide, .inl atS⟩ (fun W pn xe tk => ?_) (fun cls fs ρ' G2 q => ?_)) ?_
  · refine yss_one (ys_set 1 (Φe := fun _ _ => False) (yp_tup (Φl := fun _ _ => False) (ya_cons (Φa := Is (.d (.str "result")) []) (Φr := fun _ _ _ => False) (RXE.of (Xd.g xd_str)) (fun x G1 q => ?_) (fun _ _ _ _ _ z => z.elim)) (fun _ _ z => z.elim)) (fun _ _ z => z.elim) scOut.nd)
    obtain ⟨_, rfl⟩ := q
    exact ya_cons (Φa := fun _ _ => False) (Φr := fun _ _ _ => False) (ask W pn xe tk _ [] _ _ rfl) (fun _ _ z => z.elim) (fun _ _ _ _ z => z.elim)
  · obtain ⟨rfl, rfl, rfl, rfl⟩ := q
    refine ⟨exm, fun a dd oe pn zn hd => ?_⟩
    have hot : L2H.Hot1 ((cxOf CX0 P w K mg base NOut "_law_outcome" (defScope sOut) g cdv A outer s H E0).nox.suite a ((a, oe) :: pn)).A (a, oe) := by
      obtain ⟨vs, hv⟩ := hd
      exact ⟨rfl, vs, hv, zn.2.2 vs hv⟩
    have room : L2H.RoomH 1 ((cxOf CX0 P w K mg base NOut "_law_outcome" (defScope sOut) g cdv A outer s H E0).nox.suite a ((a, oe) :: pn)).A := ⟨hr.dp, hr.un⟩
    have gds : ((cxOf CX0 P w K mg base NOut "_law_outcome" (defScope sOut) g cdv A outer s H E0).nox.suite a ((a, oe) :: pn)).A.guards = some [] := hg
    have ie : IsExc (a, oe) C dd := ⟨zn.1, zn.2.1, hd⟩
    have kx : Kx ((cxOf CX0 P w K mg base NOut "_law_outcome" (defScope sOut) g cdv A outer s H E0).nox.suite a ((a, oe) :: pn)) := ⟨Y.bn, Y.isi, Y.all, Y.zip, Y.enum, Y.bool, hg, by have := hr.un; show (A.deeper (PyProof.Rows.envOfC "_law_outcome" (defScope sOut) s.heap.objs.size g cdv)).units + 200 < cLine; omega⟩
    have hu : ((cxOf CX0 P w K mg base NOut "_law_outcome" (defScope sOut) g cdv A outer s H E0).nox.suite a ((a, oe) :: pn)).A.units + 64 < cLine := by have := kx.un; omega
    refine xss_at (ρ' := [some lam, some (.d (.tuple [.str "other"])), some (.a a), some (.d (.list flagsD)), none, none]) (G' := [(dd, Cell.xd [("member", .d y)])]) (xs_set 3 (Φe := Is (.d (.list flagsD)) [(dd, Cell.xd [("member", .d y)])]) (xh_call flg room gds hot List.mem_cons_self (Xad.i (xs := [.a a]) (xad_cons (xd_name 2) xa_nil)) fun xs G' q => ⟨[], G', rfl, dd, _, q.1, q.2, ie, rfl, q.2⟩) (fun y G2 q => ⟨by rw [q.1]; rfl, q.2⟩) scOut.nd) ?_
    refine xss_at (ρ' := [some lam, some (.d (.tuple [.str "other"])), some (.a a), some (.d (.list flagsD)), some (.d (.list (((List.range 8).filter flag).map fun (k : Nat) => PyData.int k))), none]) (G' := [(dd, Cell.xd [("member", .d y)])])
      (xs_setLcHot 4 (ph := (a, oe)) (own := [("_law_k", 5)]) 8 5 flag (fun k => .int (k : Nat)) (fun k => [some lam, some (.d (.tuple [.str "other"])), some (.a a), some (.d (.list flagsD)), none, some (.d (.int (k : Nat)))]) hot List.mem_cons_self scOut.nd Y.bn.range (by decide) xd_int (blkOk_by (own := [("_law_k", 5)]) (N := NOut) (sc := defScope sOut) (by decide +kernel))
        (fun _ _ _ _ _ => pg_name (i := 5) scOut.nd rfl (Or.inl rfl)) (List.mem_singleton.mpr rfl) (fun k => rfl) (fun k hk z G => xts_one ((xb_val (xd_ixL (xd_name 3) (xd_name 5) (flag_at k hk))) G)) (fun k hk ht z => xd_name 5)) ?_
    rw [flags_one]
    refine xss_one (xs_if (Φc := IsT true [(dd, Cell.xd [("member", .d y)])]) (xti_and (s := true) (t := true) (xti_cmp (op_eqD hu) (Xd.g (xd_lenL Y.bn (xd_name 4))) (Xd.g xd_int) (op_eqdd rfl rfl) rfl) (fun _ => xti_cmp (op_eqD hu) (Xd.g (xd_name 3)) (xh_call own room gds hot List.mem_cons_self (Xad.i (xs := [.d (.int 2)]) (xad_cons (xd_ixL (xd_name 4) xd_int rfl) xa_nil)) fun xs G' q => ⟨[], G', rfl, q.1, rfl, q.2⟩) (op_eqdd rfl rfl) rfl)) (fun G1 q => ?_) fun G1 q => nomatch q.1)
    rw [q.2]
    refine xss_one (xs_set 1 (Φe := Is (.d (.tuple [.str "member", y])) [(dd, Cell.xd [("member", .d y)])]) (xh_call fld room gds hot List.mem_cons_self (Xad.i (xs := [.a a, .d (.int 2)]) (xad_cons (xd_name 2) (xad_cons (xd_ixL (xd_name 4) xd_int rfl) xa_nil))) fun xs G' q => ⟨[], G', rfl, dd, y, q.1, q.2, ie, rfl, q.2⟩) (fun z G2 q => ⟨_, [], q.2, by rw [q.1]; rfl, rfl⟩) scOut.nd)
  · exact xss_one (xs_ret (Xd.to (xd_name 1) ⟨rfl, rfl⟩))
end
end K5M
namespace K5U
open PySem PySem.Spec L2 Fsh Rec K5
def flagsD : List PyData := [bD false, bD false, bD false, bD true, bD false, bD false, bD false, bD false, bD false, bD true, bD false, bD false, bD true, bD true]
def zFlg (C : Addr) (p : Addr × Obj) : Fsh.Spec := fun xs G Φ => ∃ dd fs, xs = [.a p.1] ∧ G = [(dd, Cell.xd fs)] ∧ IsExc p C dd ∧ Φ (.d (.list flagsD)) G
def zOwn (p : Addr × Obj) : Fsh.Spec := fun xs G Φ => xs = [.d (.int 3)] ∧ Φ (.d (.list flagsD)) G
def zFld (C : Addr) (p : Addr × Obj) : Fsh.Spec := fun xs G Φ => ∃ dd y z, xs = [.a p.1, .d (.int 3)] ∧ G = [(dd, Cell.xd [("at", .d y), ("word", .d (.str z))])] ∧ IsExc p C dd ∧ Φ (.d (.tuple [.str "use", .str z, y])) G
structure Ecs (K : PySem.W.Frag) (mg : Str → Option Value) (C : Addr) : Prop where
  nu : NUF K mg C
  c0 : ClsAt K mg "InvalidPaper" C false
  c1 : ClsAt K mg "UnknownOrder" C false
  c2 : ClsAt K mg "UnknownMember" C false
  c3 : ClsAt K mg "NotUsable" C true
  c4 : ClsAt K mg "InvalidEvent" C false
  c5 : ClsAt K mg "NothingToUndo" C false
  c6 : ClsAt K mg "InvalidText" C false
  c7 : ClsAt K mg "InvalidRow" C false
  c8 : ClsAt K mg "PaperError" C false
  c9 : ClsAt K mg "RecordError" C true
  c10 : ClsAt K mg "AuditError" C false
  c11 : ClsAt K mg "TextError" C false
  c12 : ClsAt K mg "ShownError" C true
  ve : PySem.W.kitOne K (.ref C) (.type "ValueError") = some true
  noVE : mg "ValueError" = none
  isi : mg "isinstance" = none
  exm : ExmAt K mg "ShownError" C
section
variable {P : Program} {w : World} {K : PySem.W.Frag} {mg : Str → Option Value} {base : Heap} {C : Addr}
theorem f_flg {f : Addr} {fd : FuncData} (F1 : Fun K "_law_class_flags" "_law_class_flags" sFlg f fd) (hm : mg "_law_class_flags" = some (.ref f)) (E : Ecs K mg C) : Fh P w K mg base 1 "_law_class_flags" ["_law_e"] (zFlg C) := by
  refine fh_rule F1 scFlg (F1.binds fun _ _ _ _ _ _ us hl => match us, hl with | [_], _ => rfl) hm (fun p xs G Φ h => by obtain ⟨dd, fs, rfl, _⟩ := h; rfl) fun cdv A outer s H p hot gds hr xs G Φ hz => ?_
  obtain ⟨dd, fs, rfl, rfl, ie, hq⟩ := hz
  have hh : Held (cxHot P w K mg base NFlg "_law_class_flags" (defScope sFlg) f cdv A outer s H p) p.1 C dd p.2 := ⟨List.mem_singleton.mpr rfl, ie.cls, ie.dict, ie.data⟩
  have ek := E.nu.ek
  have I : ∀ {x : Str} {b : Bool} {t2 : Option DV} {pos p1 p2 p3 : Pos}, ClsAt K mg x C b → Gl (cxHot P w K mg base NFlg "_law_class_flags" (defScope sFlg) f cdv A outer s H p) x → (x == ("__debug__" : Str)) = false →
      Xi (cxHot P w K mg base NFlg "_law_class_flags" (defScope sFlg) f cdv A outer s H p) (.Call (.Name "isinstance" p1) [.Name "_law_e" p2, .Name x p3] [] pos) [some (.a p.1), t2] [(dd, Cell.xd fs)] (.d (.bool b)) := fun c hg hd => xi_isx hh ek E.isi c (Xd.g (xd_name 0)) List.mem_cons_self rfl hg hd
  show Xss _ (List.cons _ _) _ _ _ _
  refine xss_at (ρ' := [some (.a p.1), some (.d (.list [bD false, bD false, bD false]))]) (G' := [(dd, Cell.xd fs)]) (xs_set 1 (xi_lst (ds := [bD false, bD false, bD false]) (xi_cons (I E.c0 rfl (by decide)) (xi_cons (I E.c1 rfl (by decide)) (xi_cons (I E.c2 rfl (by decide)) (Xad.i xa_nil)))) (by decide)) (fun y G2 q => ⟨by rw [q.1]; rfl, q.2⟩) scFlg.nd) ?_
  refine xss_at (ρ' := [some (.a p.1), some (.d (.list [bD false, bD false, bD false, bD true, bD false, bD false]))]) (G' := [(dd, Cell.xd fs)]) (xs_set 1 (xi_cat (xs := [bD false, bD false, bD false]) (ys := [bD true, bD false, bD false]) (Xd.g (xd_name 1)) (xi_lst (ds := [bD true, bD false, bD false]) (xi_cons (I E.c3 rfl (by decide)) (xi_cons (I E.c4 rfl (by decide)) (xi_cons (I E.c5 rfl (by decide)) (Xad.i xa_nil)))) (by decide)) (by decide)) (fun y G2 q => ⟨by rw [q.1]; rfl, q.2⟩) scFlg.nd) ?_
  refine xss_at (ρ' := [some (.a p.1), some (.d (.list [bD false, bD false, bD false, bD true, bD false, bD false, bD false, bD false]))]) (G' := [(dd, Cell.xd fs)]) (xs_set 1 (xi_cat (xs := [bD false, bD false, bD false, bD true, bD false, bD false]) (ys := [bD false, bD false]) (Xd.g (xd_name 1)) (xi_lst (ds := [bD false, bD false]) (xi_cons (I E.c6 rfl (by decide)) (xi_cons (I E.c7 rfl (by decide)) (Xad.i xa_nil))) (by decide)) (by decide)) (fun y G2 q => ⟨by rw [q.1]; rfl, q.2⟩) scFlg.nd) ?_
  refine xss_at (ρ' := [some (.a p.1), some (.d (.list [bD false, bD false, bD false, bD true, bD false, bD false, bD false, bD false, bD false, bD true, bD false]))]) (G' := [(dd, Cell.xd fs)]) (xs_set 1 (xi_cat (xs := [bD false, bD false, bD false, bD true, bD false, bD false, bD false, bD false]) (ys := [bD false, bD true, bD false]) (Xd.g (xd_name 1)) (xi_lst (ds := [bD false, bD true, bD false]) (xi_cons (I E.c8 rfl (by decide)) (xi_cons (I E.c9 rfl (by decide)) (xi_cons (I E.c10 rfl (by decide)) (Xad.i xa_nil)))) (by decide)) (by decide)) (fun y G2 q => ⟨by rw [q.1]; rfl, q.2⟩) scFlg.nd) ?_
  refine xss_one (xs_ret (R.imp (xi_cat (xs := [bD false, bD false, bD false, bD true, bD false, bD false, bD false, bD false, bD false, bD true, bD false]) (ys := [bD false, bD true, bD true]) (Xd.g (xd_name 1)) (xi_lst (ds := [bD false, bD true, bD true]) (xi_cons (I E.c11 rfl (by decide)) (xi_cons (I E.c12 rfl (by decide)) (xi_cons (xi_isxT hh ek E.isi E.noVE boot_ve E.ve (Xd.g (xd_name 0)) List.mem_cons_self) (Xad.i xa_nil)))) (by decide)) (by decide)) fun y G2 q => ?_))
  rw [q.1, q.2]
  exact hq
theorem f_own {f : Addr} {fd : FuncData} (F1 : Fun K "_law_own_flags" "_law_own_flags" sOwn f fd) (hm : mg "_law_own_flags" = some (.ref f)) (Y : By mg) : Fh P w K mg base 1 "_law_own_flags" ["_law_number"] zOwn := by
  refine fh_rule F1 scOwn (F1.binds fun _ _ _ _ _ _ us hl => match us, hl with | [_], _ => rfl) hm (fun p xs G Φ h => by obtain ⟨rfl, _⟩ := h; rfl) fun cdv A outer s H p hot gds hr xs G Φ hz => ?_
  obtain ⟨rfl, hq⟩ := hz
  have kx : Kx (cxHot P w K mg base NOwn "_law_own_flags" (defScope sOwn) f cdv A outer s H p) := ⟨Y.bn, Y.isi, Y.all, Y.zip, Y.enum, Y.bool, gds, by have := hr.un; show (A.deeper _).units + 200 < cLine; omega⟩
  show Xss _ (List.cons _ _) _ _ _ _
  refine xss_at (ρ' := [some (.d (.int 3)), some (.d (.list (((List.range 8).filter fun _ => true).map fun (k : Nat) => bD (decide ((k : Int) = 3))))), none]) (G' := G) (xs_setLcHot 1 (ph := p) (own := [("_law_k", 2)]) 8 2 (fun _ => true) (fun k => bD (decide ((k : Int) = 3))) (fun k => [some (.d (.int 3)), none, some (.d (.int (k : Nat)))]) hot (List.mem_singleton.mpr rfl) scOwn.nd Y.bn.range (by decide) xd_int (blkOk_by (own := [("_law_k", 2)]) (N := NOwn) (sc := defScope sOwn) (by decide +kernel))
    (fun _ _ _ _ _ => pg_name (i := 2) scOwn.nd rfl (Or.inl rfl)) (List.mem_singleton.mpr rfl) (fun k => rfl) (fun k hk z G => xts_nil ⟨rfl, rfl⟩) (fun k hk ht z => ?_)) ?_
  · exact (eb_cmp (cs_eq (kx_bx kx z)) (ev_name 2) (ev_name 0)).run _ (by
      show eqO (.int (k : Nat)) (.int 3) = _
      unfold eqO
      rw [if_pos ⟨rfl, rfl⟩]
      rfl)
  · refine xss_one (xs_ret (Xd.to (x := .d (.list flagsD)) ((ev_bin bs_add (ev_name 1) (ev_lst (ea_cons (ev_eb (eb_cmp (cs_eq kx) (ev_name 0) ev_int)) (ea_cons (ev_eb (eb_chain op_lt op_lt ev_int (ev_name 0) ev_int)) (ea_cons (ev_eb (eb_chain op_lt op_lt ev_int (ev_name 0) ev_int)) (ea_cons (ev_eb (eb_cmp cs_gt (ev_name 0) ev_int)) (ea_cons ev_bool (ea_cons ev_bool ea_nil)))))))).run _ ?_) hq))
    kernel_rfl
theorem f_fld {f : Addr} {fd : FuncData} (F1 : Fun K "_law_fields" "_law_fields" sFld f fd) (hm : mg "_law_fields" = some (.ref f)) (E : Ecs K mg C) : Fh P w K mg base 1 "_law_fields" ["_law_e", "_law_number"] (zFld C) := by
  refine fh_rule F1 scFld (F1.binds fun _ _ _ _ _ _ us hl => match us, hl with | [_, _], _ => rfl) hm (fun p xs G Φ h => by obtain ⟨dd, _, _, rfl, _⟩ := h; rfl) fun cdv A outer s H p hot gds hr xs G Φ hz => ?_
  obtain ⟨dd, y, z, rfl, rfl, ie, hq⟩ := hz
  have hh : Held (cxHot P w K mg base NFld "_law_fields" (defScope sFld) f cdv A outer s H p) p.1 C dd p.2 := ⟨List.mem_singleton.mpr rfl, ie.cls, ie.dict, ie.data⟩
  show Xss _ (List.cons _ _) _ _ _ _
  refine xss_at (ρ' := [some (.a p.1), some (.d (.int 3))]) (G' := [(dd, Cell.xd [("at", .d y), ("word", .d (.str z))])]) (xs_ifD (t := false) (xb_eqi (xd_name 1) xd_int rfl) (fun h => nomatch h) fun h => xss_nil ⟨rfl, rfl⟩) ?_
  refine xss_at (ρ' := [some (.a p.1), some (.d (.int 3))]) (G' := [(dd, Cell.xd [("at", .d y), ("word", .d (.str z))])]) (xs_ifD (t := false) (xb_eqi (xd_name 1) xd_int rfl) (fun h => nomatch h) fun h => xss_nil ⟨rfl, rfl⟩) ?_
  refine xss_at (ρ' := [some (.a p.1), some (.d (.int 3))]) (G' := [(dd, Cell.xd [("at", .d y), ("word", .d (.str z))])]) (xs_ifD (t := false) (xb_eqi (xd_name 1) xd_int rfl) (fun h => nomatch h) fun h => xss_nil ⟨rfl, rfl⟩) ?_
  refine xss_cons (M := fun _ _ => False) (xs_ifD (t := true) (xb_eqi (xd_name 1) xd_int rfl) (fun h => ?_) fun h => nomatch h) fun _ _ z => z.elim
  refine xss_one (xs_ret (R.imp (xi_tup (ds := [.str "use", .str z, y]) (xi_cons (Xd.g xd_str) (xi_cons (xi_fld22 hh E.nu.ek E.nu.no (by decide) (Xd.g (xd_name 0)) List.mem_cons_self) (xi_cons (xi_fld21 hh E.nu.ek E.nu.no2 (Xd.g (xd_name 0)) List.mem_cons_self) (Xad.i xa_nil)))) (by show 3 ≤ 100000; decide)) fun z G2 q => ?_))
  rw [q.1, q.2]
  exact hq
end
def flag (k : Nat) : Bool := match flagsD[k]? with
  | some (.bool b) => b
  | _ => false
theorem flag_at : ∀ k : Nat, k < 8 → atI flagsD (k : Int) = some (.bool (flag k))
  | 0, _ => rfl
  | 1, _ => rfl
  | 2, _ => rfl
  | 3, _ => rfl
  | 4, _ => rfl
  | 5, _ => rfl
  | 6, _ => rfl
  | 7, _ => rfl
  | k + 8, h => by omega
theorem flags_one : ((List.range 8).filter flag).map (fun (k : Nat) => PyData.int k) = [.int 3] := by kernel_rfl
section
variable {P : Program} {w : World} {K : PySem.W.Frag} {mg : Str → Option Value} {base : Heap} {C : Addr}
theorem f_out (E : Ecs K mg C) (Y : By mg) (flg : Fh P w K mg base 1 "_law_class_flags" ["_law_e"] (zFlg C)) (own : Fh P w K mg base 1 "_law_own_flags" ["_law_number"] zOwn) (fld : Fh P w K mg base 1 "_law_fields" ["_law_e", "_law_number"] (zFld C)) {g : Addr} {cdv : Value} {A : Around} {outer : List PySem.Env} {s : Shared} {H : Hp}
    (hr : Room 1 (A.deeper (PyProof.Rows.envOfC "_law_outcome" (defScope sOut) s.heap.objs.size g cdv))) (hg : A.guards = some []) {lam : DV} {y : PyData} {z : Str}
    (ask : ∀ (W : WX) (pn : List (Addr × Obj)) (xe : Value → Shared → Prop), L2N.Takes ((cxOf CX0 P w K mg base NOut "_law_outcome" (defScope sOut) g cdv A outer s H E0).nox.tr pn xe) W → ∀ (ρ1 : Fsh.Env) (G : Store) (p1 p2 : Pos), ρ1[0]? = some (some lam) →
      Yp ((cxOf CX0 P w K mg base NOut "_law_outcome" (defScope sOut) g cdv A outer s H E0).nox.tr pn xe) W (.Call (.Name "_law_ask" p1) [] [] p2) ρ1 G (fun _ _ => False) (fun cls fs ρ' G2 => ρ' = ρ1 ∧ cls = .ref C ∧ fs = ([(Str.ofString "at", DV.d y), (Str.ofString "word", DV.d (.str z))] : List (Str × DV)) ∧ G2 = G)) :
    Xss (cxOf CX0 P w K mg base NOut "_law_outcome" (defScope sOut) g cdv A outer s H E0).nox (defBody sOut) (start0 NOut [lam]) [] (fun _ _ => False) (fun z3 G3 => z3 = .d (.tuple [.str "use", .str z, y]) ∧ G3 = []) := by
  obtain ⟨T, atS, exm⟩ := E.exm.ex
  show Xss _ (List.cons _ _) _ _ _ _
  refine xss_at (ρ' := [some lam, some (.d (.tuple [.str "other"])), none, none, none, none]) (G' := []) (xs_setD 1 (xd_tup (ds := [.str "other"]) (xad_cons xd_str xa_nil)) scOut.nd) ?_
  refine xss_at (ρ' := [some lam, some (.d (.tuple [.str "use", .str z, y])), none, some (.d (.list flagsD)), some (.d (.list [.int 3])), none]) (G' := []) (xs_try (i := 2) (c := .ref T) (Ψ := fun cls fs ρ' G2 => ρ' = [some lam, some (.d (.tuple [.str "other"])), none, none, none, none] ∧ cls = .ref C ∧ fs = ([(Str.ofString "at", DV.d y), (Str.ofString "word", DV.d (.str z))] : List (Str × DV)) ∧ G2 = []) rfl rfl scOut.nd rfl rfl ⟨rfl, by decide, .inl atS⟩ (fun W pn xe tk => ?_) (fun cls fs ρ' G2 q => ?_)) ?_
  · refine yss_one (ys_set 1 (Φe := fun _ _ => False) (yp_tup (Φl := fun _ _ => False) (ya_cons (Φa := Is (.d (.str "result")) []) (Φr := fun _ _ _ => False) (RXE.of (Xd.g xd_str)) (fun x G1 q => ?_) (fun _ _ _ _ _ z => z.elim)) (fun _ _ z => z.elim)) (fun _ _ z => z.elim) scOut.nd)
    obtain ⟨_, rfl⟩ := q
    exact ya_cons (Φa := fun _ _ => False) (Φr := fun _ _ _ => False) (ask W pn xe tk _ [] _ _ rfl) (fun _ _ z => z.elim) (fun _ _ _ _ z => z.elim)
  · obtain ⟨rfl, rfl, rfl, rfl⟩ := q
    refine ⟨exm, fun a dd oe pn zn hd => ?_⟩
    have hot : L2H.Hot1 ((cxOf CX0 P w K mg base NOut "_law_outcome" (defScope sOut) g cdv A outer s H E0).nox.suite a ((a, oe) :: pn)).A (a, oe) := by
      obtain ⟨vs, hv⟩ := hd
      exact ⟨rfl, vs, hv, zn.2.2 vs hv⟩
    have room : L2H.RoomH 1 ((cxOf CX0 P w K mg base NOut "_law_outcome" (defScope sOut) g cdv A outer s H E0).nox.suite a ((a, oe) :: pn)).A := ⟨hr.dp, hr.un⟩
    have gds : ((cxOf CX0 P w K mg base NOut "_law_outcome" (defScope sOut) g cdv A outer s H E0).nox.suite a ((a, oe) :: pn)).A.guards = some [] := hg
    have ie : IsExc (a, oe) C dd := ⟨zn.1, zn.2.1, hd⟩
    have kx : Kx ((cxOf CX0 P w K mg base NOut "_law_outcome" (defScope sOut) g cdv A outer s H E0).nox.suite a ((a, oe) :: pn)) := ⟨Y.bn, Y.isi, Y.all, Y.zip, Y.enum, Y.bool, hg, by have := hr.un; show (A.deeper (PyProof.Rows.envOfC "_law_outcome" (defScope sOut) s.heap.objs.size g cdv)).units + 200 < cLine; omega⟩
    have hu : ((cxOf CX0 P w K mg base NOut "_law_outcome" (defScope sOut) g cdv A outer s H E0).nox.suite a ((a, oe) :: pn)).A.units + 64 < cLine := by have := kx.un; omega
    refine xss_at (ρ' := [some lam, some (.d (.tuple [.str "other"])), some (.a a), some (.d (.list flagsD)), none, none]) (G' := [(dd, Cell.xd [("at", .d y), ("word", .d (.str z))])]) (xs_set 3 (Φe := Is (.d (.list flagsD)) [(dd, Cell.xd [("at", .d y), ("word", .d (.str z))])]) (xh_call flg room gds hot List.mem_cons_self (Xad.i (xs := [.a a]) (xad_cons (xd_name 2) xa_nil)) fun xs G' q => ⟨[], G', rfl, dd, _, q.1, q.2, ie, rfl, q.2⟩) (fun y G2 q => ⟨by rw [q.1]; rfl, q.2⟩) scOut.nd) ?_
    refine xss_at (ρ' := [some lam, some (.d (.tuple [.str "other"])), some (.a a), some (.d (.list flagsD)), some (.d (.list (((List.range 8).filter flag).map fun (k : Nat) => PyData.int k))), none]) (G' := [(dd, Cell.xd [("at", .d y), ("word", .d (.str z))])])
      (xs_setLcHot 4 (ph := (a, oe)) (own := [("_law_k", 5)]) 8 5 flag (fun k => .int (k : Nat)) (fun k => [some lam, some (.d (.tuple [.str "other"])), some (.a a), some (.d (.list flagsD)), none, some (.d (.int (k : Nat)))]) hot List.mem_cons_self scOut.nd Y.bn.range (by decide) xd_int (blkOk_by (own := [("_law_k", 5)]) (N := NOut) (sc := defScope sOut) (by decide +kernel))
        (fun _ _ _ _ _ => pg_name (i := 5) scOut.nd rfl (Or.inl rfl)) (List.mem_singleton.mpr rfl) (fun k => rfl) (fun k hk z G => xts_one ((xb_val (xd_ixL (xd_name 3) (xd_name 5) (flag_at k hk))) G)) (fun k hk ht z => xd_name 5)) ?_
    rw [flags_one]
    refine xss_one (xs_if (Φc := IsT true [(dd, Cell.xd [("at", .d y), ("word", .d (.str z))])]) (xti_and (s := true) (t := true) (xti_cmp (op_eqD hu) (Xd.g (xd_lenL Y.bn (xd_name 4))) (Xd.g xd_int) (op_eqdd rfl rfl) rfl) (fun _ => xti_cmp (op_eqD hu) (Xd.g (xd_name 3)) (xh_call own room gds hot List.mem_cons_self (Xad.i (xs := [.d (.int 3)]) (xad_cons (xd_ixL (xd_name 4) xd_int rfl) xa_nil)) fun xs G' q => ⟨[], G', rfl, q.1, rfl, q.2⟩) (op_eqdd rfl rfl) rfl)) (fun G1 q => ?_) fun G1 q => nomatch q.1)
    rw [q.2]
    refine xss_one (xs_set 1 (Φe := Is (.d (.tuple [.str "use", .str z, y])) [(dd, Cell.xd [("at", .d y), ("word", .d (.str z))])]) (xh_call fld room gds hot List.mem_cons_self (Xad.i (xs := [.a a, .d (.int 3)]) (xad_cons (xd_name 2) (xad_cons (xd_ixL (xd_name 4) xd_int rfl) xa_nil))) fun xs G' q => ⟨[], G', rfl, dd, y, z, q.1, q.2, ie, rfl, q.2⟩) (fun z2 G2 q => ⟨_, [], q.2, by rw [q.1]; rfl, rfl⟩) scOut.nd)
  · exact xss_one (xs_ret (Xd.to (xd_name 1) ⟨rfl, rfl⟩))
end
end K5U

set_option Elab.async false
set_option linter.all false
set_option maxRecDepth 100000
set_option maxHeartbeats 8000000
namespace K5
open PySem PySem.Spec L2 Fsh Rec
abbrev s_srow : Stmt := topG 46
abbrev N_srow : List Str := ["_law_rows", "_law_t", "_law_some", "_law_row", "_law_fills_here", "_law_price", "_law_size", "_law_n", "_law_pair"]
theorem sc_srow : FnScope N_srow ["_law_rows", "_law_t", "_law_some"] (defScope s_srow) := ⟨rfl, rfl, rfl, by decide +kernel, rfl, by decide +kernel, by decide +kernel⟩
noncomputable def d_srow_tail (v_rows v_t v_some v_row v_fills : PyData) : Option PyData :=
  (ifO (bin2 eqO (bin2 ixO (some v_row) (some (PyData.int 0))) (some (PyData.str "order"))) (ifO (bin2 inDO (bin2 ixO (some v_row) (some (PyData.int 1))) (some v_some)) (bin2 addD ((some v_row).bind fun x => (some none).bind fun l => ((some (PyData.int 5)).bind intO).bind fun h => slO x l h) (tupO (consO ((some v_fills).bind tupleO) (some [])))) (tupO (consO (some (PyData.str "prints")) (consO ((some v_fills).bind tupleO) (some [])))))
  (ifO (bin2 eqO (bin2 ixO (some v_row) (some (PyData.int 0))) (some (PyData.str "prints"))) (tupO (consO (some (PyData.str "prints")) (consO ((some v_fills).bind tupleO) (some []))))
  (ifO (bin2 eqO (bin2 ixO (some v_row) (some (PyData.int 0))) (some (PyData.str "cancel"))) (ifO (bin2 inDO (bin2 ixO (bin2 ixO (some v_rows) (bin2 ixO (some v_row) (some (PyData.int 1)))) (some (PyData.int 1))) (some v_some)) (some v_row) (some (PyData.tuple [.str "prints", .tuple []])))
  (ifO (bin2 eqO (bin2 ixO (some v_row) (some (PyData.int 0))) (some (PyData.str "call"))) (tupO (consO (some (PyData.str "call")) (consO (bin2 ixO (some v_row) (some (PyData.int 1))) (consO (((((bin2 ixO (some v_row) (some (PyData.int 2))).bind seqO).bind fun xs => if xs.length ≤ 100000 then lcO (fun x1 => (bin2 inDO (bin2 ixO (bin2 ixO (some v_rows) (bin2 ixO (some x1) (some (PyData.int 0)))) (some (PyData.int 1))) (some v_some))) (fun x1 => (some x1)) xs else none).map PyData.list).bind tupleO) (some [])))))
  (some v_row)))))
theorem es_srow_tail {P : Program} {w : World} {K : PySem.W.Frag} {mg : Str → Option Value} {base : Heap} {f : Addr} {cdv : Value} {A : Around} {outer : List PySem.Env} {s : Shared} {H : Hp} (kx : Kx (cxOf CX0 P w K mg base N_srow "_law_seen_row" (defScope s_srow) f cdv A outer s H E0).nox) (v_rows v_t v_some v_row v_fills : PyData) :
    ES (cxOf CX0 P w K mg base N_srow "_law_seen_row" (defScope s_srow) f cdv A outer s H E0).nox ((defBody s_srow).drop 3) [some (.d v_rows), some (.d v_t), some (.d v_some), some (.d v_row), some (.d v_fills), none, none, none, none] (d_srow_tail v_rows v_t v_some v_row v_fills) := by
  unfold d_srow_tail
  exact (es_if (et_cmp (cs_eq kx) (ev_ix (ev_name 3) ev_int) ev_str) (es_ret (ev_if (et_cmp (cs_inD kx) (ev_ix (ev_name 3) ev_int) (ev_name 2)) (ev_bin bs_add (ev_slice (ev_name 3) eo_none (eo_some ev_int)) (ev_tup (ea_cons (ev_tuple kx (ev_name 4)) ea_nil))) (ev_tup (ea_cons ev_str (ea_cons (ev_tuple kx (ev_name 4)) ea_nil)))))
    (es_if (et_cmp (cs_eq kx) (ev_ix (ev_name 3) ev_int) ev_str) (es_ret (ev_tup (ea_cons ev_str (ea_cons (ev_tuple kx (ev_name 4)) ea_nil))))
    (es_if (et_cmp (cs_eq kx) (ev_ix (ev_name 3) ev_int) ev_str) (es_ret (ev_if (et_cmp (cs_inD kx) (ev_ix (ev_ix (ev_name 0) (ev_ix (ev_name 3) ev_int)) ev_int) (ev_name 2)) (ev_name 3) (ev_cstK 60 (by kernel_rfl))))
    (es_if (et_cmp (cs_eq kx) (ev_ix (ev_name 3) ev_int) ev_str) (es_ret (ev_tup (ea_cons ev_str (ea_cons (ev_ix (ev_name 3) ev_int) (ea_cons (ev_tuple kx (ev_lc (lc_of (own := [("_law_pair", 8)]) (js := [8]) (ρ' := fun x1 => [some (.d v_rows), some (.d v_t), some (.d v_some), some (.d v_row), some (.d v_fills), none, none, none, some (.d x1)]) sc_srow.nd (it_seq (ev_ix (ev_name 3) ev_int)) (blkOk_by (own := [("_law_pair", 8)]) (N := N_srow) (sc := defScope s_srow) (by decide +kernel)) (fun _ _ _ _ _ => pg_name (i := 8) sc_srow.nd rfl (Or.inl rfl)) (by decide) (fun _ _ _ => rg_name) (fun x1 z1 => (ets_one (et_cmp (cs_inD (kx_bx kx z1)) (ev_ix (ev_ix (ev_name 0) (ev_ix (ev_name 8) ev_int)) ev_int) (ev_name 2)))) (fun x1 z1 => (ev_name 8))))) ea_nil)))))
    (es_ret (ev_name 3))))))
def d_srow_fil (v_rows v_t v_some v_row v_p v_z v_n : PyData) : Option PyData :=
  (tupO (consO (some v_p) (consO (some v_z) (consO (ifO (andO (bin2 nisO (some v_n) (some PyData.none)) (bin2 inDO (bin2 ixO (bin2 ixO (some v_rows) (some v_n)) (some (PyData.int 1))) (some v_some))) (some v_n) (some PyData.none)) (some [])))))
theorem ev_srow_fil {P : Program} {w : World} {K : PySem.W.Frag} {mg : Str → Option Value} {base : Heap} {f : Addr} {cdv : Value} {A : Around} {outer : List PySem.Env} {s : Shared} {H : Hp} (kx : Kx (cxOf CX0 P w K mg base N_srow "_law_seen_row" (defScope s_srow) f cdv A outer s H E0).nox) (v_rows v_t v_some v_row v_p v_z v_n : PyData) {t4 : Option DV} {q1 q2 q3 q4 q5 q6 q7 q8 q9 q10 q11 q12 q13 q14 q15 q16 q17 : Pos} {k1 j1 j2 j3 : Nat} :
    EV (cxOf CX0 P w K mg base N_srow "_law_seen_row" (defScope s_srow) f cdv A outer s H E0).nox (.Tuple [.Name "_law_price" q1, .Name "_law_size" q2, .IfExp (.BoolOp .And [.Compare (.Name "_law_n" q3) [.IsNot] [.Constant .none j2 q4] q5, .Compare (.Subscript (.Subscript (.Name "_law_rows" q6) (.Name "_law_n" q7) q8) (.Constant (.int 1) j1 q9) q10) [.In] [.Name "_law_some" q11] q12] q13) (.Name "_law_n" q14) (.Constant .none j3 q15) q16] k1 q17) [some (.d v_rows), some (.d v_t), some (.d v_some), some (.d v_row), t4, some (.d v_p), some (.d v_z), some (.d v_n), none] (d_srow_fil v_rows v_t v_some v_row v_p v_z v_n) := by
  unfold d_srow_fil
  exact (ev_tup (ea_cons (ev_name 5) (ea_cons (ev_name 6) (ea_cons (ev_if (et_w (ew_and (et_cmp cs_nis (ev_name 7) ev_none) (ew_one (et_cmp (cs_inD kx) (ev_ix (ev_ix (ev_name 0) (ev_name 7)) ev_int) (ev_name 2))))) (ev_name 7) ev_none) ea_nil))))
end K5

set_option Elab.async false
set_option linter.all false
set_option maxRecDepth 100000
set_option maxHeartbeats 8000000
namespace K5
open PySem PySem.Spec L2 Fsh Rec
theorem tag_pr (r : RowM) : bin2 eqO (bin2 ixO (some (rowD r)) (some (.int 0))) (some (.str "prints")) = some (match r with | .prints _ => true | _ => false) := by
  cases r with
  | order m s p z fs => show eqO (.str "order") (.str "prints") = some false; decide +kernel
  | cancel n => show eqO (.str "cancel") (.str "prints") = some false; decide +kernel
  | prints fs => show eqO (.str "prints") (.str "prints") = some true; decide +kernel
  | closed => show eqO (.str "closed") (.str "prints") = some false; decide +kernel
  | call p ps => show eqO (.str "call") (.str "prints") = some false; decide +kernel
theorem ordAt_take {rows : List RowM} {t : Nat} {n : Int} (h : ordAt (rows.take t) n) : ordAt rows n := by
  obtain ⟨k, m, s, p, z, fs, e, h⟩ := h
  rw [List.getElem?_take] at h
  split at h
  · exact ⟨k, m, s, p, z, fs, e, h⟩
  · cases h
theorem own_in {rows : List RowM} {G : List Str} {k : Nat} (hk : k < rows.length) (ho : Rec.isOrd (rowAt rows k) = true) : inI (ownM rows G) k = decide (membOf (rowAt rows k) ∈ G) := by
  rw [Bool.eq_iff_iff, decide_eq_true_iff]
  constructor
  · intro h
    obtain ⟨j, hj, e⟩ := List.any_eq_true.mp h
    have e : (j : Int) = k := of_decide_eq_true e
    have e : j = k := by omega
    subst e
    exact of_decide_eq_true (List.mem_filter.mp hj).2
  · intro h
    refine List.any_eq_true.mpr ⟨k, List.mem_filter.mpr ⟨?_, decide_eq_true h⟩, decide_eq_true rfl⟩
    rw [← orders_is]
    exact List.mem_filter.mpr ⟨List.mem_range.mpr hk, ho⟩
/-- rows[n][1] in some, n an order -/
theorem memb_in {rows : List RowM} (hok : okRs rows) {G : List Str} (hG : ∀ x ∈ G, okS 8 x) {n : Int} (h : ordAt rows n) : bin2 inDO (bin2 ixO (bin2 ixO (some (PyData.list (rows.map rowD))) (some (.int n))) (some (.int 1))) (some (.list (G.map PyData.str))) = some (inI (ownM rows G) n) := by
  obtain ⟨k, m, s, p, z, fs, rfl, h⟩ := h
  have hk := (List.getElem?_eq_some_iff.mp h).1
  have hr : rowAt rows k = .order m s p z fs := by
    rw [rowAt_at hk] at h
    exact Option.some.inj h
  have e : bin2 ixO (some (PyData.list (rows.map rowD))) (some (.int (k : Int))) = some (rowD (rowAt rows k)) := atI_nat (by rw [List.getElem?_map, rowAt_at hk]; rfl)
  rw [e, own_in hk (by rw [hr]; rfl), hr]
  exact mem_str hG (hok.2 _ (List.mem_of_getElem? h)).1
theorem d_fil_is {rows : List RowM} (hok : okRs rows) {G : List Str} (hG : ∀ x ∈ G, okS 8 x) {f : Fil} (hf : goodF rows f) (t r : PyData) : d_srow_fil (.list (rows.map rowD)) t (.list (G.map PyData.str)) r (.int f.1) (.int f.2.1) (optD f.2.2) = some (filD (seenF (ownM rows G) f)) := by
  obtain ⟨a, b, o⟩ := f
  unfold d_srow_fil
  cases o with
  | none => rfl
  | some n =>
    have h := memb_in hok hG (hf.2 n rfl)
    show tupO (consO (some (.int a)) (consO (some (.int b)) (consO (ifO (andO (some true) (bin2 inDO (bin2 ixO (bin2 ixO (some (PyData.list (rows.map rowD))) (some (.int n))) (some (.int 1))) (some (.list (G.map PyData.str))))) (some (.int n)) (some .none)) (some [])))) = _
    rw [h]
    show _ = some (PyData.tuple [.int a, .int b, optD (if inI (ownM rows G) n = true then some n else none)])
    cases inI (ownM rows G) n <;> rfl
theorem good_at {rows : List RowM} (h : validR rows) {t : Nat} (ht : t < rows.length) : goodR (rows.take t) (rowAt rows t) := h t _ (rowAt_at ht)
theorem fils_good {rows : List RowM} (h : validR rows) {t : Nat} (ht : t < rows.length) : ∀ f ∈ filsOf (rowAt rows t), goodF rows f := by
  have g := good_at h ht
  have up : ∀ f : Fil, goodF (rows.take t) f → goodF rows f := fun f hf => ⟨hf.1, fun n e => ordAt_take (hf.2 n e)⟩
  cases e : rowAt rows t <;> rw [e] at g <;> intro f hf
  · exact up f (g.2.2 f hf)
  · cases hf
  · exact up f (g f hf)
  · cases hf
  · cases hf
theorem d_srow_tail_is {rows : List RowM} (hok : okRs rows) (hv : validR rows) {G : List Str} (hG : ∀ x ∈ G, okS 8 x) {t : Nat} (ht : t < rows.length) : d_srow_tail (.list (rows.map rowD)) (.int t) (.list (G.map PyData.str)) (rowD (rowAt rows t)) (.list (((filsOf (rowAt rows t)).map (seenF (ownM rows G))).map filD)) = some (rowD (seenRow (ownM rows G) t (rowAt rows t))) := by
  have g := good_at hv ht
  have okr := hok.2 _ (List.mem_of_getElem? (rowAt_at ht))
  have oin : Rec.isOrd (rowAt rows t) = true → _ := own_in (G := G) ht
  unfold d_srow_tail
  rw [tag_ord, tag_pr, tag_ca, tag_cl]
  cases e : rowAt rows t with
  | order m s p z fs =>
    rw [e] at okr oin
    have oin := oin rfl
    show (ifO (memO (.str m) (G.map PyData.str)) (bin2 addD (some (.tuple [.str "order", .str m, .str s, .int p, .int z])) (tupO (consO (some (.tuple ((fs.map (seenF (ownM rows G))).map filD))) (some [])))) (tupO (consO (some (.str "prints")) (consO (some (.tuple ((fs.map (seenF (ownM rows G))).map filD))) (some []))))) = some (rowD (if inI (ownM rows G) t = true then .order m s p z (fs.map (seenF (ownM rows G))) else .prints (fs.map (seenF (ownM rows G)))))
    rw [mem_str hG okr.1, oin]
    show ifO (some (decide (m ∈ G))) _ _ = some (rowD (if decide (m ∈ G) = true then _ else _))
    cases decide (m ∈ G) <;> rfl
  | cancel n =>
    rw [e] at g
    have h := memb_in hok hG (ordAt_take g)
    show ifO (bin2 inDO (bin2 ixO (bin2 ixO (some (PyData.list (rows.map rowD))) (some (.int n))) (some (.int 1))) (some (.list (G.map PyData.str)))) (some (rowD (.cancel n))) (some (.tuple [.str "prints", .tuple []])) = some (rowD (if inI (ownM rows G) n = true then .cancel n else .prints []))
    rw [h]
    cases inI (ownM rows G) n <;> rfl
  | prints fs => rfl
  | closed => rfl
  | call p ps =>
    rw [e] at g okr
    have h2 := okr.2.1
    show tupO (consO (some (PyData.str "call")) (consO (some (optD p)) (consO ((Option.map PyData.list (if (ps.map pairD).length ≤ 100000 then lcO _ _ (ps.map pairD) else none)).bind tupleO) (some [])))) = some (rowD (.call p (ps.filter fun q => inI (ownM rows G) q.1)))
    rw [if_pos (by rw [List.length_map]; omega), lcO_map pairD pairD (fun q => inI (ownM rows G) q.1) ps (fun q hq => ?_) fun q _ _ => rfl]
    · rfl
    · exact memb_in hok hG (ordAt_take (g q hq).2)
end K5

set_option Elab.async false
set_option linter.all false
set_option maxRecDepth 100000
set_option maxHeartbeats 8000000
namespace K5
open PySem PySem.Spec L2 Fsh Rec
def zSR : Fsh.Spec := fun xs G Φ => ∃ (rows : List RowM) (t : Nat) (Gs : List Str), xs = [rowsV rows, intV t, .d (.list (Gs.map PyData.str))] ∧ okRs rows ∧ validR rows ∧ t < rows.length ∧ (∀ x ∈ Gs, okS 8 x) ∧ Φ (.d (rowD (seenRow (ownM rows Gs) t (rowAt rows t)))) G
def srO (rows : List RowM) (Gs : List Str) : PyData → Option PyData
  | .int n => if 0 ≤ n ∧ n.toNat < rows.length then some (rowD (seenRow (ownM rows Gs) n.toNat (rowAt rows n.toNat))) else none
  | _ => none
section
variable {X : Cx} {e e2 e3 : Expr} {ρ : Fsh.Env} {pos p : Pos}
theorem ev_srow {rows : List RowM} {Gs : List Str} {d : PyData} (kx : Kx X) (Fx : Fg X.prog X.w X.K X.mg X.base 2 "_law_seen_row" ["_law_rows", "_law_t", "_law_some"] zSR) (hr : Room 2 X.A) (hok : okRs rows) (hv : validR rows) (hG : ∀ x ∈ Gs, okS 8 x) (ha : Xd X e ρ (.d (.list (rows.map rowD)))) (hb : EV X e2 ρ (some d)) (hc : Xd X e3 ρ (.d (.list (Gs.map PyData.str)))) (hg : Gl X "_law_seen_row" := by rfl)
    (hst : starEach [e, e2, e3] X.env = (false, eval e X.env) :: starEach [e2, e3] X.env := by rfl) (hst2 : starEach [e2, e3] X.env = (false, eval e2 X.env) :: starEach [e3] X.env := by rfl) (hst3 : starEach [e3] X.env = (false, eval e3 X.env) :: starEach [] X.env := by rfl) (hpl : (backTo pos (starEach [e2, e3] X.env)).any (·.1) = false := by rfl) : EV X (.Call (.Name "_law_seen_row" p) [e, e2, e3] [] pos) ρ (srO rows Gs d) := ⟨fun y hy G => by
  cases d <;> first | cases hy | skip
  rename_i n
  obtain ⟨⟨h0, h1⟩, e0⟩ := ite_some (show (if 0 ≤ n ∧ n.toNat < rows.length then some (rowD (seenRow (ownM rows Gs) n.toNat (rowAt rows n.toNat))) else none) = some y from hy)
  refine xg_call Fx hr kx.gd (xad_cons ha (xad_cons (hb.run _ rfl) (xad_cons hc xa_nil hst3) hst2) hst G) (fun xs G' q => ⟨[], G', rfl, rows, n.toNat, Gs, ?_, hok, hv, h1, hG, e0 ▸ ⟨rfl, q.2⟩⟩) hg (by decide) hst hpl
  rw [q.1, Int.toNat_of_nonneg h0]⟩
end
abbrev s_Lmembers : Stmt := topG 48
abbrev N_Lmembers : List Str := ["_law_good", "_law_row"]
theorem sc_Lmembers : FnScope N_Lmembers ["_law_good"] (defScope s_Lmembers) := ⟨rfl, rfl, rfl, by decide +kernel, rfl, by decide +kernel, by decide +kernel⟩
noncomputable def d_Lmembers (v_Lgood : PyData) : Option PyData :=
  (((((bin2 ixO (some v_Lgood) (some (PyData.int 1))).bind seqO).bind fun xs => if xs.length ≤ 100000 then lcO (fun x1 => (bin2 eqO (bin2 ixO (some x1) (some (PyData.int 0))) (some (PyData.str "order")))) (fun x1 => (bin2 ixO (some x1) (some (PyData.int 1)))) xs else none).map PyData.list).bind sortSetO)
theorem f_Lmembers {P : Program} {w : World} {K : PySem.W.Frag} {mg : Str → Option Value} {base : Heap} {f : Addr} {fd : FuncData} (F1 : Fun K "_law_members" "_law_members" s_Lmembers f fd) (hm : mg "_law_members" = some (.ref f)) (Y : By mg)  (hso : mg "sorted" = none) (hse : mg "set" = none) : Fg P w K mg base 1 "_law_members" ["_law_good"] (z1 d_Lmembers) := by
  refine fg_rule F1 sc_Lmembers (F1.binds fun _ _ _ _ _ _ us hl => match us, hl with | [_], _ => rfl) hm (fun xs G Φ h => by obtain ⟨_, y, rfl, _⟩ := h; rfl) fun cdv A outer s H E hr hg xs G Φ hz => ?_
  obtain ⟨v_Lgood, y, rfl, hf, hq⟩ := hz
  have kx : Kx (cxOf CX0 P w K mg base N_Lmembers "_law_members" (defScope s_Lmembers) f cdv A outer s H E).nox := kx_of Y hg hr
  have es : ES (cxOf CX0 P w K mg base N_Lmembers "_law_members" (defScope s_Lmembers) f cdv A outer s H E).nox (defBody s_Lmembers) [some (.d v_Lgood), none] (d_Lmembers v_Lgood) := by
    unfold d_Lmembers
    exact (es_ret (ev_sortSet hso hse (ev_lc (lc_of (own := [("_law_row", 1)]) (js := [1]) (ρ' := fun x1 => [some (.d v_Lgood), some (.d x1)]) sc_Lmembers.nd (it_seq (ev_ix (ev_name 0) ev_int)) (blkOk_by (own := [("_law_row", 1)]) (N := N_Lmembers) (sc := defScope s_Lmembers) (by decide +kernel)) (fun _ _ _ _ _ => pg_name (i := 1) sc_Lmembers.nd rfl (Or.inl rfl)) (by decide) (fun _ _ _ => rg_name) (fun x1 z1 => (ets_one (et_cmp (cs_eq (kx_bx kx z1)) (ev_ix (ev_name 1) ev_int) ev_str))) (fun x1 z1 => (ev_ix (ev_name 1) ev_int))))))
  exact es.run y hf G _ Φ hq
abbrev s_Lgroups : Stmt := topG 49
abbrev N_Lgroups : List Str := ["_law_some", "_law_found", "_law_name", "_law_group"]
theorem sc_Lgroups : FnScope N_Lgroups ["_law_some"] (defScope s_Lgroups) := ⟨rfl, rfl, rfl, by decide +kernel, rfl, by decide +kernel, by decide +kernel⟩
noncomputable def d_Lgroups (v_Lsome : PyData) : Option PyData :=
  ((some (PyData.list [.list []])).bind fun v_Lfound1 =>
  (((some v_Lsome).bind seqO).bind fun xs => if xs.length ≤ 100000 then (foldO (fun v_Lfound2 x2 => ((bin2 addD (some v_Lfound2) ((((some v_Lfound2).bind seqO).bind fun xs => if xs.length ≤ 100000 then lcO (fun x4 => (some true)) (fun x4 => (bin2 addD (some x4) (lstO (consO (some x2) (some []))))) xs else none).map PyData.list)).bind fun v_Lfound3 => (some v_Lfound3))) v_Lfound1 xs).bind (fun v_Lfound5 =>
  (some v_Lfound5)) else none))
theorem f_Lgroups {P : Program} {w : World} {K : PySem.W.Frag} {mg : Str → Option Value} {base : Heap} {f : Addr} {fd : FuncData} (F1 : Fun K "_law_groups" "_law_groups" s_Lgroups f fd) (hm : mg "_law_groups" = some (.ref f)) (Y : By mg)  : Fg P w K mg base 1 "_law_groups" ["_law_some"] (z1 d_Lgroups) := by
  refine fg_rule F1 sc_Lgroups (F1.binds fun _ _ _ _ _ _ us hl => match us, hl with | [_], _ => rfl) hm (fun xs G Φ h => by obtain ⟨_, y, rfl, _⟩ := h; rfl) fun cdv A outer s H E hr hg xs G Φ hz => ?_
  obtain ⟨v_Lsome, y, rfl, hf, hq⟩ := hz
  have kx : Kx (cxOf CX0 P w K mg base N_Lgroups "_law_groups" (defScope s_Lgroups) f cdv A outer s H E).nox := kx_of Y hg hr
  have es : ES (cxOf CX0 P w K mg base N_Lgroups "_law_groups" (defScope s_Lgroups) f cdv A outer s H E).nox (defBody s_Lgroups) [some (.d v_Lsome), none, none, none] (d_Lgroups v_Lsome) := by
    unfold d_Lgroups
    exact (es_asg 1 (ev_cstK 60 (by kernel_rfl)) (fun v_Lfound1 =>
    (es_fold 1 2 PassesOwn.never (by decide) (it_seq (ev_name 0)) (pg_name (i := 2) sc_Lgroups.nd rfl (Or.inr rfl)) rfl (fun v_Lfound2 x2 => (sn_asg 1 (ev_bin bs_add (ev_name 1) (ev_lc (lc_of (own := [("_law_group", 3)]) (js := [3]) (ρ' := fun x4 => [some (.d v_Lsome), some (.d v_Lfound2), some (.d x2), some (.d x4)]) sc_Lgroups.nd (it_seq (ev_name 1)) (blkOk_by (own := [("_law_group", 3)]) (N := N_Lgroups) (sc := defScope s_Lgroups) (by decide +kernel)) (fun _ _ _ _ _ => pg_name (i := 3) sc_Lgroups.nd rfl (Or.inl rfl)) (by decide) (fun _ _ _ => rg_name) (fun x4 z4 => ets_nil) (fun x4 z4 => (ev_bin bs_add (ev_name 3) (ev_lst (ea_cons (ev_name 2) ea_nil))))))) (fun v_Lfound3 =>
    sn_nil) sc_Lgroups.nd)) (fun v_Lfound5 =>
    (es_ret (ev_name 1))))) sc_Lgroups.nd)
  exact es.run y hf G _ Φ hq
abbrev s_lseen : Stmt := topG 47
abbrev N_lseen : List Str := ["_law_good", "_law_some", "_law_rows", "_law_t"]
theorem sc_lseen : FnScope N_lseen ["_law_good", "_law_some"] (defScope s_lseen) := ⟨rfl, rfl, rfl, by decide +kernel, rfl, by decide +kernel, by decide +kernel⟩
noncomputable def d_lseen_tail (c : Str × List RowM) (Gs : List Str) : Option PyData :=
  (tupO (consO (bin2 ixO (some (recP c)) (some (PyData.int 0))) (consO ((((((some (.list (c.2.map rowD))).bind lenO).bind rng1O).bind fun xs => if xs.length ≤ 100000 then lcO (fun x1 => (some true)) (fun x1 => (srO c.2 Gs x1)) xs else none).map PyData.list).bind tupleO) (some []))))
theorem es_lseen_tail {P : Program} {w : World} {K : PySem.W.Frag} {mg : Str → Option Value} {base : Heap} {f : Addr} {cdv : Value} {A : Around} {outer : List PySem.Env} {s : Shared} {H : Hp} (kx : Kx (cxOf CX0 P w K mg base N_lseen "_law_seen" (defScope s_lseen) f cdv A outer s H E0).nox) (hsr : Fg P w K mg base 2 "_law_seen_row" ["_law_rows", "_law_t", "_law_some"] zSR) (hr : Room 2 (A.deeper (PyProof.Rows.envOfC "_law_seen" (defScope s_lseen) s.heap.objs.size f cdv))) {c : Str × List RowM} {Gs : List Str} (hok : okRs c.2) (hv : validR c.2) (hG : ∀ x ∈ Gs, okS 8 x) :
    ES (cxOf CX0 P w K mg base N_lseen "_law_seen" (defScope s_lseen) f cdv A outer s H E0).nox ((defBody s_lseen).drop 1) [some (.d (recP c)), some (.d (.list (Gs.map PyData.str))), some (.d (.list (c.2.map rowD))), none] (d_lseen_tail c Gs) := by
  unfold d_lseen_tail
  exact (es_ret (ev_tup (ea_cons (ev_ix (ev_name 0) ev_int) (ea_cons (ev_tuple kx (ev_lc (lc_of (own := [("_law_t", 3)]) (js := [3]) (ρ' := fun x1 => [some (.d (recP c)), some (.d (.list (Gs.map PyData.str))), some (.d (.list (c.2.map rowD))), some (.d x1)]) sc_lseen.nd (it_rng1 (Bn.range (Kx.bn kx)) (ev_len kx (ev_name 2))) (blkOk_by (own := [("_law_t", 3)]) (N := N_lseen) (sc := defScope s_lseen) (by decide +kernel)) (fun _ _ _ _ _ => pg_name (i := 3) sc_lseen.nd rfl (Or.inl rfl)) (by decide) (fun _ _ _ => rg_name) (fun x1 z1 => ets_nil) (fun x1 z1 => (ev_srow (kx_bx kx z1) hsr (hr.mono (by decide)) hok hv hG (xd_name 2) (ev_name 3) (xd_name 1)))))) ea_nil))))
end K5

set_option Elab.async false
set_option linter.all false
set_option maxRecDepth 100000
set_option maxHeartbeats 8000000
namespace K5
open PySem PySem.Spec L2 Fsh Rec
def zLS : Fsh.Spec := fun xs G Φ => ∃ (c : Str × List RowM) (Gs : List Str), xs = [.d (recP c), .d (.list (Gs.map PyData.str))] ∧ okP' c ∧ validR c.2 ∧ (∀ x ∈ Gs, okS 8 x) ∧ Φ (.d (recP (seenM c Gs))) G
section
variable {P : Program} {w : World} {K : PySem.W.Frag} {mg : Str → Option Value} {base : Heap}
abbrev eSR (rows : List RowM) (t : Nat) (Gs : List Str) (t3 t4 t5 t6 t7 : Option DV) : Fsh.Env := [some (rowsV rows), some (intV t), some (.d (.list (Gs.map PyData.str))), t3, t4, t5, t6, t7, none]
theorem f_srow {f : Addr} {fd : FuncData} (F1 : Fun K "_law_seen_row" "_law_seen_row" s_srow f fd) (hm : mg "_law_seen_row" = some (.ref f)) (Y : By mg) (fils : Fn P w K mg base 1 "_law_fills" ["_law_row"] zFils) : Fg P w K mg base 2 "_law_seen_row" ["_law_rows", "_law_t", "_law_some"] zSR := by
  refine fg_rule F1 sc_srow (F1.binds fun _ _ _ _ _ _ us hl => match us, hl with | [_, _, _], _ => rfl) hm (fun xs G Φ h => by obtain ⟨_, _, _, rfl, _⟩ := h; rfl) fun cdv A outer s H E hr hg xs G0 Φ hz => ?_
  obtain ⟨rows, t, Gs, rfl, hok, hv, ht, hG, hq⟩ := hz
  have kx : Kx (cxOf CX0 P w K mg base N_srow "_law_seen_row" (defScope s_srow) f cdv A outer s H E0).nox := kx_of Y hg hr
  have okr := hok.2 _ (List.mem_of_getElem? (rowAt_at ht))
  have f30 := (filsOf_ok okr).1
  have hgd := fils_good hv ht
  show Xss _ (List.cons _ _) _ _ _ _
  refine xss_at (ρ' := eSR rows t Gs (some (.d (rowD (rowAt rows t)))) none none none none) (G' := G0) (xs_setD 3 (y := .d (rowD (rowAt rows t))) (xd_ixL (xd_name 0) (xd_name 1) (at_map rowD (rowAt_at ht))) sc_srow.nd) ?_
  refine xss_cons (M := fun ρ' G' => ∃ l, ρ' = eSR rows t Gs (some (.d (rowD (rowAt rows t)))) (some (.a l)) none none none ∧ G' = (l, .lst []) :: G0) (xs_set 4 (Xl.g (xl_lst (ds := []) xa_nil)) (fun y G2 q => by obtain ⟨l, rfl, rfl⟩ := q; exact ⟨l, rfl, rfl⟩) sc_srow.nd) fun ρ' G' q => ?_
  obtain ⟨l, rfl, rfl⟩ := q
  refine xss_cons (M := fun ρ' G' => ∃ a5 a6 a7, ρ' = eSR rows t Gs (some (.d (rowD (rowAt rows t)))) (some (.a l)) a5 a6 a7 ∧ G' = (l, .lst (((filsOf (rowAt rows t)).map (seenF (ownM rows Gs))).map filD)) :: G0) (xs_forT (js := [5] ++ ([6] ++ ([7] ++ []))) (ds := (filsOf (rowAt rows t)).map filD) (fun j ρ1 G1 => ∃ a5 a6 a7, ρ1 = eSR rows t Gs (some (.d (rowD (rowAt rows t)))) (some (.a l)) a5 a6 a7 ∧ G1 = (l, .lst ((((filsOf (rowAt rows t)).take j).map (seenF (ownM rows Gs))).map filD)) :: G0) PassesOwn.never
    (xd_call fils (hr.mono (by decide)) (xad_cons (xd_name 3) xa_nil) fun G Φ q => ⟨rowAt rows t, rfl, q⟩) (pg_tup (n := 3) rfl (pgs_cons (pg_name (i := 5) sc_srow.nd rfl (.inl rfl)) (pgs_cons (pg_name (i := 6) sc_srow.nd rfl (.inl rfl)) (pgs_cons (pg_name (i := 7) sc_srow.nd rfl (.inl rfl)) pgs_nil)))) ⟨none, none, none, rfl, rfl⟩ ?_ ?_) fun ρ' G' q => ?_
  · rintro j d ρ1 G1 hd ⟨a5, a6, a7, rfl, rfl⟩
    obtain ⟨f, hf, rfl⟩ := of_map_at hd
    refine ⟨eSR rows t Gs (some (.d (rowD (rowAt rows t)))) (some (.a l)) (some (intV f.1)) (some (intV f.2.1)) (some (.d (optD f.2.2))), rg_tup rfl (rgs_cons rg_name (rgs_cons rg_name (rgs_cons rg_name rgs_nil))), ?_⟩
    refine xss_one ((xs_app1 (d := filD (seenF (ownM rows Gs) f)) (xd_name 4) ((ev_srow_fil kx _ _ _ _ _ _ _).run _ (d_fil_is hok hG (hgd f (List.mem_of_getElem? hf)) (.int t) (rowD (rowAt rows t)))) ?_).imp fun ρ' G2 q => ⟨_, _, _, q.1, ?_⟩)
    · rw [List.length_map, List.length_map, List.length_take]
      omega
    · rw [q.2, List.take_add_one, hf]
      simp only [Option.toList, List.map_append, List.map_cons, List.map_nil]
  · rintro ρ1 G1 ⟨a5, a6, a7, rfl, rfl⟩
    refine ⟨a5, a6, a7, rfl, ?_⟩
    rw [List.length_map, List.take_length]
  obtain ⟨a5, a6, a7, rfl, rfl⟩ := q
  refine RS.freeze (ρ := eSR rows t Gs (some (.d (rowD (rowAt rows t)))) none a5 a6 a7) (i := 4) ?_
  refine RS.forget (j := 5) (RS.forget (j := 6) (RS.forget (j := 7) ?_))
  exact (es_srow_tail kx _ _ _ _ _).run _ (d_srow_tail_is hok hv hG ht) G0 _ Φ hq
theorem f_lseen {f : Addr} {fd : FuncData} (F1 : Fun K "_law_seen" "_law_seen" s_lseen f fd) (hm : mg "_law_seen" = some (.ref f)) (Y : By mg) (hsr : Fg P w K mg base 2 "_law_seen_row" ["_law_rows", "_law_t", "_law_some"] zSR) : Fg P w K mg base 3 "_law_seen" ["_law_good", "_law_some"] zLS := by
  refine fg_rule F1 sc_lseen (F1.binds fun _ _ _ _ _ _ us hl => match us, hl with | [_, _], _ => rfl) hm (fun xs G Φ h => by obtain ⟨_, _, rfl, _⟩ := h; rfl) fun cdv A outer s H E hr hg xs G0 Φ hz => ?_
  obtain ⟨c, Gs, rfl, hok, hv, hG, hq⟩ := hz
  have hl := hok.2.1
  have kx : Kx (cxOf CX0 P w K mg base N_lseen "_law_seen" (defScope s_lseen) f cdv A outer s H E0).nox := kx_of Y hg hr
  show Xss _ (List.cons _ _) _ _ _ _
  refine xss_at (xs_setD 2 (y := .d (.list (c.2.map rowD))) ((ev_list kx (ev_ix (ev_name 0) ev_int)).run _ rfl) sc_lseen.nd) ?_
  refine (es_lseen_tail kx hsr hr ⟨hok.2.1, hok.2.2⟩ hv hG).run (recP (seenM c Gs)) ?_ G0 _ Φ hq
  unfold d_lseen_tail
  have e1 : ((some (PyData.list (c.2.map rowD))).bind lenO).bind rng1O = some (rngD 0 c.2.length) := by
    show (if (((c.2.map rowD).length : Int) ≤ 100000 ∧ -100000 ≤ ((c.2.map rowD).length : Int)) then some (rngD 0 ((c.2.map rowD).length : Int).toNat) else none) = _
    rw [if_pos (by rw [List.length_map]; omega), Int.toNat_natCast, List.length_map]
  rw [e1]
  show tupO (consO (some (.str c.1)) (consO ((Option.map PyData.list (if (rngD 0 c.2.length).length ≤ 100000 then lcO _ _ (rngD 0 c.2.length) else none)).bind tupleO) (some []))) = _
  rw [if_pos (by rw [rng_len]; omega)]
  unfold rngD
  rw [lcO_map (fun (i : Nat) => PyData.int (0 + i)) (fun t => rowD (seenRow (ownM c.2 Gs) t (rowAt c.2 t))) (fun _ => true) (List.range c.2.length) (fun _ _ => rfl) fun t ht _ => ?_, List.filter_eq_self.mpr fun _ _ => rfl]
  · show some (PyData.tuple [.str c.1, .tuple _]) = some (PyData.tuple [.str c.1, .tuple ((seenRows c.2 (ownM c.2 Gs)).map rowD)])
    unfold seenRows
    rw [List.map_map]
    rfl
  · rw [Int.zero_add]
    show (if (0 : Int) ≤ (t : Int) ∧ (t : Int).toNat < c.2.length then _ else _) = _
    rw [if_pos ⟨Int.natCast_nonneg t, by rw [Int.toNat_natCast]; exact List.mem_range.mp ht⟩, Int.toNat_natCast]
end
/-! members, groups -/
noncomputable def membsD (c : Str × List RowM) : PyData := .list ((thereM c.2).map PyData.str)
theorem d_Lmembers_is (c : Str × List RowM) (hl : c.2.length ≤ 40) : d_Lmembers (recP c) = some (membsD c) := by
  unfold d_Lmembers
  rw [rec_1]
  show Option.bind (Option.map PyData.list (if (c.2.map rowD).length ≤ 100000 then lcO _ _ (c.2.map rowD) else none)) sortSetO = _
  rw [if_pos (by rw [List.length_map]; omega), lcO_map rowD (fun r => .str (membOf r)) Rec.isOrd c.2 (fun r _ => by exact tag_ord r) fun r _ h => memb_at h]
  show sortSetO (.list ((c.2.filter Rec.isOrd).map fun r => .str (membOf r))) = _
  have hn := names_len c.2
  rw [show (c.2.filter Rec.isOrd).map (fun r => PyData.str (membOf r)) = (names c.2).map PyData.str by unfold names; rw [List.map_map]; rfl]
  show Option.bind (Fsh.strs? ((names c.2).map PyData.str)) _ = _
  rw [strs_map]
  show (if (names c.2).length ≤ 60 then some (PyData.list ((tsort (allTx (names c.2))).map PyData.str)) else none) = _
  rw [if_pos (by omega)]
  rfl
def stepG (acc : List (List Str)) (x : Str) : List (List Str) := acc ++ acc.map fun g => g ++ [x]
def groupsM (ms : List Str) : List (List Str) := ms.foldl stepG [[]]
abbrev grD (g : List Str) : PyData := .list (g.map PyData.str)
theorem fold_groups : ∀ (ms : List Str) (acc : List (List Str)), acc.length * 2 ^ ms.length ≤ 1000 → (∀ g ∈ acc, g.length + ms.length ≤ 100) → foldO (fun v x2 => ((bin2 addD (some v) ((((some v).bind seqO).bind fun xs => if xs.length ≤ 100000 then lcO (fun x4 => (some true)) (fun x4 => (bin2 addD (some x4) (lstO (consO (some x2) (some []))))) xs else none).map PyData.list)).bind fun v3 => (some v3))) (.list (acc.map grD)) (ms.map PyData.str) = some (.list ((ms.foldl stepG acc).map grD))
  | [], acc, _, _ => rfl
  | x :: ms, acc, h1, h2 => by
    have hp : 1 ≤ 2 ^ ms.length := Nat.one_le_two_pow
    rw [List.length_cons, Nat.pow_succ] at h1
    have l1 : acc.length ≤ 1000 := Nat.le_trans (Nat.le_mul_of_pos_right _ (by omega)) h1
    have ih := fold_groups ms (stepG acc x) (by unfold stepG; rw [List.length_append, List.length_map]; rw [← Nat.two_mul, Nat.mul_assoc, Nat.mul_comm 2, Nat.mul_assoc]; exact h1) (fun g hg => by
      unfold stepG at hg
      rcases List.mem_append.mp hg with h | h
      · have := h2 g h
        rw [List.length_cons] at this
        omega
      · obtain ⟨g0, h0, rfl⟩ := List.mem_map.mp h
        have := h2 g0 h0
        rw [List.length_cons] at this
        rw [List.length_append]
        show g0.length + 1 + ms.length ≤ 100
        omega)
    rw [List.map_cons, List.foldl_cons, ← ih]
    show Option.bind (Option.bind (bin2 addD (some (PyData.list (acc.map grD))) (Option.map PyData.list (if (acc.map grD).length ≤ 100000 then lcO _ _ (acc.map grD) else none))) _) _ = _
    rw [if_pos (by rw [List.length_map]; omega), lcO_map grD (fun g => grD (g ++ [x])) (fun _ => true) acc (fun _ _ => rfl) fun g hg _ => ?_, List.filter_eq_self.mpr fun _ _ => rfl]
    · have e : bin2 addD (some (PyData.list (acc.map grD))) (Option.map PyData.list (some (acc.map fun g => grD (g ++ [x])))) = some (.list ((stepG acc x).map grD)) := by
        show (if (acc.map grD).length + (acc.map fun g => grD (g ++ [x])).length ≤ 100000 then some (PyData.list (acc.map grD ++ acc.map fun g => grD (g ++ [x]))) else none) = _
        rw [if_pos (by rw [List.length_map, List.length_map]; omega)]
        unfold stepG
        rw [List.map_append, List.map_map]
        rfl
      rw [e]
      rfl
    · have := h2 g hg
      rw [List.length_cons] at this
      show (if (g.map PyData.str).length + [PyData.str x].length ≤ 100000 then some (PyData.list (g.map PyData.str ++ [PyData.str x])) else none) = _
      rw [if_pos (by rw [List.length_map]; show g.length + 1 ≤ 100000; omega)]
      unfold grD
      rw [List.map_append]
      rfl
theorem d_Lgroups_is {ms : List Str} (h : ms.length ≤ 5) : d_Lgroups (.list (ms.map PyData.str)) = some (.list ((groupsM ms).map grD)) := by
  have hp : 2 ^ ms.length ≤ 2 ^ 5 := Nat.pow_le_pow_right (by decide) h
  have e := fold_groups ms [[]] (by show 1 * 2 ^ ms.length ≤ 1000; omega) (fun g hg => by rw [List.mem_singleton.mp hg]; show 0 + ms.length ≤ 100; omega)
  unfold d_Lgroups
  show (if (ms.map PyData.str).length ≤ 100000 then _ else _) = _
  rw [if_pos (by rw [List.length_map]; omega)]
  show Option.bind (foldO _ (.list ([[]].map grD)) (ms.map PyData.str)) _ = _
  rw [e]
  rfl
theorem groups_sub : ∀ (ms : List Str) (acc : List (List Str)) (S : List Str), (∀ g ∈ acc, (∀ x ∈ g, x ∈ S) ∧ g.length + ms.length ≤ 100) → (∀ x ∈ ms, x ∈ S) → ∀ g ∈ ms.foldl stepG acc, (∀ x ∈ g, x ∈ S) ∧ g.length ≤ 100
  | [], acc, S, h, _ => fun g hg => ⟨(h g hg).1, (by have := (h g hg).2; rw [List.length_nil] at this; omega)⟩
  | x :: ms, acc, S, h, hS => groups_sub ms (stepG acc x) S (fun g hg => by
    unfold stepG at hg
    rcases List.mem_append.mp hg with h0 | h0
    · have := h g h0
      rw [List.length_cons] at this
      exact ⟨this.1, by omega⟩
    · obtain ⟨g0, h1, rfl⟩ := List.mem_map.mp h0
      have := h g0 h1
      rw [List.length_cons] at this
      refine ⟨fun y hy => ?_, by rw [List.length_append]; show g0.length + 1 + ms.length ≤ 100; omega⟩
      rcases List.mem_append.mp hy with hy | hy
      · exact this.1 y hy
      · rw [List.mem_singleton.mp hy]
        exact hS x List.mem_cons_self) fun y hy => hS y (List.mem_cons_of_mem _ hy)
theorem groups_len : ∀ (ms : List Str) (acc : List (List Str)), (ms.foldl stepG acc).length = acc.length * 2 ^ ms.length
  | [], acc => by rw [List.foldl_nil, List.length_nil, Nat.pow_zero, Nat.mul_one]
  | x :: ms, acc => by
    rw [List.foldl_cons, groups_len ms, List.length_cons, Nat.pow_succ]
    unfold stepG
    rw [List.length_append, List.length_map, ← Nat.two_mul, Nat.mul_assoc, Nat.mul_comm 2, Nat.mul_assoc]
/-! at most five members -/
theorem nd_len : ∀ (m l : List Str), l.Nodup → (∀ x ∈ l, x ∈ m) → l.length ≤ m.length
  | [], l, _, h => by
    cases l with
    | nil => exact Nat.le_refl _
    | cons x l => exact absurd (h x List.mem_cons_self) (by simp)
  | y :: m, l, nd, h => by
    have h1 : (l.erase y).length ≤ m.length := nd_len m (l.erase y) (nd.erase y) fun x hx => by
      have := (nd.mem_erase_iff).mp hx
      rcases List.mem_cons.mp (h x this.2) with e | e
      · exact (this.1 e).elim
      · exact e
    have h2 := List.length_erase (a := y) (l := l)
    rw [List.length_cons]
    split at h2 <;> omega
theorem memb_mem {rows : List RowM} (h : validR rows) : ∀ x ∈ names rows, x ∈ memL := fun x hx => by
  unfold names at hx
  obtain ⟨r, hr, rfl⟩ := List.mem_map.mp hx
  obtain ⟨hr1, hr2⟩ := List.mem_filter.mp hr
  obtain ⟨t, ht⟩ := List.mem_iff_getElem?.mp hr1
  have g := h t r ht
  cases r <;> first | exact g.1 | cases hr2
theorem there_len {rows : List RowM} (h : validR rows) : (thereM rows).length ≤ 5 := by
  have nd : (thereM rows).Nodup := (tsort_perm (allTx (names rows))).nodup_iff.mpr (foldTx_nd (names rows) [] List.nodup_nil)
  exact nd_len memL (thereM rows) nd fun x hx => memb_mem h x (there_mem.mp hx)
end K5

set_option Elab.async false
set_option linter.all false
set_option maxRecDepth 100000
set_option maxHeartbeats 8000000
namespace K5
open PySem PySem.Spec L2 Fsh Rec
/-! ### what is shown -/
theorem shown_of {k m : Nat} {d : PyData} (n : Nice k m d) (hk : k ≤ 64) (hm : m ≤ 16777216) : shownO d = some (.str d.shown) := by
  unfold shownO
  have zl : 16777216 ≤ sizeLine := by rw [sizeLine_eq]; decide
  rw [if_pos ⟨n.show_, n.nod, Nat.le_trans n.dep hk, Nat.le_trans n.len (Nat.le_trans hm zl)⟩]
theorem same_shown {k m : Nat} {d : PyData} {oa ob : Option PyData} (n : Nice k m d) (hk : k ≤ 64) (hm : m ≤ 16777216) (h1 : oa = some d) (h2 : ob = some d) : bin2 neSO (oa.bind shownO) (ob.bind shownO) = some false := by
  rw [h1, h2]
  show bin2 neSO (shownO d) (shownO d) = _
  rw [shown_of n hk hm]
  show some (!decide (d.shown = d.shown)) = _
  rw [decide_eq_true rfl]
  rfl
theorem nice_bool (b : Bool) : Nice 0 201 (.bool b) := by
  cases b
  · exact ⟨rfl, rfl, rfl, Nat.le_refl _, by decide +kernel⟩
  · exact ⟨rfl, rfl, rfl, Nat.le_refl _, by decide +kernel⟩
def p59 : Int := 10 ^ 59
theorem lil_p59 : lil p59 := by
  unfold lil p59
  decide +kernel
/-! what members see is a record of tame rows, and depends on who they are alone -/
theorem okFs_seen {fs : List Fil} (h : okFs fs) (own : List Nat) : okFs (fs.map (seenF own)) := ⟨by rw [List.length_map]; exact h.1, fun f hf => by
  obtain ⟨f0, h0, rfl⟩ := List.mem_map.mp hf
  obtain ⟨h1, h2, h3⟩ := h.2 f0 h0
  refine ⟨h1, h2, fun n e => ?_⟩
  obtain ⟨a, b, o⟩ := f0
  have e : seenO own o = some n := e
  cases o with
  | none => cases e
  | some m =>
    have e : (if inI own m = true then some m else none) = some n := e
    split at e
    · exact Option.some.inj e ▸ h3 m rfl
    · cases e⟩
theorem okR_seen {r : RowM} (h : okR r) (own : List Nat) (t : Nat) : okR (seenRow own t r) := by
  cases r with
  | order m s p z fs =>
    show okR (if inI own t = true then .order m s p z (fs.map (seenF own)) else .prints (fs.map (seenF own)))
    split
    · exact ⟨h.1, h.2.1, h.2.2.1, h.2.2.2.1, okFs_seen h.2.2.2.2 own⟩
    · exact okFs_seen h.2.2.2.2 own
  | cancel n =>
    show okR (if inI own n = true then .cancel n else .prints [])
    split
    · exact h
    · exact ⟨by decide, fun f hf => by cases hf⟩
  | prints fs => exact okFs_seen h own
  | closed => exact True.intro
  | call p ps => exact ⟨h.1, Nat.le_trans (List.length_filter_le _ _) h.2.1, fun q hq => h.2.2 q (List.mem_filter.mp hq).1⟩
theorem ok_seen {c : Str × List RowM} (h : okP' c) (Gs : List Str) : okP' (seenM c Gs) := ⟨h.1, by
    show (seenRows c.2 _).length ≤ 40
    unfold seenRows
    rw [List.length_map, List.length_range]
    exact h.2.1, fun r hr => by
  have hr : r ∈ seenRows c.2 (ownM c.2 Gs) := hr
  unfold seenRows at hr
  obtain ⟨t, ht, rfl⟩ := List.mem_map.mp hr
  exact okR_seen (h.2.2 _ (List.mem_of_getElem? (rowAt_at (List.mem_range.mp ht)))) _ _⟩
theorem seen_congr (c : Str × List RowM) {g gs : List Str} (h : ∀ x, x ∈ gs ↔ x ∈ g) : seenM c gs = seenM c g := by
  unfold seenM ownM
  rw [List.filter_congr fun k _ => decide_eq_decide.mpr (h (membOf (rowAt c.2 k)))]
theorem nice_recP {c : Str × List RowM} (h : okP' c) : Nice 5 16000200 (recP c) := nice_rec h.1 h.2.1 h.2.2
/-! values that name no member -/
theorem okv_of {k m : Nat} {d : PyData} (n : Nice k m d) (hk : k ≤ 64) (hm : m ≤ 16000000) (nd : ∀ kvs, d ≠ .dict kvs) (hs : ∀ z, d ≠ .str z) : OkV d := by
  have zl : 16777216 ≤ sizeLine := by rw [sizeLine_eq]; decide
  have l := n.len
  refine ⟨⟨n.show_, n.nod, Nat.le_trans n.dep hk, by omega, ?_⟩, nd, n.shaped hk, fun s e => absurd e (hs s)⟩
  cases d <;> first | (show (PyData.shown _).length + 100 ≤ sizeLine; omega) | exact absurd rfl (hs _)
theorem okv_str (z : Str) (h : okS 8 z) : OkV (.str z) := by
  have zl : 16777216 ≤ sizeLine := by rw [sizeLine_eq]; decide
  have n := nice_str h
  have l := n.len
  have l2 := h.1
  exact ⟨⟨n.show_, n.nod, Nat.le_trans n.dep (by decide), by omega, by show z.length + 100 ≤ sizeLine; omega⟩, (fun _ e => nomatch e), n.shaped (by decide), fun s e => by cases e; exact h.mono (by decide)⟩
theorem okv_int {i : Int} (h : lil i) : OkV (.int i) := okv_of (nice_int h) (by decide) (by decide) (fun _ e => nomatch e) (fun _ e => nomatch e)
def badV : List PyData := [.str "nobody", .str "", .none, .int 0, .bool true, .str "Ann", .tuple [.str "ann"], .list [.str "ann"], .int p59]
theorem nstr (s : String) (h : s.length ≤ 8) : Nice 1 1000 (.str s) := (nice_str (k := 8) (okS_of s h)).mono (by decide) (by decide)
theorem badV_ok {rows : List RowM} (hv : validR rows) : ∀ d ∈ badV, OkV d ∧ isMem rows d = false ∧ Nice 1 1000 d := by
  have na : ∀ x ∈ [PyData.str "ann"], Nice 0 82 x := nice_mem (nice_str (k := 8) (okS_of "ann" (by decide))) nice_nil
  have no : ∀ s : Str, s ∉ memL → isMem rows (.str s) = false := fun s h => decide_eq_false fun z => h (memb_mem hv s z)
  intro d hd
  simp only [badV, List.mem_cons, List.not_mem_nil, or_false] at hd
  rcases hd with e | e | e | e | e | e | e | e | e <;> subst e
  · exact ⟨okv_str _ (okS_of "nobody" (by decide)), no _ (by decide +kernel), nstr "nobody" (by decide)⟩
  · exact ⟨okv_str _ (okS_of "" (by decide)), no _ (by decide +kernel), nstr "" (by decide)⟩
  · exact ⟨okv_of nice_none (by decide) (by decide) (fun _ e => nomatch e) (fun _ e => nomatch e), rfl, nice_none.mono (by decide) (by decide)⟩
  · exact ⟨okv_int (lil_of (by decide) (by decide)), rfl, (nice_int (lil_of (by decide) (by decide))).mono (by decide) (by decide)⟩
  · exact ⟨okv_of (nice_bool _) (by decide) (by decide) (fun _ e => nomatch e) (fun _ e => nomatch e), rfl, (nice_bool _).mono (by decide) (by decide)⟩
  · exact ⟨okv_str _ (okS_of "Ann" (by decide)), no _ (by decide +kernel), nstr "Ann" (by decide)⟩
  · exact ⟨okv_of (nice_tup na (Nat.le_refl _)) (by decide) (by decide) (fun _ e => nomatch e) (fun _ e => nomatch e), rfl, (nice_tup (m := 1) na (Nat.le_refl _)).mono (by decide) (by decide)⟩
  · exact ⟨okv_of (nice_lst na (Nat.le_refl _)) (by decide) (by decide) (fun _ e => nomatch e) (fun _ e => nomatch e), rfl, (nice_lst (m := 1) na (Nat.le_refl _)).mono (by decide) (by decide)⟩
  · exact ⟨okv_int lil_p59, rfl, (nice_int lil_p59).mono (by decide) (by decide)⟩
def badR : List PyData := [.str "Time", .str "", .none, .int 0, .bool true, .tuple [.str "time"], .list [.str "time"]]
theorem badR_ok : ∀ d ∈ badR, OkV d ∧ ruleB d = false := by
  have na : ∀ x ∈ [PyData.str "time"], Nice 0 82 x := nice_mem (nice_str (k := 8) (okS_of "time" (by decide))) nice_nil
  intro d hd
  simp only [badR, List.mem_cons, List.not_mem_nil, or_false] at hd
  rcases hd with e | e | e | e | e | e | e <;> subst e
  · exact ⟨okv_str _ (okS_of "Time" (by decide)), by decide +kernel⟩
  · exact ⟨okv_str _ (okS_of "" (by decide)), by decide +kernel⟩
  · exact ⟨okv_of nice_none (by decide) (by decide) (fun _ e => nomatch e) (fun _ e => nomatch e), rfl⟩
  · exact ⟨okv_int (lil_of (by decide) (by decide)), rfl⟩
  · exact ⟨okv_of (nice_bool _) (by decide) (by decide) (fun _ e => nomatch e) (fun _ e => nomatch e), rfl⟩
  · exact ⟨okv_of (nice_tup na (Nat.le_refl _)) (by decide) (by decide) (fun _ e => nomatch e) (fun _ e => nomatch e), rfl⟩
  · exact ⟨okv_of (nice_lst na (Nat.le_refl _)) (by decide) (by decide) (fun _ e => nomatch e) (fun _ e => nomatch e), rfl⟩
def badT (rows : List RowM) : List PyData := [.int ((rows.length : Int) + 1), .int (-1), .bool true, .bool false, .none, .str "0", .tuple [.int 0], .list [.int 0], .int p59]
theorem badT_ok {rows : List RowM} (hl : rows.length ≤ 40) : ∀ d ∈ badT rows, OkV d ∧ cutB rows d = false := by
  have n0 : ∀ x ∈ [PyData.int 0], Nice 0 201 x := nice_mem (nice_int (lil_of (by decide) (by decide))) nice_nil
  intro d hd
  simp only [badT, List.mem_cons, List.not_mem_nil, or_false] at hd
  rcases hd with e | e | e | e | e | e | e | e | e <;> subst e
  · refine ⟨okv_int (lil_of (by omega) (by omega)), ?_⟩
    show (decide ((0 : Int) ≤ (rows.length : Int) + 1) && decide ((rows.length : Int) + 1 ≤ (rows.length : Int))) = false
    rw [decide_eq_false (by omega : ¬ (rows.length : Int) + 1 ≤ (rows.length : Int)), Bool.and_false]
  · exact ⟨okv_int (lil_of (by decide) (by decide)), rfl⟩
  · exact ⟨okv_of (nice_bool _) (by decide) (by decide) (fun _ e => nomatch e) (fun _ e => nomatch e), rfl⟩
  · exact ⟨okv_of (nice_bool _) (by decide) (by decide) (fun _ e => nomatch e) (fun _ e => nomatch e), rfl⟩
  · exact ⟨okv_of nice_none (by decide) (by decide) (fun _ e => nomatch e) (fun _ e => nomatch e), rfl⟩
  · exact ⟨okv_str _ (okS_of "0" (by decide)), rfl⟩
  · exact ⟨okv_of (nice_tup n0 (Nat.le_refl _)) (by decide) (by decide) (fun _ e => nomatch e) (fun _ e => nomatch e), rfl⟩
  · exact ⟨okv_of (nice_lst n0 (Nat.le_refl _)) (by decide) (by decide) (fun _ e => nomatch e) (fun _ e => nomatch e), rfl⟩
  · refine ⟨okv_int lil_p59, ?_⟩
    show (decide ((0 : Int) ≤ p59) && decide (p59 ≤ (rows.length : Int))) = false
    have big : (41 : Int) ≤ p59 := by unfold p59; decide +kernel
    rw [decide_eq_false (by omega : ¬ p59 ≤ (rows.length : Int)), Bool.and_false]
end K5

set_option Elab.async false
set_option linter.all false
set_option maxRecDepth 100000
set_option maxHeartbeats 8000000
namespace K5
open PySem PySem.Spec L2 Fsh Rec
abbrev sCV : Stmt := topG 51
abbrev NCV : List Str := ["_law_reader_here", "_law_good", "_law_members_here", "_law_group", "_law_late", "_law_some", "_law_bad"]
theorem scCV : FnScope NCV ["_law_reader_here", "_law_good"] (defScope sCV) := ⟨rfl, rfl, rfl, by decide +kernel, rfl, by decide +kernel, by decide +kernel⟩
abbrev lqCV : Str := "_law_check_views.<locals>.<lambda>"
abbrev cxCV (P : Program) (w : World) (K : PySem.W.Frag) (mg : Str → Option Value) (base : Heap) (f cA : Addr) (A : Around) (outer : List PySem.Env) (s : Shared) (H : Hp) : Cx := (cxOf CX0 P w K mg base NCV "_law_check_views" (defScope sCV) f (.ref cA) A outer s H E0).nox
noncomputable abbrev eCV (r : Addr) (c : Str × List RowM) (t3 t4 t5 t6 : Option DV) : Fsh.Env := [some (.a r), some (.d (recP c)), some (.d (membsD c)), t3, t4, t5, t6]
def zCV (T : Addr) : Fsh.Spec := fun xs G Φ => ∃ (r : Addr) (c : Str × List RowM), xs = [.a r, .d (recP c)] ∧ okP' c ∧ validR c.2 ∧ G = [(T, .tab lqCV)] ∧ Φ (.d (.bool true)) G
theorem rep_map (ms : List Str) : ∀ n : Nat, (List.replicate n (ms.map PyData.str)).flatten = ((List.replicate n ms).flatten).map PyData.str
  | 0 => rfl
  | n + 1 => by
    rw [List.replicate_succ, List.replicate_succ, List.flatten_cons, List.flatten_cons, List.map_append, rep_map ms n]
section
variable {P : Program} {w : World} {K : PySem.W.Frag} {mg : Str → Option Value} {base : Heap} {C cA T : Addr}
theorem f_cv (D : DefInC K mg "_law_check_views" sCV cA) (TB : LamX.TabB base mg cA T) (Y : By mg) (h_mem : Fg P w K mg base 1 "_law_members" ["_law_good"] (z1 d_Lmembers)) (h_grp : Fg P w K mg base 1 "_law_groups" ["_law_some"] (z1 d_Lgroups)) (lseen : Fg P w K mg base 3 "_law_seen" ["_law_good", "_law_some"] zLS) (seen : Fx P w K mg base 3 "seen" ["record", "members"] (zSeen C))
    (E : K5M.Ecs K mg C) (flg : Fh P w K mg base 1 "_law_class_flags" ["_law_e"] (K5M.zFlg C)) (own : Fh P w K mg base 1 "_law_own_flags" ["_law_number"] K5M.zOwn) (fld : Fh P w K mg base 1 "_law_fields" ["_law_e", "_law_number"] (K5M.zFld C)) (outD : DefIn K mg "_law_outcome" sOut) : Fg P w K mg base 7 "_law_check_views" ["_law_reader_here", "_law_good"] (zCV T) := by
  obtain ⟨gO, fdO, FO, hmO⟩ := outD
  refine fg_ruleC D scCV (fun f fd F1 => F1.binds fun _ _ _ _ _ _ us hl => match us, hl with | [_, _], _ => rfl) (fun xs G Φ h => by obtain ⟨_, _, rfl, _⟩ := h; rfl) fun f A outer s H hr hg xs G Φ hz => ?_
  obtain ⟨rd, c, rfl, okc, hv, rfl, hq⟩ := hz
  have kx : Kx (cxCV P w K mg base f cA A outer s H) := kx_of Y hg hr
  have hl := okc.2.1
  have m5 := there_len hv
  have mok : ∀ x ∈ thereM c.2, x ∈ names c.2 := fun x hx => there_mem.mp hx
  have nok := names_ok okc.2.2
  have bO : Binds K fdO ["_law_ask"] [] := FO.binds fun _ _ _ _ _ _ us hl => match us, hl with | [_], _ => rfl
  show Xss _ (List.cons _ _) _ _ _ _
  refine xss_at (ρ' := eCV rd c none none none none) (G' := [(T, .tab lqCV)]) (xs_setD 2 (y := .d (membsD c)) ((ev_call1 kx h_mem (hr.mono (by decide)) (ev_name 1)).run _ (d_Lmembers_is c hl)) scCV.nd) ?_
  -- the groups
  refine xss_cons (M := fun ρ1 G1 => (∃ a3 a4 a5, ρ1 = eCV rd c a3 a4 a5 none) ∧ G1 = [(T, .tab lqCV)]) (xs_forE (js := [3]) (xs := (groupsM (thereM c.2)).map grD) PassesOwn.never (it_seq (ev_call1 kx h_grp (hr.mono (by decide)) (ev_name 2))) ?_ ?_ (fun j ρ1 G1 => (∃ a3 a4 a5, ρ1 = eCV rd c a3 a4 a5 none) ∧ G1 = [(T, .tab lqCV)]) (pg_name (i := 3) scCV.nd rfl (Or.inl rfl)) ⟨⟨none, none, none, rfl⟩, rfl⟩ ?_ fun ρ1 G1 h => h) ?_
  · show (d_Lgroups (.list ((thereM c.2).map PyData.str))).bind seqO = _
    rw [d_Lgroups_is m5]
    rfl
  · rw [List.length_map]
    show (List.foldl stepG [[]] (thereM c.2)).length ≤ 100000
    rw [groups_len]
    have hp : 2 ^ (thereM c.2).length ≤ 2 ^ 5 := Nat.pow_le_pow_right (by decide) m5
    show 1 * 2 ^ (thereM c.2).length ≤ 100000
    omega
  · rintro j d ρ1 G1 hd ⟨⟨a3, a4, a5, rfl⟩, rfl⟩
    obtain ⟨g, hg1, rfl⟩ := of_map_at hd
    obtain ⟨gsub, glen⟩ := groups_sub (thereM c.2) [[]] (thereM c.2) (fun g hg => by rw [List.mem_singleton.mp hg]; exact ⟨(fun x hx => by cases hx), by show 0 + (thereM c.2).length ≤ 100; omega⟩) (fun x hx => hx) g (List.mem_of_getElem? hg1)
    have gok : ∀ x ∈ g, okS 8 x := fun x hx => nok x (mok x (gsub x hx))
    refine ⟨eCV rd c (some (.d (grD g))) a4 a5 none, rg_name, ?_⟩
    refine xss_cons (M := fun ρ' G' => ∃ l, ρ' = eCV rd c (some (.d (grD g))) (some (.a l)) a5 none ∧ G' = (l, .lst (g.map PyData.str)) :: [(T, .tab lqCV)]) (xs_set 4 (Xl.g (xl_listL Y.bn (xd_name 3))) (fun y G2 q => by obtain ⟨l, rfl, rfl⟩ := q; exact ⟨l, rfl, rfl⟩) scCV.nd) fun ρ' G' q => ?_
    obtain ⟨l, rfl, rfl⟩ := q
    refine xss_at (ρ' := eCV rd c (some (.d (grD g))) (some (.a l)) a5 none) (G' := (l, .lst (g.map PyData.str).reverse) :: [(T, .tab lqCV)]) (xs_expr (Φe := fun _ G2 => G2 = (l, .lst (g.map PyData.str).reverse) :: [(T, .tab lqCV)]) (xp_reverse (G1 := []) (xd_name 4) rfl rfl) fun y G2 q => ⟨rfl, q⟩) ?_
    refine RS.freeze (ρ := eCV rd c (some (.d (grD g))) none a5 none) (i := 4) ?_
    refine xss_one (xs_forE (js := [5]) (xs := [.tuple (g.map PyData.str), .tuple (g.map PyData.str).reverse, .tuple (g.map PyData.str ++ (g.map PyData.str).reverse)]) PassesOwn.never (it_seq (ev_tup (ea_cons (ev_tuple kx (ev_name 3)) (ea_cons (ev_tuple kx (ev_name 4)) (ea_cons (ev_tuple kx (ev_bin bs_add (ev_name 3) (ev_name 4))) ea_nil))))) ?_ (by show 3 ≤ 100000; decide) (fun k ρ1 G1 => (∃ b5, ρ1 = eCV rd c (some (.d (grD g))) (some (.d (.list (g.map PyData.str).reverse))) b5 none) ∧ G1 = [(T, .tab lqCV)]) (pg_name (i := 5) scCV.nd rfl (Or.inl rfl)) ⟨⟨a5, rfl⟩, rfl⟩ ?_ fun ρ1 G1 h => by obtain ⟨⟨b5, rfl⟩, rfl⟩ := h; exact ⟨⟨_, _, _, rfl⟩, rfl⟩)
    · have e : bin2 addD (some (grD g)) (some (PyData.list (g.map PyData.str).reverse)) = some (.list (g.map PyData.str ++ (g.map PyData.str).reverse)) := by
        show (if (g.map PyData.str).length + (g.map PyData.str).reverse.length ≤ 100000 then some (PyData.list (g.map PyData.str ++ (g.map PyData.str).reverse)) else none) = _
        rw [if_pos (by rw [List.length_reverse, List.length_map]; omega)]
      rw [e]
      rfl
    · rintro k d ρ1 G1 hd2 ⟨⟨b5, rfl⟩, rfl⟩
      obtain ⟨gs, rfl, hgs, hgl⟩ : ∃ gs : List Str, d = .tuple (gs.map PyData.str) ∧ (∀ x, x ∈ gs ↔ x ∈ g) ∧ gs.length ≤ 200 := by
        match k, hd2 with
        | 0, hd2 => exact ⟨g, (Option.some.inj hd2).symm, fun x => Iff.rfl, by omega⟩
        | 1, hd2 => exact ⟨g.reverse, by rw [List.map_reverse]; exact (Option.some.inj hd2).symm, fun x => List.mem_reverse, by rw [List.length_reverse]; omega⟩
        | 2, hd2 => exact ⟨g ++ g.reverse, by rw [List.map_append, List.map_reverse]; exact (Option.some.inj hd2).symm, fun x => by rw [List.mem_append, List.mem_reverse]; exact ⟨fun h => h.elim id id, .inl⟩, by rw [List.length_append, List.length_reverse]; omega⟩
      refine ⟨eCV rd c (some (.d (grD g))) (some (.d (.list (g.map PyData.str).reverse))) (some (.d (.tuple (gs.map PyData.str)))) none, rg_name, ?_⟩
      have seenX : ∀ {p1 p2 p3 p4 : Pos}, Xd (cxCV P w K mg base f cA A outer s H) (.Call (.Name "seen" p1) [.Name "_law_good" p2, .Name "_law_some" p3] [] p4) (eCV rd c (some (.d (grD g))) (some (.d (.list (g.map PyData.str).reverse))) (some (.d (.tuple (gs.map PyData.str)))) none) (.d (recP (seenM c g))) := fun G => xp_callX seen (hr.mono (by decide)) kx.gd (Xad.i (xs := [.d (recP c), .d (.tuple (gs.map PyData.str))]) (xad_cons (xd_name 1) (xad_cons (xd_name 5) xa_nil))) fun xs G' q => ⟨[], G', rfl, c, gs, [], by rw [List.append_nil]; exact q.1, okc, by show gs.length + 0 ≤ 1000; omega, fun x hx => mok x (gsub x ((hgs x).mp hx)), fun _ => ⟨by rw [seen_congr c hgs], q.2⟩, fun d ds e => nomatch e⟩
      have lsX : ∀ {p1 p2 p3 p4 : Pos}, Xd (cxCV P w K mg base f cA A outer s H) (.Call (.Name "_law_seen" p1) [.Name "_law_good" p2, .Name "_law_group" p3] [] p4) (eCV rd c (some (.d (grD g))) (some (.d (.list (g.map PyData.str).reverse))) (some (.d (.tuple (gs.map PyData.str)))) none) (.d (recP (seenM c g))) := fun G => xg_call lseen (hr.mono (by decide)) kx.gd (Xad.i (xs := [.d (recP c), .d (.list (g.map PyData.str))]) (xad_cons (xd_name 1) (xad_cons (xd_name 3) xa_nil))) fun xs G' q => ⟨[], G', rfl, c, g, q.1, okc, hv, gok, rfl, q.2⟩
      exact xss_one (xs_ifD (t := false) ((et_cmp cs_nes (ev_repr kx (ev_xd seenX)) (ev_repr kx (ev_xd lsX))).run _ (same_shown (nice_recP (ok_seen okc g)) (by decide) (by decide) rfl rfl)) (fun h => nomatch h) fun _ => xss_nil ⟨⟨_, rfl⟩, rfl⟩)
  rintro ρ1 G1 ⟨⟨a3, a4, a5, rfl⟩, rfl⟩
  -- values that name no member
  refine xss_cons (M := fun ρ1 G1 => G1 = [(T, .tab lqCV)]) (xs_forE (js := [6]) (xs := badV) PassesOwn.never (it_seq (ev_tup (ea_cons ev_str (ea_cons ev_str (ea_cons ev_none (ea_cons ev_int (ea_cons ev_bool (ea_cons ev_str (ea_cons (ev_tup (ea_cons ev_str ea_nil)) (ea_cons (ev_lst (ea_cons ev_str ea_nil)) (ea_cons (ev_bin bs_pow ev_int ev_int) ea_nil))))))))))) (by kernel_rfl) (by decide) (fun j ρ1 G1 => (∃ b6, ρ1 = eCV rd c a3 a4 a5 b6) ∧ G1 = [(T, .tab lqCV)]) (pg_name (i := 6) scCV.nd rfl (Or.inr rfl)) ⟨⟨none, rfl⟩, rfl⟩ ?_ fun ρ1 G1 h => h.2) fun ρ1 G1 q => ?_
  · rintro j d ρ1 G1 hd ⟨⟨b6, rfl⟩, rfl⟩
    obtain ⟨okd, isM, nd⟩ := badV_ok hv d (List.mem_of_getElem? hd)
    have nt : Nice 2 3000 (.tuple [.str "member", d]) := (nice_tup (k := 1) (n := 1000) (m := 2) (nice_mem ((nice_str (k := 8) (okS_of "member" (by decide))).mono (by decide) (by decide)) (nice_mem nd nice_nil)) (Nat.le_refl _)).mono (by decide) (by decide)
    have sh := shown_of nt (by decide) (by decide)
    refine ⟨eCV rd c a3 a4 a5 (some (.d d)), rg_name, ?_⟩
    have rgt : ∀ {p1 p2 p3 p4 : Pos} {k1 k2 : Nat}, Xi (cxCV P w K mg base f cA A outer s H) (.Call (.Name "repr" p1) [.Tuple [.Constant (.str "member") k1 p2, .Name "_law_bad" p3] k2 p4] [] p1) (eCV rd c a3 a4 a5 (some (.d d))) [(T, .tab lqCV)] (.d (.str (PyData.tuple [.str "member", d]).shown)) := xi_repr kx (Xd.g ((ev_tup (ea_cons ev_str (ea_cons (ev_name 6) ea_nil))).run _ rfl)) sh
    refine xss_at (ρ' := eCV rd c a3 a4 a5 (some (.d d))) (G' := [(T, .tab lqCV)]) (xs_ifI (t := false) (xti_nes (xi_repr kx (xi_lamcall (G1 := []) (G2 := []) (y := .d (.tuple [.str "member", d])) (k := 4) (is := [1, 6]) (ds := [recP c, d]) (Φb := fun _ _ _ => False) (Ψb := fun G cls fs G2 => cls = .ref C ∧ fs = ([(Str.ofString "member", DV.d d)] : List (Str × DV)) ∧ G2 = G) FO scOut bO hmO rfl (Or.inl rfl) TB rfl (hr.mono (by decide)) kx.gd (LamX.lamS_by rfl) rfl (fun _ _ _ _ _ => rfl) rfl ?_ ?_ ?_) sh) (xi_repr kx (Xd.g ((ev_tup (ea_cons ev_str (ea_cons (ev_name 6) ea_nil))).run _ rfl)) sh)) (fun h => nomatch h) fun _ => xss_nil ⟨rfl, rfl⟩) ?_
    · intro p hp
      simp only [List.zip_cons_cons, List.zip_nil_right, List.mem_cons, List.not_mem_nil, or_false] at hp
      rcases hp with e | e <;> subst e <;> rfl
    · intro A2 outer2 s2 H2 E2 f2 c2 rm gd G
      exact yp_call seen (rm.mono (by decide)) gd takes_lam (Xad.i (xs := [.d (recP c), .d (.tuple [d])]) (xad_cons (xd_name 1) (xad_cons (xd_tup (ds := [d]) (xad_cons (xd_name 6) xa_nil) (by show 1 ≤ 100000; decide)) xa_nil))) fun xs G' q => ⟨[], G', rfl, c, [], [d], q.1, okc, by show 0 + 1 ≤ 1000; decide, (fun x h => nomatch h), (fun e => nomatch e), fun d0 ds0 e => by cases e; exact ⟨okd, isM, rfl, rfl, q.2⟩⟩
    · intro cdv s2 H2 lam ask
      exact K5M.f_out E Y flg own fld ((hr.mono (by decide : 2 ≤ 6)).deeper _) kx.gd ask
    refine xss_at (ρ' := eCV rd c a3 a4 a5 (some (.d d))) (G' := [(T, .tab lqCV)]) (xs_ifI (t := false) (xti_nes (xi_repr kx (xi_lamcall (G1 := []) (G2 := []) (y := .d (.tuple [.str "member", d])) (k := 4) (is := [1, 2, 6]) (ds := [recP c, membsD c, d]) (Φb := fun _ _ _ => False) (Ψb := fun G cls fs G2 => cls = .ref C ∧ fs = ([(Str.ofString "member", DV.d d)] : List (Str × DV)) ∧ G2 = G) FO scOut bO hmO rfl (Or.inl rfl) TB rfl (hr.mono (by decide)) kx.gd (LamX.lamS_by rfl) rfl (fun _ _ _ _ _ => rfl) rfl ?_ ?_ ?_) sh) (xi_repr kx (Xd.g ((ev_tup (ea_cons ev_str (ea_cons (ev_name 6) ea_nil))).run _ rfl)) sh)) (fun h => nomatch h) fun _ => xss_nil ⟨rfl, rfl⟩) ?_
    · intro p hp
      simp only [List.zip_cons_cons, List.zip_nil_right, List.mem_cons, List.not_mem_nil, or_false] at hp
      rcases hp with e | e | e <;> subst e <;> rfl
    · intro A2 outer2 s2 H2 E2 f2 c2 rm gd G
      exact yp_call seen (rm.mono (by decide)) gd takes_lam (Xad.i (xs := [.d (recP c), .d (.tuple ((thereM c.2).map PyData.str ++ [d, .str "zz"]))]) (xad_cons (xd_name 1) (xad_cons (xd_catt (xd_tupL Y.bn (xd_name 2)) (xd_tup (ds := [d, .str "zz"]) (xad_cons (xd_name 6) (xad_cons xd_str xa_nil)) (by show 2 ≤ 100000; decide)) (by rw [List.length_map]; show _ + 2 ≤ 100000; omega)) xa_nil))) fun xs G' q => ⟨[], G', rfl, c, thereM c.2, [d, .str "zz"], q.1, okc, by show _ + 2 ≤ 1000; omega, mok, (fun e => nomatch e), fun d0 ds0 e => by cases e; exact ⟨okd, isM, rfl, rfl, q.2⟩⟩
    · intro cdv s2 H2 lam ask
      exact K5M.f_out E Y flg own fld ((hr.mono (by decide : 2 ≤ 6)).deeper _) kx.gd ask
    refine xss_one (xs_ifI (t := false) (xti_nes (xi_repr kx (xi_lamcall (G1 := []) (G2 := []) (y := .d (.tuple [.str "member", d])) (k := 4) (is := [1, 2, 6]) (ds := [recP c, membsD c, d]) (Φb := fun _ _ _ => False) (Ψb := fun G cls fs G2 => cls = .ref C ∧ fs = ([(Str.ofString "member", DV.d d)] : List (Str × DV)) ∧ G2 = G) FO scOut bO hmO rfl (Or.inl rfl) TB rfl (hr.mono (by decide)) kx.gd (LamX.lamS_by rfl) rfl (fun _ _ _ _ _ => rfl) rfl ?_ ?_ ?_) sh) (xi_repr kx (Xd.g ((ev_tup (ea_cons ev_str (ea_cons (ev_name 6) ea_nil))).run _ rfl)) sh)) (fun h => nomatch h) fun _ => xss_nil ⟨⟨_, rfl⟩, rfl⟩)
    · intro p hp
      simp only [List.zip_cons_cons, List.zip_nil_right, List.mem_cons, List.not_mem_nil, or_false] at hp
      rcases hp with e | e | e <;> subst e <;> rfl
    · intro A2 outer2 s2 H2 E2 f2 c2 rm gd G
      have l20 : ((List.replicate 4 (thereM c.2)).flatten).length ≤ 20 := by
        rw [List.length_flatten, List.map_replicate, List.sum_replicate_nat]
        omega
      exact yp_call seen (rm.mono (by decide)) gd takes_lam (Xad.i (xs := [.d (recP c), .d (.tuple (((List.replicate 4 (thereM c.2)).flatten).map PyData.str ++ [d]))]) (xad_cons (xd_name 1) (xad_cons (xd_catt (xd_tupL Y.bn (Xd.cast (Xl.data (xl_rep (xs := (thereM c.2).map PyData.str) (k := 4) (xd_name 2) xd_int (by decide) (by decide) (by rw [List.length_map]; omega))) (by rw [← rep_map]; rfl))) (xd_tup (ds := [d]) (xad_cons (xd_name 6) xa_nil) (by show 1 ≤ 100000; decide)) (by rw [List.length_map]; show _ + 1 ≤ 100000; omega)) xa_nil))) fun xs G' q => ⟨[], G', rfl, c, (List.replicate 4 (thereM c.2)).flatten, [d], q.1, okc, by show _ + 1 ≤ 1000; omega, (fun x hx => by
        obtain ⟨l, hl1, hl2⟩ := List.mem_flatten.mp hx
        rw [(List.mem_replicate.mp hl1).2] at hl2
        exact mok x hl2), (fun e => nomatch e), fun d0 ds0 e => by cases e; exact ⟨okd, isM, rfl, rfl, q.2⟩⟩
    · intro cdv s2 H2 lam ask
      exact K5M.f_out E Y flg own fld ((hr.mono (by decide : 2 ≤ 6)).deeper _) kx.gd ask
  subst q
  exact xss_one (xs_ret (Xd.to xd_bool hq))
end
end K5

set_option Elab.async false
set_option linter.all false
set_option maxRecDepth 100000
set_option maxHeartbeats 8000000
namespace K5
open PySem PySem.Spec L2 Fsh Rec
abbrev sCO : Stmt := topG 52
abbrev NCO : List Str := ["_law_good", "_law_word", "_law_rows", "_law_rule", "_law_bad", "_law_t"]
theorem scCO : FnScope NCO ["_law_good"] (defScope sCO) := ⟨rfl, rfl, rfl, by decide +kernel, rfl, by decide +kernel, by decide +kernel⟩
abbrev lqCO : Str := "_law_check_others.<locals>.<lambda>"
abbrev cxCO (P : Program) (w : World) (K : PySem.W.Frag) (mg : Str → Option Value) (base : Heap) (f cA : Addr) (A : Around) (outer : List PySem.Env) (s : Shared) (H : Hp) : Cx := (cxOf CX0 P w K mg base NCO "_law_check_others" (defScope sCO) f (.ref cA) A outer s H E0).nox
abbrev eCO (c : Str × List RowM) (t3 t4 t5 : Option DV) : Fsh.Env := [some (.d (recP c)), some (.d (.str c.1)), some (.d (.tuple (c.2.map rowD))), t3, t4, t5]
def zCO (T : Addr) : Fsh.Spec := fun xs G Φ => ∃ (c : Str × List RowM) (GX : Store), xs = [.d (recP c)] ∧ okP' c ∧ G = (T, .tab lqCO) :: GX ∧ Φ (.d (.bool true)) G
abbrev useT (w : Str) : PyData := .tuple [.str "use", .str w, .int (-1)]
theorem rng_is {n k : Nat} {d : PyData} (h : (rngD 0 n)[k]? = some d) : k < n ∧ d = .int (k : Nat) := by
  have lt := (List.getElem?_eq_some_iff.mp h).1
  rw [rng_len] at lt
  rw [rng_at lt, Int.zero_add] at h
  exact ⟨lt, (Option.some.inj h).symm⟩
theorem ok_cut {c : Str × List RowM} (h : okP' c) (k : Nat) : okP' (c.1, c.2.take k) := ⟨h.1, by
    show (c.2.take k).length ≤ 40
    rw [List.length_take]
    have := h.2.1
    omega, fun r hr => h.2.2 r (List.mem_of_mem_take hr)⟩
theorem sh_use (w : Str) (h : okS 8 w) : SeqAt.shaped (useT w) = true := ((nice_tup (k := 0) (n := 201) (m := 3) (nice_mem ((nice_str (k := 8) (okS_of "use" (by decide))).mono (by decide) (by decide)) (nice_mem ((nice_str h).mono (by decide) (by decide)) (nice_mem (nice_int (lil_of (by decide) (by decide))) nice_nil))) (by show 3 ≤ 3; decide))).shaped (by decide)
theorem xti_ned {X : Cx} {a b : Expr} {ρ : Fsh.Env} {G : Store} {pos : Pos} {d : PyData} (hu : X.A.units + 64 < cLine) (hs : SeqAt.shaped d = true) (he : (!PyData.eqv d d) = false) (ha : Xi X a ρ G (.d d)) (hb : Xi X b ρ G (.d d)) : Xti X (.Compare a [.NotEq] [b] pos) ρ G false := by
  have z := xti_cmp (op_neD hu) ha hb (op_nedd hs hs) (nomark _) (pos := pos)
  rw [he] at z
  exact z
theorem same_use (w : Str) (h : okS 8 w) : (!PyData.eqv (useT w) (useT w)) = false := by
  rw [SeqAt.eqv_refl _ (SeqAt.canLay_of_shaped (sh_use w h))]
  rfl
section
variable {P : Program} {w : World} {K : PySem.W.Frag} {mg : Str → Option Value} {base : Heap} {C cA T : Addr}
theorem f_co (D : DefInC K mg "_law_check_others" sCO cA) (TB : LamX.TabB base mg cA T) (Y : By mg) (with_ : Fx P w K mg base 3 "with_rule" ["record", "rule"] (zUse C "rule" (fun _ d => ruleB d) withOut)) (cut_ : Fx P w K mg base 3 "cut" ["record", "t"] (zUse C "row" cutB cutOut))
    (E : K5U.Ecs K mg C) (flg : Fh P w K mg base 1 "_law_class_flags" ["_law_e"] (K5U.zFlg C)) (own : Fh P w K mg base 1 "_law_own_flags" ["_law_number"] K5U.zOwn) (fld : Fh P w K mg base 1 "_law_fields" ["_law_e", "_law_number"] (K5U.zFld C)) (outD : DefIn K mg "_law_outcome" sOut) : Fg P w K mg base 7 "_law_check_others" ["_law_good"] (zCO T) := by
  obtain ⟨gO, fdO, FO, hmO⟩ := outD
  refine fg_ruleC D scCO (fun f fd F1 => F1.binds fun _ _ _ _ _ _ us hl => match us, hl with | [_], _ => rfl) (fun xs G Φ h => by obtain ⟨_, _, rfl, _⟩ := h; rfl) fun f A outer s H hr hg xs G Φ hz => ?_
  obtain ⟨c, GX, rfl, okc, rfl, hq⟩ := hz
  have kx : Kx (cxCO P w K mg base f cA A outer s H) := kx_of Y hg hr
  have hu : (cxCO P w K mg base f cA A outer s H).A.units + 64 < cLine := by have := kx.un; omega
  have hl := okc.2.1
  have bO : Binds K fdO ["_law_ask"] [] := FO.binds fun _ _ _ _ _ _ us hl => match us, hl with | [_], _ => rfl
  show Xss _ (List.cons _ _) _ _ _ _
  refine xss_cons (M := fun ρ' G' => ρ' = eCO c none none none ∧ G' = ((T, .tab lqCO) :: GX)) (xs_asg (js := [1] ++ ([2] ++ [])) (Φe := Is (.d (recP c)) ((T, .tab lqCO) :: GX)) (Xd.g (xd_name 0)) (pg_tup (n := 2) rfl (pgs_cons (pg_name (i := 1) scCO.nd rfl (Or.inl rfl)) (pgs_cons (pg_name (i := 2) scCO.nd rfl (Or.inl rfl)) pgs_nil))) fun y G2 q => ?_) fun ρ' G0 q => ?_
  · obtain ⟨rfl, rfl⟩ := q
    exact ⟨_, rg_tup rfl (rgs_cons rg_name (rgs_cons rg_name rgs_nil)), rfl, rfl⟩
  obtain ⟨rfl, rfl⟩ := q
  -- the rules
  refine xss_cons (M := fun ρ1 G1 => (∃ a3, ρ1 = eCO c a3 none none) ∧ G1 = ((T, .tab lqCO) :: GX)) (xs_forE (js := [3]) (xs := ruleL.map PyData.str) PassesOwn.never (it_seq (ev_cstK 60 (d := .tuple (ruleL.map PyData.str)) (by kernel_rfl))) rfl (by decide) (fun j ρ1 G1 => (∃ a3, ρ1 = eCO c a3 none none) ∧ G1 = ((T, .tab lqCO) :: GX)) (pg_name (i := 3) scCO.nd rfl (Or.inl rfl)) ⟨⟨none, rfl⟩, rfl⟩ ?_ fun ρ1 G1 h => h) ?_
  · rintro j d ρ1 G1 hd ⟨⟨a3, rfl⟩, rfl⟩
    obtain ⟨s0, hs, rfl⟩ := of_map_at hd
    have hin := List.mem_of_getElem? hs
    have ok8 : okS 8 s0 := by
      simp only [ruleL, List.mem_cons, List.not_mem_nil, or_false] at hin
      rcases hin with e | e | e <;> subst e
      · exact okS_of "time" (by decide)
      · exact okS_of "late" (by decide)
      · exact okS_of "price" (by decide)
    have okd := okv_str s0 ok8
    have isR : ruleB (.str s0) = true := decide_eq_true hin
    refine ⟨eCO c (some (.d (.str s0))) none none, rg_name, ?_⟩
    have wX : ∀ {p1 p2 p3 p4 : Pos}, Xd (cxCO P w K mg base f cA A outer s H) (.Call (.Name "with_rule" p1) [.Name "_law_good" p2, .Name "_law_rule" p3] [] p4) (eCO c (some (.d (.str s0))) none none) (.d (recP (s0, c.2))) := fun G => xp_callX with_ (hr.mono (by decide)) kx.gd (Xad.i (xs := [.d (recP c), .d (.str s0)]) (xad_cons (xd_name 0) (xad_cons (xd_name 3) xa_nil))) fun xs G' q => ⟨[], G', rfl, c, .str s0, q.1, okd, okc, fun _ => ⟨rfl, q.2⟩, fun z => by have z : ruleB (.str s0) = false := z; rw [isR] at z; cases z⟩
    exact xss_one (xs_ifD (t := false) ((et_cmp cs_nes (ev_repr kx (ev_xd wX)) (ev_repr kx (ev_tup (ea_cons (ev_name 3) (ea_cons (ev_name 2) ea_nil))))).run _ (same_shown (nice_recP (c := (s0, c.2)) ⟨ok8, okc.2.1, okc.2.2⟩) (by decide) (by decide) rfl rfl)) (fun h => nomatch h) fun _ => xss_nil ⟨⟨_, rfl⟩, rfl⟩)
  rintro ρ1 G1 ⟨⟨a3, rfl⟩, rfl⟩
  -- values that are no rule
  refine xss_cons (M := fun ρ1 G1 => (∃ b4, ρ1 = eCO c a3 b4 none) ∧ G1 = ((T, .tab lqCO) :: GX)) (xs_forE (js := [4]) (xs := badR) PassesOwn.never (it_seq (ev_tup (ea_cons ev_str (ea_cons ev_str (ea_cons ev_none (ea_cons ev_int (ea_cons ev_bool (ea_cons (ev_tup (ea_cons ev_str ea_nil)) (ea_cons (ev_lst (ea_cons ev_str ea_nil)) ea_nil))))))))) (by kernel_rfl) (by decide) (fun j ρ1 G1 => (∃ b4, ρ1 = eCO c a3 b4 none) ∧ G1 = ((T, .tab lqCO) :: GX)) (pg_name (i := 4) scCO.nd rfl (Or.inr rfl)) ⟨⟨none, rfl⟩, rfl⟩ ?_ fun ρ1 G1 h => h) ?_
  · rintro j d ρ1 G1 hd ⟨⟨b4, rfl⟩, rfl⟩
    obtain ⟨okd, isR⟩ := badR_ok d (List.mem_of_getElem? hd)
    refine ⟨eCO c a3 (some (.d d)) none, rg_name, ?_⟩
    refine xss_one (xs_ifI (t := false) (xti_ned (d := useT "rule") hu (sh_use _ (okS_of "rule" (by decide))) (same_use _ (okS_of "rule" (by decide))) (xi_lamcall (G1 := []) (G2 := GX) (y := .d (useT "rule")) (k := 4) (is := [0, 4]) (ds := [recP c, d]) (Φb := fun _ _ _ => False) (Ψb := fun G cls fs G2 => cls = .ref C ∧ fs = (useF "rule" : List (Str × DV)) ∧ G2 = G) FO scOut bO hmO rfl (Or.inl rfl) TB rfl (hr.mono (by decide)) kx.gd (LamX.lamS_by rfl) rfl (fun _ _ _ _ _ => rfl) rfl ?_ ?_ ?_) (Xd.g (y := .d (useT "rule")) ((ev_tup (ea_cons ev_str (ea_cons ev_str (ea_cons (ev_neg ev_int) ea_nil)))).run _ rfl))) (fun h => nomatch h) fun _ => xss_nil ⟨⟨_, rfl⟩, rfl⟩)
    · intro p hp
      simp only [List.zip_cons_cons, List.zip_nil_right, List.mem_cons, List.not_mem_nil, or_false] at hp
      rcases hp with e | e <;> subst e <;> rfl
    · intro A2 outer2 s2 H2 E2 f2 c2 rm gd G
      exact yp_call with_ (rm.mono (by decide)) gd takes_lam (Xad.i (xs := [.d (recP c), .d d]) (xad_cons (xd_name 0) (xad_cons (xd_name 4) xa_nil))) fun xs G' q => ⟨[], G', rfl, c, d, q.1, okd, okc, fun z => (by have z : ruleB d = true := z; rw [isR] at z; cases z), fun _ => ⟨rfl, rfl, q.2⟩⟩
    · intro cdv s2 H2 lam ask
      exact K5U.f_out E Y flg own fld ((hr.mono (by decide : 2 ≤ 6)).deeper _) kx.gd ask
  rintro ρ1 G1 ⟨⟨b4, rfl⟩, rfl⟩
  -- the beginnings
  refine xss_cons (M := fun ρ1 G1 => (∃ b5, ρ1 = eCO c a3 b4 b5) ∧ G1 = ((T, .tab lqCO) :: GX)) (xs_forE (js := [5]) (xs := rngD 0 (c.2.length + 1)) PassesOwn.never (it_rng1 (Bn.range (Kx.bn kx)) (ev_bin bs_add (ev_len kx (ev_name 2)) ev_int)) ?_ (by rw [rng_len]; omega) (fun j ρ1 G1 => (∃ b5, ρ1 = eCO c a3 b4 b5) ∧ G1 = ((T, .tab lqCO) :: GX)) (pg_name (i := 5) scCO.nd rfl (Or.inl rfl)) ⟨⟨none, rfl⟩, rfl⟩ ?_ fun ρ1 G1 h => h) ?_
  · have h1 : bin2 addD ((some (PyData.tuple (c.2.map rowD))).bind lenO) (some (PyData.int 1)) = some (.int ((c.2.map rowD).length + 1)) := rfl
    rw [h1, Option.bind_some, List.length_map]
    unfold rng1O
    simp only []
    rw [if_pos (by omega), show ((c.2.length : Int) + 1).toNat = c.2.length + 1 by omega]
  · rintro k d ρ1 G1 hd ⟨⟨b5, rfl⟩, rfl⟩
    obtain ⟨lt, rfl⟩ := rng_is hd
    refine ⟨eCO c a3 b4 (some (intV k)), rg_name, ?_⟩
    have okd : OkV (.int (k : Int)) := okv_int (lil_of (by omega) (by omega))
    have isC : cutB c.2 (.int (k : Int)) = true := by
      show (decide ((0 : Int) ≤ (k : Int)) && decide ((k : Int) ≤ (c.2.length : Int))) = true
      rw [decide_eq_true (by omega : (0 : Int) ≤ (k : Int)), decide_eq_true (by omega : (k : Int) ≤ (c.2.length : Int))]
      rfl
    have cX : ∀ {p1 p2 p3 p4 : Pos}, Xd (cxCO P w K mg base f cA A outer s H) (.Call (.Name "cut" p1) [.Name "_law_good" p2, .Name "_law_t" p3] [] p4) (eCO c a3 b4 (some (intV k))) (.d (recP (c.1, c.2.take k))) := fun G => xp_callX cut_ (hr.mono (by decide)) kx.gd (Xad.i (xs := [.d (recP c), intV k]) (xad_cons (xd_name 0) (xad_cons (xd_name 5) xa_nil))) fun xs G' q => ⟨[], G', rfl, c, .int k, q.1, okd, okc, fun _ => ⟨by show DV.d (recP (c.1, c.2.take (k : Int).toNat)) = _; rw [Int.toNat_natCast], q.2⟩, fun z => by rw [isC] at z; cases z⟩
    refine xss_one (xs_ifD (t := false) ((et_cmp cs_nes (ev_repr kx (ev_xd cX)) (ev_repr kx (ev_tup (ea_cons (ev_name 1) (ea_cons (ev_slice (ev_name 2) eo_none (eo_some (ev_name 5))) ea_nil))))).run _ (same_shown (nice_recP (ok_cut okc k)) (by decide) (by decide) rfl ?_)) (fun h => nomatch h) fun _ => xss_nil ⟨⟨_, rfl⟩, rfl⟩)
    show tupO (consO (some (.str c.1)) (consO (some (.tuple (cutD (c.2.map rowD) none (some (k : Int))))) (some []))) = some (.tuple [.str c.1, .tuple ((c.2.take k).map rowD)])
    rw [cut_map]
    rfl
  rintro ρ1 G1 ⟨⟨b5, rfl⟩, rfl⟩
  -- values that are no place
  refine xss_cons (M := fun ρ1 G1 => G1 = ((T, .tab lqCO) :: GX)) (xs_forE (js := [4]) (xs := badT c.2) PassesOwn.never (it_seq (ev_tup (ea_cons (ev_bin bs_add (ev_len kx (ev_name 2)) ev_int) (ea_cons (ev_neg ev_int) (ea_cons ev_bool (ea_cons ev_bool (ea_cons ev_none (ea_cons ev_str (ea_cons (ev_tup (ea_cons ev_int ea_nil)) (ea_cons (ev_lst (ea_cons ev_int ea_nil)) (ea_cons (ev_bin bs_pow ev_int ev_int) ea_nil))))))))))) ?_ (by show 9 ≤ 100000; decide) (fun j ρ1 G1 => (∃ b4, ρ1 = eCO c a3 b4 b5) ∧ G1 = ((T, .tab lqCO) :: GX)) (pg_name (i := 4) scCO.nd rfl (Or.inr rfl)) ⟨⟨b4, rfl⟩, rfl⟩ ?_ fun ρ1 G1 h => h.2) fun ρ1 G1 q => ?_
  · have h1 : bin2 addD ((some (PyData.tuple (c.2.map rowD))).bind lenO) (some (PyData.int 1)) = some (.int ((c.2.length : Int) + 1)) := by
      show some (PyData.int (((c.2.map rowD).length : Int) + 1)) = _
      rw [List.length_map]
    rw [h1]
    kernel_rfl
  · rintro j d ρ1 G1 hd ⟨⟨b6, rfl⟩, rfl⟩
    obtain ⟨okd, isC⟩ := badT_ok hl d (List.mem_of_getElem? hd)
    refine ⟨eCO c a3 (some (.d d)) b5, rg_name, ?_⟩
    refine xss_one (xs_ifI (t := false) (xti_ned (d := useT "row") hu (sh_use _ (okS_of "row" (by decide))) (same_use _ (okS_of "row" (by decide))) (xi_lamcall (G1 := []) (G2 := GX) (y := .d (useT "row")) (k := 4) (is := [0, 4]) (ds := [recP c, d]) (Φb := fun _ _ _ => False) (Ψb := fun G cls fs G2 => cls = .ref C ∧ fs = (useF "row" : List (Str × DV)) ∧ G2 = G) FO scOut bO hmO rfl (Or.inl rfl) TB rfl (hr.mono (by decide)) kx.gd (LamX.lamS_by rfl) rfl (fun _ _ _ _ _ => rfl) rfl ?_ ?_ ?_) (Xd.g (y := .d (useT "row")) ((ev_tup (ea_cons ev_str (ea_cons ev_str (ea_cons (ev_neg ev_int) ea_nil)))).run _ rfl))) (fun h => nomatch h) fun _ => xss_nil ⟨⟨_, rfl⟩, rfl⟩)
    · intro p hp
      simp only [List.zip_cons_cons, List.zip_nil_right, List.mem_cons, List.not_mem_nil, or_false] at hp
      rcases hp with e | e <;> subst e <;> rfl
    · intro A2 outer2 s2 H2 E2 f2 c2 rm gd G
      exact yp_call cut_ (rm.mono (by decide)) gd takes_lam (Xad.i (xs := [.d (recP c), .d d]) (xad_cons (xd_name 0) (xad_cons (xd_name 4) xa_nil))) fun xs G' q => ⟨[], G', rfl, c, d, q.1, okd, okc, fun z => (by rw [isC] at z; cases z), fun _ => ⟨rfl, rfl, q.2⟩⟩
    · intro cdv s2 H2 lam ask
      exact K5U.f_out E Y flg own fld ((hr.mono (by decide : 2 ≤ 6)).deeper _) kx.gd ask
  subst q
  exact xss_one (xs_ret (Xd.to xd_bool hq))
end
end K5

set_option Elab.async false
set_option linter.all false
set_option maxRecDepth 100000
set_option maxHeartbeats 8000000
namespace K5
open PySem PySem.Spec L2 Fsh Rec
abbrev sLaw : Stmt := topG 53
abbrev NLaw : List Str := ["_law_script", "_law_reader_here", "_law_lots", "_law_turn", "_law_good", "_law_saved"]
theorem scLaw : FnScope NLaw ["_law_script"] (defScope sLaw) := ⟨rfl, rfl, rfl, by decide +kernel, rfl, by decide +kernel, by decide +kernel⟩
abbrev cxLw (P : Program) (w : World) (K : PySem.W.Frag) (mg : Str → Option Value) (base : Heap) (f : Addr) (cdv : Value) (A : Around) (outer : List PySem.Env) (s : Shared) (H : Hp) (E : XK) : Cx := (cxOf CX0 P w K mg base NLaw "law" (defScope sLaw) f cdv A outer s H E).nox
abbrev eW (cs : List Int) (r l : Addr) (t3 : Option DV) : Fsh.Env := [some (.d (.list (cs.map PyData.int))), some (.a r), some (.a l), t3, none, none]
abbrev eV (cs : List Int) (r : Addr) (L : List (Str × List RowM)) (t3 t4 t5 : Option DV) : Fsh.Env := [some (.d (.list (cs.map PyData.int))), some (.a r), some (.d (.list (L.map recP))), t3, t4, t5]
theorem fix_ok : ∀ c ∈ fixR, okP' c := by
  have L : ∀ n : Int, -100000 ≤ n ∧ n ≤ 100000 → lil n := fun n h => lil_of h.1 h.2
  have S : ∀ (s : String), s.length ≤ 8 → okS 8 (u s) := fun s h => okS_of s h
  have F0 : okFs [] := ⟨by decide, fun f h => by cases h⟩
  have O : ∀ (m s : String) (p z : Int) (fs : List Fil), m.length ≤ 8 → s.length ≤ 8 → (-100000 ≤ p ∧ p ≤ 100000) → (-100000 ≤ z ∧ z ≤ 100000) → okFs fs → okR (oR m s p z fs) := fun m s p z fs h1 h2 h3 h4 h5 => ⟨S m h1, S s h2, L p h3, L z h4, h5⟩
  have FF : ∀ fs : List Fil, fs.length ≤ 30 → (∀ f ∈ fs, (-100000 ≤ f.1 ∧ f.1 ≤ 100000) ∧ (-100000 ≤ f.2.1 ∧ f.2.1 ≤ 100000) ∧ (∀ k, f.2.2 = some k → -100000 ≤ k ∧ k ≤ 100000)) → okFs fs := fun fs h1 h2 => ⟨h1, fun f hf => by
    obtain ⟨q1, q2, q3⟩ := h2 f hf
    exact ⟨L _ q1, L _ q2, fun v e => L v (q3 v e)⟩⟩
  have F1 : ∀ (a b : Int) (o : Option Int), (-100000 ≤ a ∧ a ≤ 100000) → (-100000 ≤ b ∧ b ≤ 100000) → (∀ k, o = some k → -100000 ≤ k ∧ k ≤ 100000) → okFs [(a, b, o)] := fun a b o h1 h2 h3 => FF _ (by show 1 ≤ 30; decide) fun f hf => by
    rw [List.mem_singleton.mp hf]
    exact ⟨h1, h2, h3⟩
  have F2 : ∀ (f g : Fil), okFs [f] → okFs [g] → okFs [f, g] := fun f g h h2 => ⟨by show 2 ≤ 30; decide, fun x hx => by
    simp only [List.mem_cons, List.not_mem_nil, or_false] at hx
    rcases hx with e | e <;> subst e
    · exact h.2 _ List.mem_cons_self
    · exact h2.2 _ List.mem_cons_self⟩
  have N : ∀ k : Int, (none : Option Int) = some k → -100000 ≤ k ∧ k ≤ 100000 := fun k e => by cases e
  have J : ∀ v : Int, (-100000 ≤ v ∧ v ≤ 100000) → ∀ k : Int, some v = some k → -100000 ≤ k ∧ k ≤ 100000 := fun v h k e => by rw [← Option.some.inj e]; exact h
  intro c hc
  simp only [fixR, List.mem_cons, List.not_mem_nil, or_false] at hc
  rcases hc with e | e | e | e | e <;> subst e
  · refine ⟨S "time" (by decide), by decide, fun r hr => ?_⟩
    simp only [first1, first2, List.cons_append, List.nil_append, List.mem_cons, List.not_mem_nil, or_false] at hr
    rcases hr with e | e | e | e <;> subst e
    · exact O _ _ _ _ _ (by decide) (by decide) (by decide) (by decide) F0
    · exact O _ _ _ _ _ (by decide) (by decide) (by decide) (by decide) F0
    · exact F2 _ _ (F1 _ _ _ (by decide) (by decide) N) (F1 _ _ _ (by decide) (by decide) (J _ (by decide)))
    · exact F1 _ _ _ (by decide) (by decide) N
  · refine ⟨S "late" (by decide), by decide, fun r hr => ?_⟩
    simp only [shut1, shut2, shut3, List.cons_append, List.nil_append, List.mem_cons, List.not_mem_nil, or_false] at hr
    rcases hr with e | e | e | e | e | e | e | e <;> subst e
    · exact True.intro
    · exact O _ _ _ _ _ (by decide) (by decide) (by decide) (by decide) F0
    · exact O _ _ _ _ _ (by decide) (by decide) (by decide) (by decide) F0
    · exact F0
    · exact O _ _ _ _ _ (by decide) (by decide) (by decide) (by decide) F0
    · refine ⟨fun v e => by rw [← Option.some.inj e]; exact L _ (by decide), by decide, fun q hq => ?_⟩
      simp only [List.mem_cons, List.not_mem_nil, or_false] at hq
      rcases hq with e | e <;> subst e
      · exact ⟨L _ (by decide), L _ (by decide)⟩
      · exact ⟨L _ (by decide), L _ (by decide)⟩
    · exact L _ (by decide)
    · exact F2 _ _ (F1 _ _ _ (by decide) (by decide) (J _ (by decide))) (F1 _ _ _ (by decide) (by decide) N)
  · refine ⟨S "price" (by decide), by decide, fun r hr => ?_⟩
    simp only [late1, late2, List.cons_append, List.nil_append, List.mem_cons, List.not_mem_nil, or_false] at hr
    rcases hr with e | e | e | e | e <;> subst e
    · exact O _ _ _ _ _ (by decide) (by decide) (by decide) (by decide) F0
    · exact O _ _ _ _ _ (by decide) (by decide) (by decide) (by decide) (F2 _ _ (F1 _ _ _ (by decide) (by decide) N) (F1 _ _ _ (by decide) (by decide) (J _ (by decide))))
    · exact O _ _ _ _ _ (by decide) (by decide) (by decide) (by decide) (F1 _ _ _ (by decide) (by decide) (J _ (by decide)))
    · exact L _ (by decide)
    · exact F1 _ _ _ (by decide) (by decide) N
  · exact ⟨S "time" (by decide), by decide, fun r hr => by cases hr⟩
  · exact ⟨S "late" (by decide), by decide, fun r hr => by rw [List.mem_singleton.mp hr]; exact True.intro⟩
theorem fix_all : ∀ c ∈ fixR, okP' c ∧ validR c.2 := fun c hc => ⟨fix_ok c hc, fix_valid c hc⟩
abbrev TTs (TV TO : Addr) : Store := [(TO, .tab lqCO), (TV, .tab lqCV)]
theorem xti_or3 {X : Cx} {a b c : Expr} {ρ : Fsh.Env} {G : Store} {pos : Pos} (h1 : Xti X a ρ G false) (h2 : Xti X b ρ G false) (h3 : Xti X c ρ G false) : Xti X (.BoolOp .Or [a, b, c] pos) ρ G false :=
  xt_w (xw_or (Φa := IsT false G) h1 (fun G1 q => by
    rw [q.2]
    exact xw_or (Φa := IsT false G) h2 (fun G1 q => by
      rw [q.2]
      exact xw_one h3) fun G1 q => nomatch q.1) fun G1 q => nomatch q.1)
section
variable {P : Program} {w : World} {K : PySem.W.Frag} {mg : Str → Option Value} {base : Heap}
theorem law_body {f TV TO : Addr} (Y : By mg) {cdv : Value} {A : Around} {outer : List PySem.Env} {s : Shared} {H : Hp} {E : XK} (hr : Room 8 (A.deeper (PyProof.Rows.envOfC "law" (defScope sLaw) s.heap.objs.size f cdv))) (hg : A.guards = some [])
    (RD : Fn P w K mg base 1 "_law_reader" ["_law_script"] zRdr) (FX : Fn P w K mg base 1 "_law_fixed_records" [] zFix) (RR : Fn P w K mg base 7 "_law_random_record" ["_law_reader_here", "_law_most"] zRr) (GR : Fn P w K mg base 2 "_law_great_records" ["_law_reader_here"] zGr) (CV : Fg P w K mg base 7 "_law_check_views" ["_law_reader_here", "_law_good"] (zCV TV)) (CO : Fg P w K mg base 7 "_law_check_others" ["_law_good"] (zCO TO))
    {cs : List Int} (hcs : cs.length ≤ 63) {Φ : Pst} (hq : ∀ G, Φ (.d (.bool true)) G) : Xss (cxLw P w K mg base f cdv A outer s H E) (defBody sLaw) (start0 NLaw [.d (.list (cs.map PyData.int))]) (TTs TV TO) (fun _ G => Φ (.d .none) G) Φ := by
  have kx : Kx (cxLw P w K mg base f cdv A outer s H E) := kx_of Y hg hr
  show Xss _ (List.cons _ _) _ _ _ _
  refine xss_cons (M := fun ρ' G2 => ∃ r Gr, ρ' = [some (.d (.list (cs.map PyData.int))), some (.a r), none, none, none, none] ∧ G2 = Gr ++ (TTs TV TO) ∧ Rd 0 r Gr) (xs_set 1 (Φe := fun y G2 => ∃ r Gr, y = .a r ∧ G2 = Gr ++ (TTs TV TO) ∧ Rd 0 r Gr) (xp_call RD (hr.mono (by decide)) (Xad.i (xad_cons (xd_name 0) xa_nil)) fun xs G2 q => ?_) (fun y G2 q => ?_) scLaw.nd) fun ρ' G2 q => ?_
  · exact ⟨[], G2, rfl, cs, q.1, hcs, fun r Gr h => ⟨r, Gr, rfl, by rw [q.2]; rfl, h⟩⟩
  · obtain ⟨r, Gr, rfl, h⟩ := q
    exact ⟨r, Gr, rfl, h⟩
  obtain ⟨r, Gr0, rfl, rfl, hR0⟩ := q
  refine xss_cons (M := fun ρ' G3 => ∃ l, ρ' = eW cs r l none ∧ G3 = (l, .lst (fixR.map recP)) :: (Gr0 ++ (TTs TV TO))) (xs_set 2 (Φe := fun y G3 => ∃ l, y = .a l ∧ G3 = (l, .lst (fixR.map recP)) :: (Gr0 ++ (TTs TV TO))) (xp_call0 FX (hr.mono (by decide)) ⟨rfl, fun l => ⟨l, rfl, rfl⟩⟩) (fun y G2 q => ?_) scLaw.nd) fun ρ' G3 q => ?_
  · obtain ⟨l, rfl, h⟩ := q
    exact ⟨l, rfl, h⟩
  obtain ⟨l, rfl, rfl⟩ := q
  -- the random records
  refine xss_cons (M := fun ρ' G3 => ∃ (L : List (Str × List RowM)) (Gr : Store) (t3 : Option DV), ρ' = eW cs r l t3 ∧ G3 = (l, .lst (L.map recP)) :: (Gr ++ (TTs TV TO)) ∧ (∀ c ∈ L, okP' c ∧ validR c.2) ∧ L.length ≤ 14 ∧ Rd 63000 r Gr)
    (xs_forR (js := [3]) (Φl := IsA [intV 6] ((l, .lst (fixR.map recP)) :: (Gr0 ++ (TTs TV TO)))) (fun c k ρ1 G1 => c = 6 ∧ ∃ (L : List (Str × List RowM)) (Gr : Store) (t3 : Option DV), ρ1 = eW cs r l t3 ∧ G1 = (l, .lst (L.map recP)) :: (Gr ++ (TTs TV TO)) ∧ (∀ c ∈ L, okP' c ∧ validR c.2) ∧ L.length ≤ 5 + k ∧ Rd (7000 * k) r Gr) PassesOwn.never Y.bn.range (Xad.i (xad_cons xd_int xa_nil)) (pg_name (i := 3) scLaw.nd rfl (Or.inl rfl)) ?_ ?_ ?_) fun ρ' G3 q => ?_
  · intro xs G1 q
    exact ⟨6, q.1, by decide, by decide, rfl, fixR, Gr0, none, rfl, q.2, fix_all, by decide, hR0.mono (by omega)⟩
  · rintro c k ρ1 G1 hk ⟨rfl, L, Gr, t3, rfl, rfl, hL, hl, hR⟩
    refine ⟨_, rg_name, ?_⟩
    refine xss_one (xs_expr (Φe := fun y G2 => ∃ (c : Str × List RowM) (Gr2 : Store), G2 = (l, .lst ((L ++ [c]).map recP)) :: (Gr2 ++ (TTs TV TO)) ∧ (okP' c ∧ validR c.2) ∧ Rd (7000 * k + 6000) r Gr2) (xp_append (Φe := fun y G2 => ∃ (c : Str × List RowM) (Gr2 : Store), y = .d (recP c) ∧ G2 = (l, .lst (L.map recP)) :: (Gr2 ++ (TTs TV TO)) ∧ (okP' c ∧ validR c.2) ∧ Rd (7000 * k + 6000) r Gr2) (xd_name 2) ⟨_, List.mem_cons_self⟩ ?_ fun y G2 w => ?_) fun y G2 w => ?_)
    · refine xp_call RR (hr.mono (by decide)) (Xad.i (xs := [.a r, intV 8]) (xad_cons (xd_name 1) (xad_cons xd_int xa_nil))) fun xs G2 q => ?_
      exact ⟨[(l, .lst (L.map recP))], Gr ++ (TTs TV TO), q.2, r, 7000 * k, 8, Gr, (TTs TV TO), q.1, rfl, hR, by omega, by decide, by decide, (fun p hp => by
      simp only [TTs, List.mem_cons, List.not_mem_nil, or_false] at hp
      rcases hp with e | e <;> subst e <;> rfl), fun c Gr2 h1 hv h2 => ⟨c, Gr2, rfl, rfl, ⟨h1, hv⟩, h2⟩⟩
    · obtain ⟨c, Gr2, rfl, rfl, h1, h2⟩ := w
      refine ⟨_, [], L.map recP, Gr2 ++ (TTs TV TO), rfl, rfl, by rw [List.length_map]; omega, c, Gr2, ?_, h1, h2⟩
      rw [List.map_append]
      rfl
    · obtain ⟨c, Gr2, rfl, h1, h2⟩ := w
      refine ⟨rfl, L ++ [c], Gr2, _, rfl, rfl, fun x hx => ?_, ?_, h2.mono (by omega)⟩
      · rcases List.mem_append.mp hx with h | h
        · exact hL x h
        · rw [List.mem_singleton.mp h]
          exact h1
      · rw [List.length_append]
        show L.length + 1 ≤ 5 + (k + 1)
        omega
  · rintro c ρ1 G1 ⟨rfl, L, Gr, t3, rfl, rfl, hL, hl, hR⟩
    have e9 : (6 : Int).toNat = 6 := rfl
    exact ⟨L, Gr, t3, rfl, rfl, hL, by omega, hR.mono (by omega)⟩
  obtain ⟨L, Gr, t3, rfl, rfl, hL, hl, hR⟩ := q
  -- the great one
  refine RS.freeze (ρ := [some (.d (.list (cs.map PyData.int))), some (.a r), none, t3, none, none]) (i := 2) ?_
  refine xss_cons (M := fun ρ' G2 => ∃ (L2 : List (Str × List RowM)) (Gr2 : Store), ρ' = eV cs r L2 t3 none none ∧ G2 = Gr2 ++ (TTs TV TO) ∧ (∀ c ∈ L2, okP' c ∧ validR c.2) ∧ L2.length ≤ 15) (xs_set 2 (Φe := fun y G2 => ∃ (L2 : List (Str × List RowM)) (Gr2 : Store), y = .d (.list (L2.map recP)) ∧ G2 = Gr2 ++ (TTs TV TO) ∧ (∀ c ∈ L2, okP' c ∧ validR c.2) ∧ L2.length ≤ 15) (xp_catG (xs := L.map recP) (Φb := fun y G2 => ∃ (L3 : List (Str × List RowM)) (Gr2 : Store), y = .d (.list (L3.map recP)) ∧ G2 = Gr2 ++ (TTs TV TO) ∧ (L3 = [] ∨ L3 = [greatR])) (xd_name 2) (xp_call GR (hr.mono (by decide)) (Xad.i (xs := [.a r]) (xad_cons (xd_name 1) xa_nil)) fun xs G2 q => ?_) fun y G2 w => ?_) (fun y G2 w => ?_) scLaw.nd) fun ρ' G2 q => ?_
  · exact ⟨[], G2, rfl, r, 63000, Gr, (TTs TV TO), q.1, q.2, hR, by decide, fun L3 Gr2 h => ⟨L3, Gr2, rfl, rfl, h⟩⟩
  · obtain ⟨L3, Gr2, rfl, rfl, h⟩ := w
    have l3 : L3.length ≤ 1 := by rcases h with e | e <;> subst e <;> decide
    refine ⟨L3.map recP, rfl, by rw [List.length_map, List.length_map]; omega, L ++ L3, Gr2, by rw [List.map_append], rfl, fun c hc => ?_, by rw [List.length_append]; omega⟩
    rcases List.mem_append.mp hc with h2 | h2
    · exact hL c h2
    · rcases h with e | e
      · subst e
        cases h2
      · subst e
        rw [List.mem_singleton.mp h2]
        exact ⟨great_ok, great_valid⟩
  · obtain ⟨L2, Gr2, rfl, w⟩ := w
    exact ⟨L2, Gr2, rfl, w⟩
  obtain ⟨L2, Gr2, rfl, rfl, hL2, hl2⟩ := q
  -- each record
  refine xss_cons (M := fun ρ' G3 => True) (xs_forE (js := [4]) (xs := L2.map recP) PassesOwn.never (it_seq (ev_name 2)) rfl (by rw [List.length_map]; omega) (fun j ρ1 G1 => (∃ t4 t5, ρ1 = eV cs r L2 t3 t4 t5) ∧ G1 = Gr2 ++ (TTs TV TO)) (pg_name (i := 4) scLaw.nd rfl (Or.inl rfl)) ⟨⟨none, none, rfl⟩, rfl⟩ ?_ fun _ _ _ => True.intro) fun ρ' G3 _ => xss_one (xs_ret (Xd.to xd_bool (hq _)))
  rintro j d ρ1 G1 hd ⟨⟨t4, t5, rfl⟩, rfl⟩
  obtain ⟨c, hc, rfl⟩ := of_map_at hd
  obtain ⟨okc, hv⟩ := hL2 c (List.mem_of_getElem? hc)
  have n : Nice 5 16000200 (recP c) := nice_rec okc.1 okc.2.1 okc.2.2
  have sh := shown_of n (by decide) (by decide)
  refine ⟨eV cs r L2 t3 (some (.d (recP c))) t5, rg_name, ?_⟩
  refine xss_at (ρ' := eV cs r L2 t3 (some (.d (recP c))) (some (.d (.str (recP c).shown)))) (G' := Gr2 ++ (TTs TV TO)) (xs_setD 5 (y := .d (.str (recP c).shown)) ((ev_repr kx (ev_name 4)).run _ sh) scLaw.nd) ?_
  refine xss_one (xs_ifI (t := false) (xti_or3 (xt_not (RT.imp (Φt := IsT true (Gr2 ++ (TTs TV TO))) (xt_of (pt_val pe_tw (by intro _; rfl)) (rt_ofB (xg_call CV (hr.mono (by decide)) kx.gd (Xad.i (xs := [.a r, .d (recP c)]) (xad_cons (xd_name 1) (xad_cons (xd_name 4) xa_nil))) fun xs G' q => ⟨Gr2 ++ [(TO, .tab lqCO)], [(TV, .tab lqCV)], by rw [q.2, List.append_assoc]; rfl, r, c, q.1, okc, hv, rfl, true, rfl, rfl, by rw [List.append_assoc]; rfl⟩))) fun b G2 q => ⟨by rw [q.1]; rfl, q.2⟩)) (xt_not (RT.imp (Φt := IsT true (Gr2 ++ (TTs TV TO))) (xt_of (pt_val pe_tw (by intro _; rfl)) (rt_ofB (xg_call CO (hr.mono (by decide)) kx.gd (Xad.i (xs := [.d (recP c)]) (xad_cons (xd_name 4) xa_nil)) fun xs G' q => ⟨Gr2, (TTs TV TO), q.2, c, [(TV, .tab lqCV)], q.1, okc, rfl, true, rfl, rfl, rfl⟩))) fun b G2 q => ⟨by rw [q.1]; rfl, q.2⟩)) (xti_nes (xi_repr kx (Xd.g (xd_name 4)) sh) (Xd.g (xd_name 5)))) (fun h => nomatch h) fun _ => xss_nil ⟨⟨_, _, rfl⟩, rfl⟩)
end
end K5

set_option Elab.async false
set_option linter.all false
set_option maxRecDepth 100000
set_option maxHeartbeats 8000000
namespace Fsh
open PySem PySem.Spec PyProof.Rows L2
/-! ### a module's constant: a tuple of texts -/
def tokS : List Value → Option (List Str)
  | [] => some []
  | .str s _ :: r => (tokS r).map (s :: ·)
  | _ :: _ => none
theorem tokS_vals : ∀ {xs : List Value} {l : List Str}, tokS xs = some l → Vals (l.map V.str) xs
  | [], l, h => by
    cases h
    exact .nil
  | x :: r, l, h => by
    cases x <;> first | cases h | skip
    obtain ⟨m, e1, e2⟩ := Option.map_eq_some_iff.mp h
    subst e2
    exact .cons ⟨_, rfl⟩ (tokS_vals e1)
theorem gl_strs {K : PySem.W.Frag} {h : Heap} {mg : Str → Option Value} {x : Str} {p : Addr} {ob : Obj} {its : Array Value} {n : Nat} {l : List Str} (X : K.In h) (G : h.Ns mainGlobals mg) (a : PySem.W.nsIn K mainGlobals x = some (some (.ref p))) (lk : K.lookup p = some ob) (c1 : ob.cls = .type "tuple") (c2 : ob.data = .seq its n) (c3 : its.size ≤ 1000) (c4 : tokS its.toList = some l) : GlD mg K x (.tuple (l.map PyData.str)) :=
  ⟨.ref p, .ref p, PySem.W.mg_of X G a, rfl, fun B => .rtup (.inr ⟨ob, its, n, lk, c1, c2, Nat.le_trans c3 (by rw [sizeLine_eq]; decide), tokS_vals c4⟩) (rps_strs l)⟩
end Fsh
namespace K5
open PySem PySem.Spec L2 Fsh Rec
/-- all that the top leaves -/
structure D5 (K : PySem.W.Frag) (mg : Str → Option Value) (cv co : Addr) : Prop where
  by_ : By mg
  so : mg "sorted" = none
  se : mg "set" = none
  gR : GlD mg K "RULES" d_RULES
  d_is_integer : DefIn K mg "is_integer" s_is_integer
  d_is_number : DefIn K mg "is_number" s_is_number
  d_is_rule : DefIn K mg "is_rule" s_is_rule
  d_row_fills : DefIn K mg "row_fills" s_row_fills
  d_members_of : DefIn K mg "members_of" s_members_of
  d_orders_of : DefIn K mg "orders_of" s_orders_of
  d_seen : DefIn K mg "seen" s_seen
  d_row_seen : DefIn K mg "row_seen" s_row_seen
  d_with_rule : DefIn K mg "with_rule" s_with
  d_cut : DefIn K mg "cut" s_cut
  d_Lreader : DefIn K mg "_law_reader" sRdr
  d_Ldraw : DefIn K mg "_law_draw" sDraw
  d_Lclass_flags : DefIn K mg "_law_class_flags" sFlg
  d_Lown_flags : DefIn K mg "_law_own_flags" sOwn
  d_Lfields : DefIn K mg "_law_fields" sFld
  d_Loutcome : DefIn K mg "_law_outcome" sOut
  d_Lfills : DefIn K mg "_law_fills" sFils
  d_Ltrades : DefIn K mg "_law_trades" sTr
  d_Lrest : DefIn K mg "_law_rest" sRest
  d_Lorders : DefIn K mg "_law_orders" sOrds
  d_Lopen : DefIn K mg "_law_open" sOpen
  d_Lis_shut : DefIn K mg "_law_is_shut" sShut
  d_Lnew_fills : DefIn K mg "_law_new_fills" sNew
  d_Lnew_row : DefIn K mg "_law_new_row" sRow
  d_Lrandom_rows : DefIn K mg "_law_random_rows" sRrs
  d_Lrandom_record : DefIn K mg "_law_random_record" sRr
  d_Lfixed_records : DefIn K mg "_law_fixed_records" sFix
  d_Lseen_row : DefIn K mg "_law_seen_row" s_srow
  d_Lseen : DefIn K mg "_law_seen" s_lseen
  d_Lmembers : DefIn K mg "_law_members" s_Lmembers
  d_Lgroups : DefIn K mg "_law_groups" s_Lgroups
  d_Lgreat_records : DefIn K mg "_law_great_records" sGr
  d_law : DefIn K mg "law" sLaw
  d_views : DefInC K mg "_law_check_views" sCV cv
  d_others : DefInC K mg "_law_check_others" sCO co
  ecsM : ∃ C, K5M.Ecs K mg C
  ecsU : ∃ C, K5U.Ecs K mg C
theorem law_run {w : World} {P : Program} {K : PySem.W.Frag} {mg : Str → Option Value} (base : Heap) (f : Addr) (cdv : Value) (s : Shared) (H : Hp) (cs : List Int) {cv co TV TO : Addr} (d : D5 K mg cv co) (tbO : LamX.TabB base mg co TO) (tbV : LamX.TabB base mg cv TV) (hl : cs.length ≤ 63) :
    Xss (cxOf CX0 P w K mg base NLaw "law" (defScope sLaw) f cdv PySem.callerA [] s H E0).nox (defBody sLaw) (start0 NLaw [.d (.list (cs.map PyData.int))]) [(TO, .tab lqCO), (TV, .tab lqCV)] (fun _ _ => False) (fun y _ => y = .d (.bool true)) := by
  obtain ⟨_, _, F0, m0⟩ := d.d_is_integer
  obtain ⟨_, _, F1, m1⟩ := d.d_is_number
  obtain ⟨_, _, F2, m2⟩ := d.d_is_rule
  obtain ⟨_, _, F3, m3⟩ := d.d_row_fills
  obtain ⟨_, _, F4, m4⟩ := d.d_members_of
  obtain ⟨_, _, F5, m5⟩ := d.d_orders_of
  obtain ⟨_, _, F6, m6⟩ := d.d_seen
  obtain ⟨_, _, F7, m7⟩ := d.d_row_seen
  obtain ⟨_, _, F8, m8⟩ := d.d_with_rule
  obtain ⟨_, _, F9, m9⟩ := d.d_cut
  obtain ⟨_, _, F10, m10⟩ := d.d_Lreader
  obtain ⟨_, _, F11, m11⟩ := d.d_Ldraw
  obtain ⟨_, _, F12, m12⟩ := d.d_Lclass_flags
  obtain ⟨_, _, F13, m13⟩ := d.d_Lown_flags
  obtain ⟨_, _, F14, m14⟩ := d.d_Lfields
  obtain ⟨_, _, F16, m16⟩ := d.d_Lfills
  obtain ⟨_, _, F17, m17⟩ := d.d_Ltrades
  obtain ⟨_, _, F18, m18⟩ := d.d_Lrest
  obtain ⟨_, _, F19, m19⟩ := d.d_Lorders
  obtain ⟨_, _, F20, m20⟩ := d.d_Lopen
  obtain ⟨_, _, F21, m21⟩ := d.d_Lis_shut
  obtain ⟨_, _, F22, m22⟩ := d.d_Lnew_fills
  obtain ⟨_, _, F23, m23⟩ := d.d_Lnew_row
  obtain ⟨_, _, F24, m24⟩ := d.d_Lrandom_rows
  obtain ⟨_, _, F25, m25⟩ := d.d_Lrandom_record
  obtain ⟨_, _, F26, m26⟩ := d.d_Lfixed_records
  obtain ⟨_, _, F27, m27⟩ := d.d_Lseen_row
  obtain ⟨_, _, F28, m28⟩ := d.d_Lseen
  obtain ⟨_, _, F29, m29⟩ := d.d_Lmembers
  obtain ⟨_, _, F30, m30⟩ := d.d_Lgroups
  obtain ⟨_, _, F31, m31⟩ := d.d_Lgreat_records
  obtain ⟨CM, EM⟩ := d.ecsM
  obtain ⟨CU, EU⟩ := d.ecsU
  have Y := d.by_
  have B := Y.bn
  have ii := f_is_integer (P := P) (w := w) (base := base) F0 m0 Y
  have inum := f_is_number F1 m1 Y ii
  have isr := f_is_rule (P := P) (w := w) (base := base) F2 m2 Y d.gR
  have rf := f_row_fills (P := P) (w := w) (base := base) F3 m3 Y
  have mem := f_members_of (P := P) (w := w) (base := base) F4 m4 Y d.so
  have oof := f_orders_of (P := P) (w := w) (base := base) F5 m5 Y
  have rsn := f_row_seen F7 m7 Y rf
  have sn := f_seen F6 m6 Y EM.um mem oof rsn
  have wr := f_with F8 m8 Y EU.nu isr
  have ct := f_cut F9 m9 Y EU.nu inum
  have rdr := f_rdr (P := P) (w := w) (base := base) F10 m10 B
  have draw := f_draw (P := P) (w := w) (base := base) F11 m11 B
  have flgM := K5M.f_flg (P := P) (w := w) (base := base) F12 m12 EM
  have ownM := K5M.f_own (P := P) (w := w) (base := base) F13 m13 Y
  have fldM := K5M.f_fld (P := P) (w := w) (base := base) F14 m14 EM
  have flgU := K5U.f_flg (P := P) (w := w) (base := base) F12 m12 EU
  have ownU := K5U.f_own (P := P) (w := w) (base := base) F13 m13 Y
  have fldU := K5U.f_fld (P := P) (w := w) (base := base) F14 m14 EU
  have fils := f_fils (P := P) (w := w) (base := base) F16 m16
  have tr := f_tr F17 m17 B fils
  have rest := f_rest F18 m18 B tr
  have ords := f_ords (P := P) (w := w) (base := base) F19 m19 B
  have open' := f_open F20 m20 B tr ords
  have shut := f_shut (P := P) (w := w) (base := base) F21 m21 B
  have new := f_new F22 m22 B draw open' rest
  have row := f_row F23 m23 B draw shut open' rest new
  have rrs := f_rrs F24 m24 B draw row
  have rr := f_rr F25 m25 B draw rrs
  have fix := f_fix (P := P) (w := w) (base := base) F26 m26
  have gr := f_great F31 m31 draw
  have srow := f_srow F27 m27 Y fils
  have ls := f_lseen F28 m28 Y srow
  have lm := f_Lmembers (P := P) (w := w) (base := base) F29 m29 Y d.so d.se
  have lg := f_Lgroups (P := P) (w := w) (base := base) F30 m30 Y
  have cv := f_cv d.d_views tbV Y lm lg ls sn EM flgM ownM fldM d.d_Loutcome
  have co := f_co d.d_others tbO Y wr ct EU flgU ownU fldU d.d_Loutcome
  exact RS.imp (law_body Y ⟨rfl, by show 1 + PySem.claimMargin + 1 + 3 * 8 + 5 < recursionLimit; decide, by show 4 + 3 + 16 * 8 + 200 < cLine; decide⟩ rfl rdr fix rr gr cv co hl (Φ := fun y _ => y = .d (.bool true)) fun _ => rfl) fun _ _ z => nomatch z
end K5

set_option Elab.async false
set_option linter.all false
set_option maxRecDepth 100000
open PySem PySem.W PyProof.Rows
set_option maxHeartbeats 0 in
theorem PySem.Challenge.cw_fairshown_k05_views_rules_and_beginnings_holds : PySem.Challenge.rw_fairshown_k05_views_rules_and_beginnings.Holds := by
  w_on; o_law; k_head; (case hw => w_witness2)
  k_fill
  refine Fsh.law_endT2 (l := PySem.Challenge.rw_fairshown_k05_views_rules_and_beginnings) (n := 63) (k := 8) (x := "_law_script") (st := K5.sLaw) (N := K5.NLaw) (P1 := 429) (P2 := 422) (c1 := ?co) (c2 := ?cv) (lq1 := K5.lqCO) (lq2 := K5.lqCV) (by decide) rfl (by decide) rfl K5.scLaw ⟨rfl, by decide, by decide⟩ (fun w h Y => PySem.W.km_in_of Y) (fun w h Y => PySem.W.km_tabs_of Y _ List.mem_cons_self) (fun w h Y => PySem.W.km_tabs_of Y _ (List.mem_cons_of_mem _ List.mem_cons_self)) (fun w => ?nt1) (fun w => ?nt2) (fun w h KX => PySem.W.codeHd_of_K KX ?ch1) (fun w h KX => PySem.W.codeHd_of_K KX ?ch2) (fun K f fd F1 => F1.binds fun _ _ _ _ _ _ us hl => match us, hl with | [_], _ => rfl) (fun K mg => K5.D5 K mg ?cv ?co) ?defs (fun K mg d => d.d_law) (fun w K mg base f cdv s H cs d tbO tbV hl => K5.law_run base f cdv s H cs d tbO tbV hl)
  case nt1 => first | rfl | kernel_rfl | exact (by decide +kernel)
  case nt2 => first | rfl | kernel_rfl | exact (by decide +kernel)
  case defs =>
    intro w mg h KX G
    constructor
    case by_ => exact ⟨⟨PySem.W.mg_none_of KX G (by k_is), PySem.W.mg_none_of KX G (by k_is), PySem.W.mg_none_of KX G (by k_is), PySem.W.mg_none_of KX G (by k_is), PySem.W.mg_none_of KX G (by k_is), PySem.W.mg_none_of KX G (by k_is), PySem.W.mg_none_of KX G (by k_is), PySem.W.mg_none_of KX G (by k_is), PySem.W.mg_none_of KX G (by k_is)⟩, PySem.W.mg_none_of KX G (by k_is), PySem.W.mg_none_of KX G (by k_is), PySem.W.mg_none_of KX G (by k_is), PySem.W.mg_none_of KX G (by k_is), PySem.W.mg_none_of KX G (by k_is)⟩
    case so => exact PySem.W.mg_none_of KX G (by k_is)
    case se => exact PySem.W.mg_none_of KX G (by k_is)
    case gR =>
      refine' Fsh.gl_strs (l := K5.ruleL) KX G ?z1 ?z2 ?z3 ?z4 ?z5 ?z6
      (case z1 => k_is); (case z2 => k_is); (case z3 => (first | rfl | k_is)); (case z4 => (first | rfl | k_is)); (case z5 => (first | decide | k_is)); (case z6 => (first | rfl | kernel_rfl | k_is))
    case d_is_integer =>
      refine' Fsh.def_mk KX G ?y1 ?y2 ?y3 ?y4
      (case y1 => k_is); (case y2 => k_is); (case y3 => k_is); (case y4 => k_is)
    case d_is_number =>
      refine' Fsh.def_mk KX G ?y1 ?y2 ?y3 ?y4
      (case y1 => k_is); (case y2 => k_is); (case y3 => k_is); (case y4 => k_is)
    case d_is_rule =>
      refine' Fsh.def_mk KX G ?y1 ?y2 ?y3 ?y4
      (case y1 => k_is); (case y2 => k_is); (case y3 => k_is); (case y4 => k_is)
    case d_row_fills =>
      refine' Fsh.def_mk KX G ?y1 ?y2 ?y3 ?y4
      (case y1 => k_is); (case y2 => k_is); (case y3 => k_is); (case y4 => k_is)
    case d_members_of =>
      refine' Fsh.def_mk KX G ?y1 ?y2 ?y3 ?y4
      (case y1 => k_is); (case y2 => k_is); (case y3 => k_is); (case y4 => k_is)
    case d_orders_of =>
      refine' Fsh.def_mk KX G ?y1 ?y2 ?y3 ?y4
      (case y1 => k_is); (case y2 => k_is); (case y3 => k_is); (case y4 => k_is)
    case d_seen =>
      refine' Fsh.def_mk KX G ?y1 ?y2 ?y3 ?y4
      (case y1 => k_is); (case y2 => k_is); (case y3 => k_is); (case y4 => k_is)
    case d_row_seen =>
      refine' Fsh.def_mk KX G ?y1 ?y2 ?y3 ?y4
      (case y1 => k_is); (case y2 => k_is); (case y3 => k_is); (case y4 => k_is)
    case d_with_rule =>
      refine' Fsh.def_mk KX G ?y1 ?y2 ?y3 ?y4
      (case y1 => k_is); (case y2 => k_is); (case y3 => k_is); (case y4 => k_is)
    case d_cut =>
      refine' Fsh.def_mk KX G ?y1 ?y2 ?y3 ?y4
      (case y1 => k_is); (case y2 => k_is); (case y3 => k_is); (case y4 => k_is)
    case d_Lreader =>
      refine' Fsh.def_mk KX G ?y1 ?y2 ?y3 ?y4
      (case y1 => k_is); (case y2 => k_is); (case y3 => k_is); (case y4 => k_is)
    case d_Ldraw =>
      refine' Fsh.def_mk KX G ?y1 ?y2 ?y3 ?y4
      (case y1 => k_is); (case y2 => k_is); (case y3 => k_is); (case y4 => k_is)
    case d_Lclass_flags =>
      refine' Fsh.def_mk KX G ?y1 ?y2 ?y3 ?y4
      (case y1 => k_is); (case y2 => k_is); (case y3 => k_is); (case y4 => k_is)
    case d_Lown_flags =>
      refine' Fsh.def_mk KX G ?y1 ?y2 ?y3 ?y4
      (case y1 => k_is); (case y2 => k_is); (case y3 => k_is); (case y4 => k_is)
    case d_Lfields =>
      refine' Fsh.def_mk KX G ?y1 ?y2 ?y3 ?y4
      (case y1 => k_is); (case y2 => k_is); (case y3 => k_is); (case y4 => k_is)
    case d_Loutcome =>
      refine' Fsh.def_mk KX G ?y1 ?y2 ?y3 ?y4
      (case y1 => k_is); (case y2 => k_is); (case y3 => k_is); (case y4 => k_is)
    case d_Lfills =>
      refine' Fsh.def_mk KX G ?y1 ?y2 ?y3 ?y4
      (case y1 => k_is); (case y2 => k_is); (case y3 => k_is); (case y4 => k_is)
    case d_Ltrades =>
      refine' Fsh.def_mk KX G ?y1 ?y2 ?y3 ?y4
      (case y1 => k_is); (case y2 => k_is); (case y3 => k_is); (case y4 => k_is)
    case d_Lrest =>
      refine' Fsh.def_mk KX G ?y1 ?y2 ?y3 ?y4
      (case y1 => k_is); (case y2 => k_is); (case y3 => k_is); (case y4 => k_is)
    case d_Lorders =>
      refine' Fsh.def_mk KX G ?y1 ?y2 ?y3 ?y4
      (case y1 => k_is); (case y2 => k_is); (case y3 => k_is); (case y4 => k_is)
    case d_Lopen =>
      refine' Fsh.def_mk KX G ?y1 ?y2 ?y3 ?y4
      (case y1 => k_is); (case y2 => k_is); (case y3 => k_is); (case y4 => k_is)
    case d_Lis_shut =>
      refine' Fsh.def_mk KX G ?y1 ?y2 ?y3 ?y4
      (case y1 => k_is); (case y2 => k_is); (case y3 => k_is); (case y4 => k_is)
    case d_Lnew_fills =>
      refine' Fsh.def_mk KX G ?y1 ?y2 ?y3 ?y4
      (case y1 => k_is); (case y2 => k_is); (case y3 => k_is); (case y4 => k_is)
    case d_Lnew_row =>
      refine' Fsh.def_mk KX G ?y1 ?y2 ?y3 ?y4
      (case y1 => k_is); (case y2 => k_is); (case y3 => k_is); (case y4 => k_is)
    case d_Lrandom_rows =>
      refine' Fsh.def_mk KX G ?y1 ?y2 ?y3 ?y4
      (case y1 => k_is); (case y2 => k_is); (case y3 => k_is); (case y4 => k_is)
    case d_Lrandom_record =>
      refine' Fsh.def_mk KX G ?y1 ?y2 ?y3 ?y4
      (case y1 => k_is); (case y2 => k_is); (case y3 => k_is); (case y4 => k_is)
    case d_Lfixed_records =>
      refine' Fsh.def_mk KX G ?y1 ?y2 ?y3 ?y4
      (case y1 => k_is); (case y2 => k_is); (case y3 => k_is); (case y4 => k_is)
    case d_Lseen_row =>
      refine' Fsh.def_mk KX G ?y1 ?y2 ?y3 ?y4
      (case y1 => k_is); (case y2 => k_is); (case y3 => k_is); (case y4 => k_is)
    case d_Lseen =>
      refine' Fsh.def_mk KX G ?y1 ?y2 ?y3 ?y4
      (case y1 => k_is); (case y2 => k_is); (case y3 => k_is); (case y4 => k_is)
    case d_Lmembers =>
      refine' Fsh.def_mk KX G ?y1 ?y2 ?y3 ?y4
      (case y1 => k_is); (case y2 => k_is); (case y3 => k_is); (case y4 => k_is)
    case d_Lgroups =>
      refine' Fsh.def_mk KX G ?y1 ?y2 ?y3 ?y4
      (case y1 => k_is); (case y2 => k_is); (case y3 => k_is); (case y4 => k_is)
    case d_Lgreat_records =>
      refine' Fsh.def_mk KX G ?y1 ?y2 ?y3 ?y4
      (case y1 => k_is); (case y2 => k_is); (case y3 => k_is); (case y4 => k_is)
    case d_law =>
      refine' Fsh.def_mk KX G ?y1 ?y2 ?y3 ?y4
      (case y1 => k_is); (case y2 => k_is); (case y3 => k_is); (case y4 => k_is)
    case d_views =>
      refine' Fsh.defC_mk KX G ?y1 ?y2 ?y3 ?y4
      (case y1 => k_is); (case y2 => k_is); (case y3 => k_is); (case y4 => k_is)
    case d_others =>
      refine' Fsh.defC_mk KX G ?y1 ?y2 ?y3 ?y4
      (case y1 => k_is); (case y2 => k_is); (case y3 => k_is); (case y4 => k_is)
    case ecsM =>
      refine' ⟨_, ⟨⟨PySem.W.mg_of KX G ?a, Fsh.xcf_ox ?lC ?rv ?sa ?exC ?tyC ?kC, ⟨?e1, ?e2, ?e3, ?e4, ?e5, ?e6, ?e7, ?e8, ?e9⟩, ?no, ⟨_, PySem.W.mg_of KX G ?b, ⟨?b1, ?b2, ?b3⟩⟩, Fsh.xcf_ini ?i1 ?i2 ?i3 ?i4 ?i5⟩, Fsh.cls_mk KX G ?t0 ?u0, Fsh.cls_mk KX G ?t1 ?u1, Fsh.cls_mk KX G ?t2 ?u2, Fsh.cls_mk KX G ?t3 ?u3, Fsh.cls_mk KX G ?t4 ?u4, Fsh.cls_mk KX G ?t5 ?u5, Fsh.cls_mk KX G ?t6 ?u6, Fsh.cls_mk KX G ?t7 ?u7, Fsh.cls_mk KX G ?t8 ?u8, Fsh.cls_mk KX G ?t9 ?u9, Fsh.cls_mk KX G ?t10 ?u10, Fsh.cls_mk KX G ?t11 ?u11, Fsh.cls_mk KX G ?t12 ?u12, ?ve, ?nve, ?nis, Fsh.exm_mk KX G ?se ?ex⟩⟩
      (case a => k_is); (case lC => k_is); (case rv => (first | decide +kernel | k_is)); (case sa => k_is); (case exC => k_is); (case tyC => k_is); (case kC => k_is)
      (case e1 => (first | kernel_rfl | rfl)); (case e2 => k_is); (case e3 => k_is); (case e4 => k_is); (case e5 => k_is); (case e6 => k_is); (case e7 => k_is); (case e8 => k_is); (case e9 => k_is)
      (case no => k_is); (case b => k_is); (case b1 => k_is); (case b2 => k_is); (case b3 => k_is); (case i1 => k_is); (case i2 => k_is); (case i3 => k_is); (case i4 => k_is); (case i5 => k_is)
      (case t0 => k_is); (case u0 => (first | kit_is | kernel_rfl))
      (case t1 => k_is); (case u1 => (first | kit_is | kernel_rfl))
      (case t2 => k_is); (case u2 => (first | kit_is | kernel_rfl))
      (case t3 => k_is); (case u3 => (first | kit_is | kernel_rfl))
      (case t4 => k_is); (case u4 => (first | kit_is | kernel_rfl))
      (case t5 => k_is); (case u5 => (first | kit_is | kernel_rfl))
      (case t6 => k_is); (case u6 => (first | kit_is | kernel_rfl))
      (case t7 => k_is); (case u7 => (first | kit_is | kernel_rfl))
      (case t8 => k_is); (case u8 => (first | kit_is | kernel_rfl))
      (case t9 => k_is); (case u9 => (first | kit_is | kernel_rfl))
      (case t10 => k_is); (case u10 => (first | kit_is | kernel_rfl))
      (case t11 => k_is); (case u11 => (first | kit_is | kernel_rfl))
      (case t12 => k_is); (case u12 => (first | kit_is | kernel_rfl))
      (case ve => (first | kit_is | kernel_rfl)); (case nve => exact PySem.W.mg_none_of KX G (by k_is)); (case nis => exact PySem.W.mg_none_of KX G (by k_is)); (case se => k_is); (case ex => (first | k_is | kernel_rfl))
    case ecsU =>
      refine' ⟨_, ⟨⟨PySem.W.mg_of KX G ?a, Fsh.xcf_ox ?lC ?rv ?sa ?exC ?tyC ?kC, ⟨?e1, ?e2, ?e3, ?e4, ?e5, ?e6, ?e7, ?e8, ?e9⟩, ?no, ?no2, ⟨_, PySem.W.mg_of KX G ?b, ⟨?b1, ?b2, ?b3⟩⟩, Fsh.xcf_ini ?i1 ?i2 ?i3 ?i4 ?i5⟩, Fsh.cls_mk KX G ?t0 ?u0, Fsh.cls_mk KX G ?t1 ?u1, Fsh.cls_mk KX G ?t2 ?u2, Fsh.cls_mk KX G ?t3 ?u3, Fsh.cls_mk KX G ?t4 ?u4, Fsh.cls_mk KX G ?t5 ?u5, Fsh.cls_mk KX G ?t6 ?u6, Fsh.cls_mk KX G ?t7 ?u7, Fsh.cls_mk KX G ?t8 ?u8, Fsh.cls_mk KX G ?t9 ?u9, Fsh.cls_mk KX G ?t10 ?u10, Fsh.cls_mk KX G ?t11 ?u11, Fsh.cls_mk KX G ?t12 ?u12, ?ve, ?nve, ?nis, Fsh.exm_mk KX G ?se ?ex⟩⟩
      (case a => k_is); (case lC => k_is); (case rv => (first | decide +kernel | k_is)); (case sa => k_is); (case exC => k_is); (case tyC => k_is); (case kC => k_is)
      (case e1 => (first | kernel_rfl | rfl)); (case e2 => k_is); (case e3 => k_is); (case e4 => k_is); (case e5 => k_is); (case e6 => k_is); (case e7 => k_is); (case e8 => k_is); (case e9 => k_is)
      (case no => k_is); (case no2 => k_is); (case b => k_is); (case b1 => k_is); (case b2 => k_is); (case b3 => k_is); (case i1 => k_is); (case i2 => k_is); (case i3 => k_is); (case i4 => k_is); (case i5 => k_is)
      (case t0 => k_is); (case u0 => (first | kit_is | kernel_rfl))
      (case t1 => k_is); (case u1 => (first | kit_is | kernel_rfl))
      (case t2 => k_is); (case u2 => (first | kit_is | kernel_rfl))
      (case t3 => k_is); (case u3 => (first | kit_is | kernel_rfl))
      (case t4 => k_is); (case u4 => (first | kit_is | kernel_rfl))
      (case t5 => k_is); (case u5 => (first | kit_is | kernel_rfl))
      (case t6 => k_is); (case u6 => (first | kit_is | kernel_rfl))
      (case t7 => k_is); (case u7 => (first | kit_is | kernel_rfl))
      (case t8 => k_is); (case u8 => (first | kit_is | kernel_rfl))
      (case t9 => k_is); (case u9 => (first | kit_is | kernel_rfl))
      (case t10 => k_is); (case u10 => (first | kit_is | kernel_rfl))
      (case t11 => k_is); (case u11 => (first | kit_is | kernel_rfl))
      (case t12 => k_is); (case u12 => (first | kit_is | kernel_rfl))
      (case ve => (first | kit_is | kernel_rfl)); (case nve => exact PySem.W.mg_none_of KX G (by k_is)); (case nis => exact PySem.W.mg_none_of KX G (by k_is)); (case se => k_is); (case ex => (first | k_is | kernel_rfl))
  case ch1 => (first | kernel_rfl | rfl)
  case ch2 => (first | kernel_rfl | rfl)

