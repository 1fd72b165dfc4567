import PyProof.Rows.All
import Wide.All
import OpenK.AllK
import Wide.FinOn
import HandS.ForMost
import HandS.IsInst
import HandS.TupAny
import HandS.Strs
import HandS.OwnEq
import HandS.Flow
import HandS.Evl
import HandS.Zip0
import HandS.Walk
import PyProof.Draws
import PyProof.EnumMake
import HandS.Exc
import HandS.ExcIs
import HandS.ExcField
import HandS.ExcInit
import HandS.Small
import HandS.Defaults
import HandS.MakeKwOnly
import HandS.ExcOwn
import HandS.WordsExc
import PySem.Challenge.RW_firstmet_k00_errors
/-! ## FmBase -/
set_option Elab.async false
set_option maxRecDepth 100000
/-! What all of our laws share: how a def of the text is called, heaps that grow, the bag of the drawn numbers. -/
namespace Fm
open PySem L2
/-! ### calls -/
/-- the module's name x is a def that keeps the promise sp -/
structure Df (P : Program) (w : World) (K : PySem.W.Frag) (mg : Str → Option Value) (base : Heap) (x : Str) (k : Nat) (ps : List Str) (sp : Sp) : Prop where
  ex : ∃ (f : Addr) (fd : FuncData), FnOk P w K mg base CX0 k f fd ps sp ∧ mg x = some (.ref f) ∧ PySem.W.keepIn K (.ref f) = true ∧ Binds K fd ps []
/-- the method m of the class at C -/
structure Dm (P : Program) (w : World) (K : PySem.W.Frag) (mg : Str → Option Value) (base : Heap) (C : Addr) (m : Str) (k : Nat) (ps : List Str) (sp : Sp) : Prop where
  ex : ∃ (f : Addr) (fd : FuncData), FnOk P w K mg base CX0 k f fd ps sp ∧ Meth K C m f ∧ Binds K fd ps []
/-- the class at C, by its __init__ -/
structure Dc (P : Program) (w : World) (K : PySem.W.Frag) (mg : Str → Option Value) (base : Heap) (x : Str) (C : Addr) (k : Nat) (ps : List Str) (sp : Sp) : Prop where
  ex : ∃ (f : Addr) (fd : FuncData), FnOk P w K mg base CX0 k f fd ps sp ∧ mg x = some (.ref C) ∧ Mk K C f ∧ Binds K fd ps []
section
variable {X : Cx} {k : Nat} {ps : List Str} {sp : Sp} {x m : Str} {e o : Expr} {es : List Expr} {t : TA} {to : TE} {C : Addr} {p apos pos : Pos}
theorem pe_d (D : Df X.prog X.w X.K X.mg X.base x k ps sp) (hr : Room k X.A) (ha : PA X (e :: es) t) (hg : Gl X x := by rfl) (hdb : (x == ("__debug__" : Str)) = false := by decide)
    (he : starEach (e :: es) X.env = (false, eval e X.env) :: starEach es X.env := by rfl) (hpl : (backTo pos (starEach es X.env)).any (·.1) = false := by rfl) : PE X (.Call (.Name x p) (e :: es) [] pos) (tCall sp [] E0 t) := by
  obtain ⟨f, fd, F, hm, hk, hb⟩ := D.ex
  exact pe_call F hr hg hm hk hb .nil pass0 ha hdb he hpl
theorem pe_dc (D : Dc X.prog X.w X.K X.mg X.base x C k ps sp) (hr : Room (k + 1) X.A) (ha : PA X (e :: es) t) (hg : Gl X x := by rfl) (hdb : (x == ("__debug__" : Str)) = false := by decide)
    (he : starEach (e :: es) X.env = (false, eval e X.env) :: starEach es X.env := by rfl) (hpl : (backTo pos (starEach es X.env)).any (·.1) = false := by rfl) : PE X (.Call (.Name x p) (e :: es) [] pos) (tMake C sp [] E0 t) := by
  obtain ⟨f, fd, F, hm, M, hb⟩ := D.ex
  exact pe_make M F hr hg hm hb .nil pass0 ha hdb he hpl
theorem pe_dm {pl : Sem Bool} (he : PE X o to) (c : Cls X.K C) (D : Dm X.prog X.w X.K X.mg X.base C m k ps sp) (hr : Room k X.A) (ha : PA X (e :: es) t)
    (hst : starEach (e :: es) X.env = (false, eval e X.env) :: starEach es X.env := by rfl) (hpl : (backTo pos (starEach es X.env)).any (·.1) = false := by rfl)
    (ht : eval (.Call (.Attribute o m apos) (e :: es) [] pos) X.env = (do
      let ov ← eval o X.env
      standAt apos.atName
      let (f, first) ← holding [ov] (getMethod ov m pl)
      callWith pos f first (backTo pos (starEach (e :: es) X.env)) (backToKw pos (keywordEach [] X.env))) := by rfl) : PE X (.Call (.Attribute o m apos) (e :: es) [] pos) (tMeth C m sp [] E0 to t) := by
  obtain ⟨f, fd, F, hm, hb⟩ := D.ex
  exact pe_meth he c hm F hr hb .nil pass0 ha hst hpl ht
end
section
variable {X : Cx} {x : Str} {pos : Pos}
theorem pe_gI {n : Int} (h : ∃ t, X.mg x = some (.int n t)) (hg : Gl X x := by rfl) (hd : (x == ("__debug__" : Str)) = false := by decide) : PE X (.Name x pos) (tC (.int n)) := by
  obtain ⟨t, e⟩ := h
  exact pe_glob hg e ⟨t, rfl⟩ hd
theorem pe_gS {z : Str} (h : ∃ t, X.mg x = some (.str z t)) (hg : Gl X x := by rfl) (hd : (x == ("__debug__" : Str)) = false := by decide) : PE X (.Name x pos) (tC (.str z)) := by
  obtain ⟨t, e⟩ := h
  exact pe_glob hg e ⟨t, rfl⟩ hd
end
/-! ### tests -/
theorem ifd {p A B : Prop} [Decidable p] (h1 : p → A) (h2 : ¬ p → B) : if decide p = true then A else B := by
  by_cases h : p
  · rw [if_pos (decide_eq_true h)]
    exact h1 h
  · rw [if_neg (by rw [decide_eq_false h]; exact Bool.false_ne_true)]
    exact h2 h
theorem ifn {p A B : Prop} [Decidable p] (h1 : ¬ p → A) (h2 : p → B) : if (!decide p) = true then A else B := by
  by_cases h : p
  · rw [if_neg (by rw [decide_eq_true h]; exact Bool.false_ne_true)]
    exact h2 h
  · rw [if_pos (by rw [decide_eq_false h]; rfl)]
    exact h1 h
theorem intV {i j : Int} (h : V.int i = V.int j) : i = j := V.int.inj h
/-! ### heaps that grow: F is the part that is spoken of, the rest of H stays -/
structure Grow (F H F' H' : Hp) : Prop where
  ff : Same F F'
  fh : Same F' H'
  hh : ∀ a o, F a = none → H a = some o → F' a = none ∧ H' a = some o
theorem Grow.refl {F H : Hp} (s : Same F H) : Grow F H F H := ⟨Same.refl _, s, fun _ _ a b => ⟨a, b⟩⟩
theorem Grow.same {F H F' H' : Hp} (s : Same F H) (g : Grow F H F' H') : Same H H' := fun a o e => by
  cases q : F a with
  | none => exact (g.hh a o q e).2
  | some u =>
    have z := s a u q
    rw [e] at z
    cases z
    exact g.fh _ _ (g.ff _ _ q)
theorem Grow.trans {F H F1 H1 F2 H2 : Hp} (a : Grow F H F1 H1) (b : Grow F1 H1 F2 H2) : Grow F H F2 H2 :=
  ⟨a.ff.trans b.ff, b.fh, fun c o h1 h2 => let ⟨z1, z2⟩ := a.hh c o h1 h2; b.hh c o z1 z2⟩
theorem same_upd {F H : Hp} (s : Same F H) (p : Addr) (o : HO) : Same (upd F p o) (upd H p o) := fun a u e => by
  by_cases h : a = p
  · subst h
    rw [upd_same] at e ⊢
    exact e
  · rw [upd_ne h] at e ⊢
    exact s a u e
theorem Grow.new {F H : Hp} (s : Same F H) {p : Addr} (o : HO) (hp : H p = none) : Grow F H (upd F p o) (upd H p o) :=
  ⟨fun a u e => by rw [upd_ne (ne_of_none e (s.free hp))]; exact e, same_upd s p o, fun a u e1 e2 => by
    have n := ne_of_none e2 hp
    rw [upd_ne n, upd_ne n]
    exact ⟨e1, e2⟩⟩
theorem same_upd1 {F H : Hp} (s : Same F H) {p : Addr} (o : HO) (hp : H p = none) : Same F (L2.upd H p o) := fun a u e => by
  rw [upd_ne (ne_of_none (s a u e) hp)]
  exact s a u e
theorem same_new {H : Hp} {p : Addr} (o : HO) (hp : H p = none) : Same H (upd H p o) := same_upd1 (Same.refl H) o hp
theorem same_put {H H' : Hp} (s : Same H H') {D : Addr} (o : HO) (hD : H D = none) : Same H (upd H' D o) := fun a u e => by
  have n : a ≠ D := ne_of_none e hD
  rw [upd_ne n]
  exact s a u e
theorem map_take {α β : Type} {xs : List α} {i : Nat} {c : α} (f : α → β) (h : xs[i]? = some c) : (xs.take (i + 1)).map f = (xs.take i).map f ++ [f c] := by
  rw [List.take_add_one, h, List.map_append]
  rfl
theorem take_lt {α β : Type} {xs : List α} {i : Nat} (f : α → β) (h : xs.length ≤ 100000) : ((xs.take i).map f).length < sizeLine := by
  rw [List.length_map, List.length_take]
  exact Nat.lt_of_le_of_lt (Nat.le_trans (Nat.min_le_right _ _) h) (by decide)
/-! ### the bag -/
structure Bag (F H : Hp) (b : Addr) : Prop where
  fh : Same F H
  fb : F b = none
  ex : ∃ (cl : Addr) (ns : List Int) (p g s c h : Int), F cl = none ∧ cl ≠ b ∧ H cl = some (.lst (ns.map V.int)) ∧ H b = some (.lst [.ref cl, .int p, .int g, .int s, .int c, .int h]) ∧ 0 ≤ p ∧ 0 ≤ g ∧ 0 ≤ s ∧ s < 2147483647
theorem Bag.grow {F H F' H' : Hp} {b : Addr} (B : Bag F H b) (g : Grow F H F' H') : Bag F' H' b := by
  obtain ⟨s, fb, cl, ns, p, gg, z, c, h, e1, e2, e3, e4, r⟩ := B
  obtain ⟨z1, z2⟩ := g.hh _ _ e1 e3
  obtain ⟨y1, y2⟩ := g.hh _ _ fb e4
  exact ⟨g.fh, y1, cl, ns, p, gg, z, c, h, z1, e2, z2, y2, r⟩
theorem Bag.new {F H : Hp} {b p : Addr} (B : Bag F H b) (o : HO) (hp : H p = none) : Bag (upd F p o) (upd H p o) b := B.grow (Grow.new B.fh o hp)
theorem Bag.put {F H : Hp} {b l : Addr} {o : HO} (B : Bag F H b) (o' : HO) (hl : F l = some o) : Bag (upd F l o') (upd H l o') b := by
  obtain ⟨s, fb, cl, ns, p, g, z, c, h, e1, e2, e3, e4, r⟩ := B
  have n1 : b ≠ l := fun q => by rw [q, hl] at fb; cases fb
  have n2 : cl ≠ l := fun q => by rw [q, hl] at e1; cases e1
  exact ⟨same_upd s l o', by rw [upd_ne n1]; exact fb, cl, ns, p, g, z, c, h, by rw [upd_ne n2]; exact e1, e2, by rw [upd_ne n2]; exact e3, by rw [upd_ne n1]; exact e4, r⟩
theorem Bag.ne {F H : Hp} {b l : Addr} {o : HO} (B : Bag F H b) (hl : F l = some o) : l ≠ b := fun q => by
  have z := B.fb
  rw [← q, hl] at z
  cases z
/-- what _law_pick(bag, many) gives: some number below many -/
def spPick : Sp := fun vs H Q _ => ∃ (F : Hp) (b : Addr) (m : Int), vs = [.ref b, .int m] ∧ 0 < m ∧ m < 1073741824 ∧ Bag F H b ∧ ∀ (r : Int) (H' : Hp), 0 ≤ r → r < m → Bag F H' b → Q (.int r) H'
theorem fmod_lo {a m : Int} (h : 0 < m) : 0 ≤ a.fmod m := Int.fmod_nonneg_of_pos a h
theorem fmod_hi {a m : Int} (h : 0 < m) : a.fmod m < m := Int.fmod_lt_of_pos a h
theorem fmod64 (x : Int) {m : Int} (h : 0 < m) (h2 : m < 4294967296) : -(2 ^ 64) < x.fmod m ∧ x.fmod m < 2 ^ 64 := by
  have a := fmod_lo (a := x) h
  have b := fmod_hi (a := x) h
  omega
theorem fdiv_lo {a m : Int} (ha : 0 ≤ a) (h : 0 < m) : 0 ≤ a.fdiv m := by
  rw [Int.fdiv_eq_ediv_of_nonneg _ (Int.le_of_lt h)]
  exact Int.ediv_nonneg ha (Int.le_of_lt h)
theorem fdiv_hi {a m : Int} (ha : 0 ≤ a) (h : 0 < m) : a.fdiv m ≤ a := by
  rw [Int.fdiv_eq_ediv_of_nonneg _ (Int.le_of_lt h)]
  exact Int.ediv_le_self _ ha
end Fm

/-! ## FmIter -/
set_option Elab.async false
set_option maxRecDepth 100000
set_option maxHeartbeats 4000000
/-! Walks over what may be a list or a tuple; enumerate of a tuple. -/
namespace Fm
open PySem L2 PySem.Spec PyProof.Rows
open PySem.SeqAt
open MeetsSeq MeetsSeq2 MeetsSeq3 SeqRoads2
theorem draws_tuple {prog : Program} {w : World} {A : Around} (hh : A.handled = none) (it l : Addr) (hne : l ≠ it) (items : Array Value) :
    Draws prog w A it [it, l] items.size (fun i v => items[i]? = some v) (fun i h => h.IsTupleIter it l i ∧ h.IsTuple l items) where
  live := fun _ _ z => let ⟨o, ho, _⟩ := z.1; ⟨o, ho⟩
  frame := fun _ _ _ z k => ⟨z.1.at fun o e => k it (by simp) o e, let ⟨o, ho, r⟩ := z.2; ⟨o, k l (by simp) o ho, r⟩⟩
  item := fun i s Q E hi z q => RZ.nextOf_tuple_item z.1 z.2 (x := items[i]) (by simp [hi]) fun h' it' sb => q _ h' s.toks (by simp [hi]) ⟨it', let ⟨o, ho, r⟩ := z.2; ⟨o, (sb.2 l hne).trans ho, r⟩⟩ sb
  done := fun s Q E z q => RZ.nextOf_tuple_end hh z.1 z.2 (by simp) q
theorem meets_enum_tuple (l : Addr) (items : Array Value) (n : Nat) (dct : Option Addr) (sl : Array (Option Value)) :
    Meets (Builtin.«enumerate.__new__» ⟨[.type "enumerate", .ref l], []⟩) (fun _ R s => s.heap.get? l = some { cls := .type "tuple", dict := dct, data := .seq items n, slots := sl } ∧
      R (.ok (.ret (.ref (s.heap.push { cls := .type "tuple_iterator", data := .fields #[.ref l, .int 0 0] }).objs.size)))
        { s with heap := (s.heap.push { cls := .type "tuple_iterator", data := .fields #[.ref l, .int 0 0] }).push { cls := .type "enumerate", data := .fields #[.none, .bool false, .ref s.heap.objs.size, rawInt 0, .none, .none] } }) :=
  .of_wp fun prog w A R s h => by
    obtain ⟨hp, g, d, tk, os⟩ := s
    obtain ⟨hl, h⟩ := h
    have sub := sub_enumerate
    have tup : Heap.IsTuple (Shared.heap ⟨hp, g, d, tk, os⟩) l items := ⟨_, hl, rfl, n, rfl⟩
    wp_walk using AutoSeq1.wpAny_loadPart' hl
    refine wpAny_stack_any fun st => wpAny_pure ?_
    split
    · rename_i c _ _ _ _ _
      cases (c == Value.type "enumerate") <;>
        (wp_walk using AutoSeq1.wpAny_loadPart' hl, wpAny_pyIter_tuple tup; exact ⟨_, rfl, h⟩)
    · wp_walk using AutoSeq1.wpAny_loadPart' hl, wpAny_pyIter_tuple tup
      exact ⟨_, rfl, h⟩
section
variable {prog : Program} {w : World} {A : Around} {E : Value → Shared → Prop} {s : Shared}
theorem call_enum_tuple {l : Addr} {items : Array Value} {Q : Value → Shared → Prop} (ht : s.heap.IsTuple l items)
    (k : ∀ h', IsEnum h' (s.heap.objs.size + 1) s.heap.objs.size 0 .none → h'.IsTupleIter s.heap.objs.size l 0 → (∀ b o, s.heap.get? b = some o → h'.get? b = some o) → Q (.ref (s.heap.objs.size + 1)) { s with heap := h' }) :
    wpAny (model prog w) A (call (.type "enumerate") [.ref l]) Q E s := by
  obtain ⟨⟨c, dct, dt, sl⟩, hl, hc, n, hd⟩ := ht
  simp only at hc hd
  subst hc hd
  refine callType_new F.called_enumerate (by decide) (F.typeCall_enumerate_1 _) (F.newCall_enumerate_1 _) (fun ob => F.args_object_init_2 ob _) F.entry_enumerate_new (meets_enum_tuple l items n dct sl) ⟨hl, ?_⟩
  have sz : (s.heap.push { cls := .type "tuple_iterator", data := .fields #[.ref l, .int 0 0] }).objs.size = s.heap.objs.size + 1 := Heap.size_push ..
  show _ ∧ _
  have he := Heap.get?_push_size (s.heap.push { cls := .type "tuple_iterator", data := .fields #[.ref l, .int 0 0] }) (o := { cls := .type "enumerate", data := .fields #[.none, .bool false, .ref s.heap.objs.size, rawInt 0, .none, .none] }) rfl
  rw [sz] at he ⊢
  exact ⟨⟨_, he, rfl⟩, k _ he ⟨_, Heap.get?_push_of_some _ (Heap.get?_push_size _ rfl), rfl, rfl⟩ fun b o x => Heap.get?_push_of_some _ (Heap.get?_push_of_some _ x)⟩
end
/-- the tuple at a, its items in new pairs with their numbers -/
def Iet (K : PySem.W.Frag) (a : Addr) : It :=
  ⟨fun i H => ∃ xs x, SqT K H a xs ∧ xs[i]? = some x, fun i H v H' => ∃ T x, v = .ref T ∧ H T = none ∧ H' = upd H T (.tup [.int (i : Nat), x]) ∧ ∀ xs, SqT K H a xs → xs[i]? = some x, fun i H => ∃ xs, SqT K H a xs ∧ xs.length ≤ i⟩
theorem turn_et {P : Program} {w : World} {K : PySem.W.Frag} {elts : List Expr} {kk : Nat} {tpos : Pos} (a e it : Addr) (hai : a ≠ it) (hae : e ≠ a) :
    Turn P w K (.Tuple elts kk tpos) (Iet K a) [e, it] e (fun i h => (∃ old, IsEnum h e it ((i : Nat) : Int) old) ∧ h.IsTupleIter it a i ∧ e ≠ it) where
  mem := List.mem_cons_self
  obj := fun i h st b hb => by
    obtain ⟨⟨old, he⟩, ⟨o, ho, hc, hd⟩, _⟩ := st
    rcases List.mem_cons.mp hb with z | z
    · rw [z]
      exact ⟨_, he, fun v q => nomatch q⟩
    · rw [List.mem_singleton.mp z]
      exact ⟨o, ho, fun v q => by rw [hd] at q; cases q⟩
  keep := fun i h h' st k => by
    obtain ⟨⟨old, he⟩, hi, hne⟩ := st
    exact ⟨⟨old, k e (by simp) _ he⟩, hi.at fun o q => k it (by simp) o q, hne⟩
  item := by
    intro X hP hw hK hc i pins s σ H E I hf st hg
    subst hP hw hK
    obtain ⟨⟨old, he⟩, hit, hne⟩ := st
    obtain ⟨xs, x, hq, hx⟩ := hg
    obtain ⟨its, rv, tp, hz⟩ := I.tuple hq
    obtain ⟨u, hu, ru⟩ := rv.get hx
    have el : e < s.heap.objs.size := Heap.lt_size he
    have il : it < s.heap.objs.size := by
      obtain ⟨_, q, _⟩ := hit
      exact Heap.lt_size q
    have lt : i < its.toArray.size := by
      rw [List.size_toArray]
      exact (List.getElem?_eq_some_iff.mp hu).1
    have out : e ∉ [it, a] := by
      intro z
      rcases List.mem_cons.mp z with z | z
      · exact hne z
      · exact hae (List.mem_singleton.mp z)
    refine wpAny_pyNext_enum_itemD (draws_tuple (by show X.A.in1.handled = none; simpa using I.ok.hd hc) it a hai its.toArray) he ⟨hit, tp⟩ lt hne out fun y h' tk py ho hst' hT hsz hk => ?_
    obtain rfl : u = y := by
      have z : its.toArray[i]? = some u := by simpa using hu
      rw [z] at py
      exact Option.some.inj py
    refine ⟨_, rfl, wpAny_letOwnedTupleGo_enum (s := { s with heap := h', toks := tk + 1 }) ho fun h2 he2 sb => ?_⟩
    have hT2 : h2.get? s.heap.objs.size = some { cls := .type "tuple", data := .seq #[.int i tk, u] } := (sb.2 _ (Nat.ne_of_gt el)).trans hT
    have new : ObjOk X.prog X.w (upd H s.heap.objs.size (.tup [.int (i : Nat), x])) h2 s.heap.objs.size (.tup [.int (i : Nat), x]) :=
      ⟨by show 2 ≤ sizeLine; decide, [.int i tk, u], .cons ⟨_, rfl⟩ (.cons ru .nil), ⟨_, hT2, rfl, _, rfl⟩⟩
    have I1 : Inv X pins σ (upd H s.heap.objs.size (.tup [.int (i : Nat), x])) { s with heap := h2, toks := tk + 1 } :=
      I.turnedNew (ch := [e, it]) (fun b ob hb q => (sb.2 b (fun z => hb (by simp [z]))).trans (hk b ob (fun z => hb (by simp [z])) (fun z => hb (by simp [z])) q)) hf (Nat.le_refl _) new
    refine ⟨.ref s.heap.objs.size, _, I1, rfl, ⟨_, x, rfl, I.hok.fresh (Nat.le_refl _), rfl, fun ys hy => by rw [I.tuple_inj hy hq]; exact hx⟩, ⟨⟨u, ?_⟩, hst'.1.at fun o q => (sb.2 it (Ne.symm hne)).trans q, hne⟩, fun b hb => ?_⟩
    · rw [show ((i + 1 : Nat) : Int) = (i : Int) + 1 from rfl]
      exact he2
    · have lt' : b < s.heap.objs.size := by
        rcases List.mem_cons.mp hb with z | z
        · rw [z]; exact el
        · rw [List.mem_singleton.mp z]; exact il
      rw [upd_ne (Nat.ne_of_lt lt')]
      exact (hf b hb).1
  done := by
    intro X hP hw hK hc i pins s σ H E I hf st hg
    subst hP hw hK
    obtain ⟨⟨old, he⟩, hit, hne⟩ := st
    obtain ⟨xs, hq, hx⟩ := hg
    obtain ⟨its, rv, tp, hz⟩ := I.tuple hq
    obtain ⟨f0, f1, f2, f3, f4, f5⟩ := hf it (by simp)
    have len := rv.length
    have hh : X.A.in1.handled = none := by simpa using I.ok.hd hc
    have hT : s.TypeIs (.ref e) "enumerate" := ⟨_, he, rfl⟩
    unfold pyNext
    refine wpAny_bind (wpAny_attempt (wpAny_callSpecial?_slot (name := Str.ofString "__next__") hT F.slot_enumerate_next (wpAny_call_entry F.slot_enumerate_next hT F.entry_enumerate_next ?_ (F.args_enumerate_next_1 _))))
    show wpAny _ _ (field (.ref e) 2 >>= _) _ _ _
    refine wpAny_bind (wpAny_field he rfl (x := .ref it) rfl ?_)
    refine wpAny_bind (RZ.nextOf_tuple_end hh hit tp (by simp; omega) fun h' x he' hx' => ?_)
    obtain ⟨o, ho, hc'⟩ := hx'
    refine wpAny_bind (wpAny_isInstance (T := "StopIteration") (b := true) ⟨o, ho, hc'⟩ isSubtype_stop ?_)
    exact wpAny_pure ⟨rfl, I.turned (t' := s.toks) (fun b o hb q => he' b o hb q) f0 f1 f3 f4 f5⟩
  self := fun A i s Q E st h => let ⟨⟨_, he⟩, _⟩ := st; wpAny_pyIter_enum he h
theorem walk_et {K : PySem.W.Frag} {a : Addr} {xs : List V} : Walk (Iet K a) xs.length (fun H => SqT K H a xs) (YPair (fun i => some (.int (i : Nat))) (fun i => xs[i]?)) := by
  refine ⟨fun i _ hi q => ⟨xs, xs[i], q, by simp [hi]⟩, fun _ q => ⟨xs, q, Nat.le_refl _⟩, fun i H v H' _ q y => ?_⟩
  obtain ⟨T, x, h1, h2, h3, h4⟩ := y
  exact ⟨T, .int (i : Nat), x, h1, h2, h3, rfl, h4 xs q⟩
section
variable {X : Cx} {tg l : Expr} {tl : TE}
/-- the walk of a list or of a tuple, whichever it is -/
def SeqGo (K : PySem.W.Frag) (H : Hp) (a : Addr) (xs : List V) (R : It → Hp → Prop) : Prop := (SqL K H a xs ∧ R (Itl K a) H) ∨ (SqT K H a xs ∧ R (Itt K a) H)
def EnumGo (K : PySem.W.Frag) (H : Hp) (a : Addr) (xs : List V) (R : It → Hp → Prop) : Prop := (SqL K H a xs ∧ R (Ite K a) H) ∨ (SqT K H a xs ∧ R (Iet K a) H)
/-- over a list or a tuple -/
def iAny (K : PySem.W.Frag) (tl : TE) : TI := fun σ H R => tl σ H fun x H1 => ∃ (a : Addr) (xs : List V), x = .ref a ∧ SeqGo K H1 a xs R
theorem pi_any (hl : PE X l tl) : PI X tg l (iAny X.K tl) := by
  refine ⟨fun pins s σ H R I h => thn (hl.run pins s σ H _ I h) fun v s1 ⟨x, H1, I1, r1, a, xs, ex, q⟩ => ?_⟩
  subst ex
  cases r1
  have free : ∀ b ∈ [s1.heap.objs.size], b = s1.heap.objs.size := fun b hb => List.mem_singleton.mp hb
  rcases q with ⟨hq, q⟩ | ⟨hq, q⟩
  · obtain ⟨its, rv, lp, hz⟩ := I1.list hq
    refine wpAny_pyIter_list lp.isList ⟨s1.heap.objs.size, [s1.heap.objs.size], _, _, H1, rfl, I1.kept (t' := s1.toks) fun b o e => Heap.get?_push_of_some _ e, turn_list a _, ⟨_, Heap.get?_push_size _ rfl, rfl, rfl⟩, fun b hb => ?_, q⟩
    rw [free b hb]
    exact I1.fpOk (Nat.le_refl _) (I1.hok.fresh (Nat.le_refl _))
  · obtain ⟨its, rv, tp, hz⟩ := I1.tuple hq
    refine wpAny_pyIter_tuple (show s1.heap.IsTuple a its.toArray from tp) ⟨s1.heap.objs.size, [s1.heap.objs.size], _, _, H1, rfl, I1.kept (t' := s1.toks) fun b o e => Heap.get?_push_of_some _ e, turn_tuple a _, ⟨_, Heap.get?_push_size _ rfl, rfl, rfl⟩, fun b hb => ?_, q⟩
    rw [free b hb]
    exact I1.fpOk (Nat.le_refl _) (I1.hok.fresh (Nat.le_refl _))
theorem any_of {K : PySem.W.Frag} {H0 H : Hp} {a : Addr} {xs : List V} {R : It → Hp → Prop} (h : SqL K H0 a xs ∨ SqT K H0 a xs) (s : Same H0 H)
    (go : ∀ (J : It) (G : Hp → Prop), (∀ H', Same H0 H' → G H') → Walk J xs.length G (YAt xs) → R J H) : SeqGo K H a xs R := by
  rcases h with h | h
  · exact .inl ⟨s.seq h, go _ _ (fun H' s => s.seq h) walk_list⟩
  · exact .inr ⟨SqT.ext h s, go _ _ (fun H' s => SqT.ext h s) walk_tup⟩
theorem enum_of {K : PySem.W.Frag} {H0 H : Hp} {a : Addr} {xs : List V} {R : It → Hp → Prop} (h : SqL K H0 a xs ∨ SqT K H0 a xs) (s : Same H0 H)
    (go : ∀ (J : It) (G : Hp → Prop), (∀ H', Same H0 H' → G H') → Walk J xs.length G (YPair (fun i => some (.int (i : Nat))) (fun i => xs[i]?)) → R J H) : EnumGo K H a xs R := by
  rcases h with h | h
  · exact .inl ⟨s.seq h, go _ _ (fun H' s => s.seq h) walk_enum⟩
  · exact .inr ⟨SqT.ext h s, go _ _ (fun H' s => SqT.ext h s) walk_et⟩
/-- enumerate of a list or a tuple -/
def iEnumA (K : PySem.W.Frag) (ta : TA) : TI := fun σ H R => ta σ H fun vs H1 => ∃ (a : Addr) (xs : List V), vs = [.ref a] ∧ EnumGo K H1 a xs R
theorem pi_enumA {e : Expr} {ta : TA} {p pos tpos : Pos} {elts : List Expr} {kk : Nat} (hg : Gl X "enumerate") (hm : X.mg "enumerate" = none) (ha : PA X [e] ta) (hs : starEach [e] X.env = [(false, eval e X.env)] := by rfl) :
    PI X (.Tuple elts kk tpos) (.Call (.Name "enumerate" p) [e] [] pos) (iEnumA X.K ta) := by
  refine ⟨fun pins s σ H R I h => ?_⟩
  refine Call_ (ld_blt I hg hm boot_enumerate (PyProof.Rows.callWith_type1 (thn (ha.run pos pins s σ H _ I h) fun us s1 ⟨vs, H1, I1, r1, a, xs, ex, q⟩ => ?_) hs rfl))
  subst ex
  cases r1 with
  | cons r rr =>
    cases rr
    cases r
    have old : ∀ b ∈ [s1.heap.objs.size + 1, s1.heap.objs.size], s1.heap.objs.size ≤ b := fun b hb => by
      rcases List.mem_cons.mp hb with z | z
      · rw [z]; exact Nat.le_add_right _ _
      · rw [List.mem_singleton.mp z]; exact Nat.le_refl _
    rcases q with ⟨hq, q⟩ | ⟨hq, q⟩
    · obtain ⟨its, rv, lp, hz⟩ := I1.list hq
      refine call_enumerate_list lp.isList fun h' he hit hsz hk => wpAny_pyIter_enum he ?_
      exact ⟨s1.heap.objs.size + 1, [s1.heap.objs.size + 1, s1.heap.objs.size], _, _, H1, rfl, I1.kept (t' := s1.toks) hk, turn_enum a (s1.heap.objs.size + 1) s1.heap.objs.size, ⟨⟨.none, he⟩, hit, Nat.succ_ne_self _⟩, fun b hb => I1.fpOk (old b hb) (I1.hok.fresh (old b hb)), q⟩
    · obtain ⟨its, rv, tp, hz⟩ := I1.tuple hq
      have al : a < s1.heap.objs.size := by
        obtain ⟨o, ho, _⟩ := tp
        exact Heap.lt_size ho
      refine call_enum_tuple tp fun h' he hit hk => wpAny_pyIter_enum he ?_
      exact ⟨s1.heap.objs.size + 1, [s1.heap.objs.size + 1, s1.heap.objs.size], _, _, H1, rfl, I1.kept (t' := s1.toks) hk, turn_et a (s1.heap.objs.size + 1) s1.heap.objs.size (Nat.ne_of_lt al) (Nat.ne_of_gt (Nat.lt_succ_of_lt al)), ⟨⟨.none, he⟩, hit, Nat.succ_ne_self _⟩, fun b hb => I1.fpOk (old b hb) (I1.hok.fresh (old b hb)), q⟩
end
end Fm

/-! ## FmData -/
set_option Elab.async false
set_option maxRecDepth 100000
set_option maxHeartbeats 4000000
/-! Data as trees over heaps; names; what as_tuples makes of data. -/
namespace Fm
open PySem L2
section
variable {K : PySem.W.Frag} {H H' H1 H2 N M : Hp}
theorem same_sqT {a : Addr} {xs : List V} (e : Same H H') (h : SqT K H a xs) : SqT K H' a xs := by
  rcases h with (h | ⟨o, h⟩) | h
  · exact .inl (.inl (e _ _ h))
  · exact .inl (.inr ⟨o, e _ _ h⟩)
  · exact .inr h
mutual
theorem dp_mono (e : Same H H') : ∀ (d : PyData) (v : V), Dp K H v d → Dp K H' v d
  | .none, _, h => by cases h; exact .non
  | .bool b, _, h => by cases h; exact .bl b
  | .int i, _, h => by cases h; exact .int i
  | .str x, _, h => by cases h; exact .str x
  | .list ds, _, h => by
    cases h with
    | lst hs ha => exact .lst (e.seq hs) (dpA_mono e ds _ ha)
  | .tuple ds, _, h => by
    cases h with
    | tup hs ha => exact .tup (same_sqT e hs) (dpA_mono e ds _ ha)
  | .dict _, _, h => by cases h
theorem dpA_mono (e : Same H H') : ∀ (ds : List PyData) (vs : List V), DpAll K H vs ds → DpAll K H' vs ds
  | [], _, h => by cases h; exact .nil
  | d :: ds, _, h => by
    cases h with
    | cons h1 h2 => exact .cons (dp_mono e d _ h1) (dpA_mono e ds _ h2)
end
theorem dpA_len : ∀ {ds : List PyData} {vs : List V}, DpAll K H vs ds → vs.length = ds.length
  | [], _, h => by cases h; rfl
  | d :: ds, _, h => by
    cases h with
    | cons h1 h2 => rw [List.length_cons, List.length_cons, dpA_len h2]
theorem dpA_at : ∀ {ds : List PyData} {vs : List V} {i : Nat} {v : V}, DpAll K H vs ds → vs[i]? = some v → ∃ d, ds[i]? = some d ∧ Dp K H v d
  | [], _, i, v, h, e => by cases h; simp at e
  | d :: ds, _, 0, v, h, e => by
    cases h with
    | cons h1 h2 =>
      simp at e
      subst e
      exact ⟨d, rfl, h1⟩
  | d :: ds, _, i + 1, v, h, e => by
    cases h with
    | cons h1 h2 =>
      simp at e
      obtain ⟨z, q1, q2⟩ := dpA_at h2 e
      exact ⟨z, by simpa using q1, q2⟩
theorem dpA_snoc : ∀ {ds : List PyData} {vs : List V} {d : PyData} {v : V}, DpAll K H vs ds → Dp K H v d → DpAll K H (vs ++ [v]) (ds ++ [d])
  | [], _, d, v, h, q => by cases h; exact .cons q .nil
  | c :: ds, _, d, v, h, q => by
    cases h with
    | cons h1 h2 => exact .cons h1 (dpA_snoc h2 q)
theorem dpA_strs : ∀ (xs : List Str), DpAll K H (xs.map V.str) (xs.map PyData.str)
  | [] => .nil
  | x :: xs => .cons (.str x) (dpA_strs xs)
theorem dpA_strs_inv : ∀ {xs : List Str} {vs : List V}, DpAll K H vs (xs.map PyData.str) → vs = xs.map V.str
  | [], _, h => by cases h; rfl
  | x :: xs, _, h => by
    cases h with
    | cons h1 h2 =>
      cases h1
      rw [dpA_strs_inv h2]
      rfl
/-! ### what is new -/
/-- N holds things that are new behind H, as they stand in H' -/
def Fresh (H H' N : Hp) : Prop := ∀ a o, N a = some o → H a = none ∧ H' a = some o
def uni (N M : Hp) : Hp := fun a => match N a with
  | some o => some o
  | none => M a
def nil0 : Hp := fun _ => none
theorem fresh_nil : Fresh H H' nil0 := fun _ _ h => by cases h
theorem same_uni : Same N (uni N M) := fun a o h => by
  unfold uni
  rw [h]
theorem uni_or {a : Addr} {o : HO} (h : uni N M a = some o) : N a = some o ∨ (N a = none ∧ M a = some o) := by
  unfold uni at h
  cases q : N a with
  | some u =>
    rw [q] at h
    exact .inl h
  | none =>
    rw [q] at h
    exact .inr ⟨rfl, h⟩
theorem fresh_uni (f : Fresh H H1 N) (g : Fresh H1 H2 M) (s : Same H H1) (t : Same H1 H2) : Fresh H H2 (uni N M) := fun a o h => by
  rcases uni_or h with h | ⟨_, h⟩
  · exact ⟨(f a o h).1, t _ _ (f a o h).2⟩
  · exact ⟨s.free (g a o h).1, (g a o h).2⟩
theorem same_uni2 (f : Fresh H H1 N) (g : Fresh H1 H2 M) : Same M (uni N M) := fun a o h => by
  unfold uni
  cases q : N a with
  | none => exact h
  | some u =>
    have z := (f a u q).2
    rw [(g a o h).1] at z
    cases z
theorem fresh_back (s : Same H H1) (f : Fresh H1 H2 N) : Fresh H H2 N := fun a o h => ⟨s.free (f a o h).1, (f a o h).2⟩
theorem fresh_new (f : Fresh H H1 N) (s : Same H H1) {p : Addr} (o : HO) (hp : H1 p = none) : Fresh H (upd H1 p o) (upd N p o) := fun a u h => by
  by_cases e : a = p
  · subst e
    rw [upd_same] at h ⊢
    exact ⟨s.free hp, h⟩
  · rw [upd_ne e] at h ⊢
    exact f a u h
theorem same_freshNew (f : Fresh H H1 N) {p : Addr} (o : HO) (hp : H1 p = none) : Same N (upd N p o) := fun a u h => by
  have e : a ≠ p := fun z => by
    have q := (f a u h).2
    rw [z, hp] at q
    cases q
  rw [upd_ne e]
  exact h
/-- what is spoken of, and what is new, as one part of the heap -/
theorem grow_fresh {F : Hp} (s : Same F H) (t : Same H H') (f : Fresh H H' N) : Grow F H (uni F N) H' := by
  refine ⟨same_uni, fun a o h => ?_, fun a o h1 h2 => ⟨?_, t _ _ h2⟩⟩
  · rcases uni_or h with h | ⟨_, h⟩
    · exact t _ _ (s _ _ h)
    · exact (f a o h).2
  · unfold uni
    rw [h1]
    cases q : N a with
    | none => rfl
    | some u =>
      have z := (f a u q).1
      rw [h2] at z
      cases z
theorem same_grow {F : Hp} (s : Same F H) (f : Fresh H H' N) : Same N (uni F N) := fun a o h => by
  unfold uni
  cases q : F a with
  | none => exact h
  | some u =>
    have z := s a u q
    rw [(f a o h).1] at z
    cases z
theorem bag_same {F : Hp} {b : Addr} (B : Bag F H b) (t : Same H H') : Bag F H' b := by
  obtain ⟨s, fb, cl, ns, p, g, z, c, h, e1, e2, e3, e4, r⟩ := B
  exact ⟨s.trans t, fb, cl, ns, p, g, z, c, h, e1, e2, t _ _ e3, t _ _ e4, r⟩
end
/-! ### rows as tuples -/
mutual
def tupd : PyData → PyData
  | .list xs => .tuple (tupdL xs)
  | .tuple xs => .tuple (tupdL xs)
  | .none => .none
  | .bool b => .bool b
  | .int i => .int i
  | .str s => .str s
  | .dict kvs => .dict kvs
def tupdL : List PyData → List PyData
  | [] => []
  | d :: ds => tupd d :: tupdL ds
end
theorem tupdL_map : ∀ ds : List PyData, tupdL ds = ds.map tupd
  | [] => rfl
  | d :: ds => by
    show tupd d :: tupdL ds = tupd d :: ds.map tupd
    rw [tupdL_map ds]
/-- data of at most so many rows one in the other, none of them long -/
inductive Dn : Nat → PyData → Prop
  | none (n : Nat) : Dn (n + 1) .none
  | bool (n : Nat) (b : Bool) : Dn (n + 1) (.bool b)
  | int (n : Nat) (i : Int) : Dn (n + 1) (.int i)
  | str (n : Nat) (s : Str) : Dn (n + 1) (.str s)
  | list (n : Nat) (ds : List PyData) : (∀ d ∈ ds, Dn n d) → ds.length ≤ 100000 → Dn (n + 1) (.list ds)
  | tuple (n : Nat) (ds : List PyData) : (∀ d ∈ ds, Dn n d) → ds.length ≤ 100000 → Dn (n + 1) (.tuple ds)
theorem dn_strs {n : Nat} {xs : List Str} (h : xs.length ≤ 100000) : (∀ d ∈ xs.map PyData.str, Dn (n + 1) d) ∧ (xs.map PyData.str).length ≤ 100000 := by
  refine ⟨fun d m => ?_, by rw [List.length_map]; exact h⟩
  obtain ⟨x, _, rfl⟩ := List.mem_map.mp m
  exact .str n x
theorem bl_map {α : Type} (f : α → Bool) (xs : List α) : (xs.map fun c => V.bl (f c)) = (xs.map f).map V.bl := by
  rw [List.map_map]
  rfl
theorem flat_strs (xs : List Str) : (xs.map V.str).all flatV = true := by
  rw [List.all_map]
  exact List.all_eq_true.mpr fun _ _ => rfl
theorem inV_str (n : Str) (xs : List Str) : inV (.str n) (xs.map V.str) = decide (n ∈ xs) := by
  unfold inV
  rw [List.any_map]
  by_cases h : n ∈ xs
  · rw [decide_eq_true h]
    exact List.any_eq_true.mpr ⟨n, h, beq_self_eq_true n⟩
  · rw [decide_eq_false h]
    refine List.any_eq_false.mpr fun y m => ?_
    show ¬ (y == n) = true
    intro e
    rw [eq_of_beq e] at m
    exact h m
theorem nodup_take {α : Type} {l : List α} (hN : l.Nodup) {i : Nat} {x : α} (h : l[i]? = some x) : x ∉ l.take i := fun m => by
  obtain ⟨j, hj, e⟩ := List.getElem_of_mem m
  have q : l[j]? = some x := by
    rw [List.length_take] at hj
    rw [List.getElem_take] at e
    rw [← e]
    exact List.getElem?_eq_getElem _
  have z := nd_ix hN q h
  rw [List.length_take] at hj
  omega
/-! ### rules whose K is told, for the inside of a comprehension -/
section
variable {X : Cx} {K : PySem.W.Frag}
theorem ixK_seq (h : X.K = K := by rfl) : IxR X (rIx K) := by subst h; exact ix_seq
theorem ixK_list (h : X.K = K := by rfl) : IxR X (rIxL K) := by subst h; exact ix_list
theorem ixK_tup (h : X.K = K := by rfl) : IxR X (rIxT K) := by subst h; exact ix_tup
theorem cK_len_seq (h : X.K = K := by rfl) : CallR X (.builtin "len") (fun xs H Q => ∃ p ys, xs = [.ref p] ∧ (SqL K H p ys ∨ SqT K H p ys) ∧ Q (.int ys.length) H) := by subst h; exact call_len_seq
theorem cK_isi (h : X.K = K := by rfl) : CallR X (.builtin "isinstance") (rIsi K) := by subst h; exact call_isi
theorem cK_isiT (h : X.K = K := by rfl) : CallR X (.builtin "isinstance") (rIsiT K) := by subst h; exact call_isiT
theorem cK_list_of (h : X.K = K := by rfl) : CallR X (.type "list") (fun xs H Q => ∃ p ys, xs = [.ref p] ∧ (SqL K H p ys ∨ SqT K H p ys) ∧ ∀ l, H l = none → Q (.ref l) (upd H l (.lst ys))) := by subst h; exact call_list_of
theorem cK_tuple_of (h : X.K = K := by rfl) : CallR X (.type "tuple") (fun xs H Q => ∃ p ys, xs = [.ref p] ∧ ((SqL K H p ys ∧ ∀ l, H l = none → Q (.ref l) (upd H l (.tup ys))) ∨ (SqT K H p ys ∧ Q (.ref p) H))) := by subst h; exact call_tuple_of
end
/-! ### names -/
def isNm (s : Str) : Bool := decide (1 ≤ s.length) && decide (s.length ≤ 8) && s.cps.toList.all fun c => decide (97 ≤ c) && decide (c ≤ 122)
def letters : Str := "abcdefghijklmnopqrstuvwxyz"
theorem letters_list : letters.cps.toList = List.range' 97 26 := by decide +kernel
theorem letters_mem (c : Nat) : decide (c ∈ letters.cps.toList) = (decide (97 ≤ c) && decide (c ≤ 122)) := by
  rw [letters_list]
  by_cases h : c ∈ List.range' 97 26
  · rw [decide_eq_true h]
    have q := List.mem_range'_1.mp h
    simp
    omega
  · rw [decide_eq_false h]
    have q : ¬ (97 ≤ c ∧ c < 97 + 26) := fun z => h (List.mem_range'_1.mpr z)
    symm
    rw [← Bool.decide_and]
    exact decide_eq_false (by omega)
end Fm

/-! ## FmName -/
set_option Elab.async false
set_option maxRecDepth 100000
set_option maxHeartbeats 4000000
/-! Names that are drawn: letters put together, a letter behind a stem until it is new. -/
namespace Fm
open PySem L2
theorem bag_junk {F H : Hp} {b p : Addr} (B : Bag F H b) (o : HO) (hp : H p = none) : Bag F (upd H p o) b := bag_same B (same_new o hp)
theorem bag_sub {F F1 H : Hp} {b : Addr} (s : Same F F1) (B : Bag F1 H b) : Bag F H b := by
  obtain ⟨h, fb, cl, ns, p, g, z, c, hh, e1, r⟩ := B
  exact ⟨s.trans h, s.free fb, cl, ns, p, g, z, c, hh, s.free e1, r⟩
theorem at_mem {α : Type} {xs : List α} {r : Int} (h0 : 0 ≤ r) (h1 : r < (xs.length : Int)) : ∃ v, atI xs r = some v ∧ v ∈ xs := by
  obtain ⟨n, rfl⟩ : ∃ n : Nat, r = (n : Int) := ⟨r.toNat, by omega⟩
  have h : n < xs.length := by omega
  exact ⟨xs[n], atI_nat (List.getElem?_eq_getElem h), List.getElem_mem h⟩
theorem nodup_le {α : Type} [DecidableEq α] : ∀ {l m : List α}, l.Nodup → (∀ x ∈ l, x ∈ m) → l.length ≤ m.length
  | [], _, _, _ => Nat.zero_le _
  | x :: r, m, hN, hs => by
    have hx := hs x List.mem_cons_self
    have q := List.nodup_cons.mp hN
    have ih := nodup_le (l := r) (m := m.erase x) q.2 fun y hy => by
      have n : y ≠ x := fun z => q.1 (by rw [← z]; exact hy)
      exact (List.mem_erase_of_ne n).mpr (hs y (List.mem_cons_of_mem _ hy))
    rw [List.length_erase_of_mem hx] at ih
    have pos : 0 < m.length := List.length_pos_of_mem hx
    rw [List.length_cons]
    omega
abbrev one (c : Nat) : Str := ⟨#[c]⟩
def ofL (cs : List Nat) : Str := ⟨cs.toArray⟩
theorem isNm_ofL {cs : List Nat} (h1 : 1 ≤ cs.length) (h2 : cs.length ≤ 8) (h3 : ∀ c ∈ cs, 97 ≤ c ∧ c ≤ 122) : isNm (ofL cs) = true := by
  have l : (ofL cs).length = cs.length := by simp [ofL, Str.length]
  unfold isNm
  rw [l, decide_eq_true h1, decide_eq_true h2]
  show (cs.toArray.toList.all fun c => decide (97 ≤ c) && decide (c ≤ 122)) = true
  rw [List.all_eq_true]
  intro c m
  have q := h3 c (by simpa using m)
  simp [q.1, q.2]
theorem isNm_inv {s : Str} (h : isNm s = true) : 1 ≤ s.cps.toList.length ∧ s.cps.toList.length ≤ 8 ∧ ∀ c ∈ s.cps.toList, 97 ≤ c ∧ c ≤ 122 := by
  unfold isNm at h
  simp only [Bool.and_eq_true, List.all_eq_true, decide_eq_true_eq] at h
  have l : s.cps.toList.length = s.length := by simp [Str.length]
  rw [l]
  exact ⟨h.1.1, h.1.2, h.2⟩
theorem str_ext {s t : Str} (h : s.cps.toList = t.cps.toList) : s = t := by
  obtain ⟨a⟩ := s
  obtain ⟨b⟩ := t
  have e : a = b := Array.ext' h
  rw [e]
theorem ofL_of (s : Str) : ofL s.cps.toList = s := str_ext (by simp [ofL])
theorem joinL_nil : ∀ cs : List Nat, TL.joinL [] (cs.map fun c => [c]) = cs
  | [] => rfl
  | [_] => rfl
  | c :: d :: r => by
    show [c] ++ ([] ++ TL.joinL [] ((d :: r).map fun c => [c])) = c :: d :: r
    rw [joinL_nil (d :: r)]
    rfl
theorem join_one (cs : List Nat) : Txt.join "" (cs.map one) = ofL cs := by
  refine str_ext ?_
  have e := TL.tl_join "" (cs.map one)
  rw [List.map_map] at e
  rw [TL.join_eq]
  exact e.trans (joinL_nil cs)
theorem cutS_to (n : Str) (k : Nat) : cutS n none (some (k : Int)) = ofL (n.cps.toList.take k) := by
  have l : n.cps.toList.length = n.length := by simp [Str.length]
  unfold cutS
  rw [HT.sIx_none, HT.sIx_nat, List.drop_zero, Nat.sub_zero]
  show (⟨(n.cps.toList.take (min k n.length)).toArray⟩ : Str) = ⟨(n.cps.toList.take k).toArray⟩
  rw [← l, ← List.take_eq_take_min]
theorem cutV_to (xs : List V) (k : Nat) : cutV xs none (some (k : Int)) = xs.take k := by
  unfold cutV
  rw [HT.sIx_none, HT.sIx_nat, List.drop_zero, Nat.sub_zero, ← List.take_eq_take_min]
theorem add_one {l : List Nat} {c : Nat} : ofL l ++ one c = ofL (l ++ [c]) := by
  refine str_ext ?_
  show (l.toArray ++ #[c]).toList = _
  simp [ofL]
/-- the word of the turn i: first w itself, then its stem with one letter after another -/
def wd (w : Str) (st : List Nat) (i : Nat) : Str := if i = 0 then w else ofL (st ++ [96 + i])
theorem wd_inj {w : Str} {st : List Nat} {i j : Nat} (hi : i ≠ 0) (hj : j ≠ 0) (h : wd w st i = wd w st j) : i = j := by
  unfold wd at h
  rw [if_neg hi, if_neg hj] at h
  have q : (st ++ [96 + i]).toArray = (st ++ [96 + j]).toArray := congrArg Str.cps h
  have q2 : st ++ [96 + i] = st ++ [96 + j] := by simpa using q
  have q3 := List.append_cancel_left q2
  injection q3 with q4 _
  omega
theorem wd_nm {w : Str} (h : isNm w = true) (i : Nat) (hi : i ≤ 26) : isNm (wd w (w.cps.toList.take 7) i) = true := by
  obtain ⟨h1, h2, h3⟩ := isNm_inv h
  unfold wd
  by_cases e : i = 0
  · rw [if_pos e]
    exact h
  · rw [if_neg e]
    refine isNm_ofL (by simp) ?_ fun c m => ?_
    · rw [List.length_append, List.length_take, List.length_singleton]
      omega
    · rcases List.mem_append.mp m with m | m
      · exact h3 c (List.mem_of_mem_take m)
      · rw [List.mem_singleton.mp m]
        omega
theorem wd_few {w : Str} {st : List Nat} {tk : List Str} {n : Nat} (h : ∀ j, j < n → wd w st j ∈ tk) : n ≤ tk.length + 1 := by
  have q := nodup_le (l := (List.range (n - 1)).map fun j => wd w st (j + 1)) (m := tk) ?_ ?_
  · rw [List.length_map, List.length_range] at q
    omega
  · refine List.Pairwise.map _ (R := (· ≠ ·)) (fun a b hab e => hab ?_) List.nodup_range
    have z := wd_inj (Nat.succ_ne_zero a) (Nat.succ_ne_zero b) e
    omega
  · intro x m
    obtain ⟨j, hj, rfl⟩ := List.mem_map.mp m
    have z := List.mem_range.mp hj
    exact h (j + 1) (by omega)
end Fm

/-! ## FmExc -/
set_option Elab.async false
set_option maxRecDepth 100000
set_option maxHeartbeats 4000000
/-! Own errors that hold a field: isinstance of a caught one, its field, raised by keyword, raised without arguments. -/
namespace Fm
open PySem PySem.Spec PySem.Calls PyProof.Rows
section
variable {prog : Program} {w : World} {A : Around} {E : Value → Shared → Prop} {s : Shared} {K : PySem.W.Frag} {x D : Addr} {ox : Obj} {od : Option Obj}
theorem find_data {a g : Value} {nm : Str} (hc : (PySem.W.clsIn K D).isSome = true) (h1 : PySem.W.findIn K (.ref D) nm = some (some a)) (h2 : PySem.W.specialIn K a "__get__" = some (some g)) (h3 : PySem.W.takesIn K a = some true) :
    PySem.W.findObj K D od nm = some (.bind g a) := by
  cases e : PySem.W.clsIn K D with
  | none => rw [e] at hc; cases hc
  | some cd => unfold PySem.W.findObj; simp [e, h1, h2, h3]
/-- e.__class__ of an error, with a dict or without -/
theorem err_class {Q : Option Value → Shared → Prop} (C : L2.ExcC K D) (X : K.In s.heap) (I : PySem.W.InstAt s.heap x ox D od) (h : Q (some (.ref D)) { s with toks := s.toks + 1 }) : wpAny (model prog w) A (getAttr? (.ref x) "__class__") Q E s := by
  have ff : PySem.W.findObj K D od "__class__" = some (.bind (.builtin "getset_descriptor.__get__") (.builtin "object.__class__")) := find_data (by obtain ⟨cd, e, _⟩ := PySem.W.any_some C.hd; rw [e]; rfl) C.ha C.hn C.ht
  obtain ⟨hp, g, d, t, os⟩ := s
  have l0 := I.type (M := model prog w)
  have l1 := PySem.W.looks_findIn (M := model prog w) X C.hg
  have l2 := PySem.W.looks_findIn (M := model prog w) X C.hk
  have l3 := PySem.W.looks_find (M := model prog w) X I ff
  have ln : PySem.W.Looks (model prog w) hp (isInstance (.ref x) (.type "BaseException")) true := l0.andThen (PySem.W.looks_subIn X C.hs)
  have n2 : (Value.builtin "BaseException.__getattribute__" == Value.builtin "object.__getattribute__") = false := by decide +kernel
  have n1 : (onTheHeap (Value.ref D) && (Value.builtin "BaseException.__getattribute__" == Value.builtin "object.__getattribute__")) = false := by rw [n2]; rfl
  have n0 : (false && onTheHeap (Value.builtin "BaseException.__getattribute__")) = false := rfl
  unfold getAttr?; unfold getAttrBy?; unfold getAttrBy
  refine wpAny_bind (wpAny_mkText ?_); refine wpAny_bind (wpAny_attempt (wpAny_holding ?_)); refine wpAny_bind (l0.at ?_); refine wpAny_bind (l1.at ?_)
  show wpAny (model prog w) _ (if (onTheHeap (Value.ref D) && (Value.builtin "BaseException.__getattribute__" == Value.builtin "object.__getattribute__")) = true then _ else _) _ _ _
  rw [n1, if_neg Bool.false_ne_true]; unfold getAttrByItsOwn; unfold hookBefore
  refine wpAny_bind ?_; rw [if_pos (show onTheHeap (Value.ref D) = true from rfl)]; refine l2.at ?_
  refine wpAny_bind (wpAny_attempt (wpAny_holding ?_)); unfold callGetattribute; rw [n0, if_neg Bool.false_ne_true]; unfold boundAndCalled
  rw [PySem.F.excAttr_ValueError.ga.bind (.ref x)]; refine wpAny_bind (wpAny_pure ?_)
  show wpAny (model prog w) _ (call (.builtin "BaseException.__getattribute__") [.ref x, .str "__class__" t]) _ _ _
  refine wpAny_call (codeAny_call_builtin PySem.F.excAttr_ValueError.ga.plain PySem.F.entry_bexc_ga ?_)
  refine @PySem.W.check_slot (model prog w) _ _ ⟨hp, g, d, t + 1, os⟩ "BaseException.__getattribute__" "BaseException" "__getattribute__" (.ref x) [.str "__class__" t] [] _ (by decide +kernel) (by decide +kernel) ln (PySem.F.args_bexc_ga (.ref x) (.str "__class__" t)) ?_
  unfold Builtin.«object.__getattribute__»
  refine wpAny_bind (wpAny_of_eq (a := ((Value.ref x : Value), [Value.str "__class__" t])) (by first | rfl | (simp only [slotArgs]; rfl)) ?_)
  refine wpAny_bind (wpAny_pure ?_); refine wpAny_bind (l0.at ?_); refine wpAny_bind (l3.at ?_)
  show wpAny (model prog w) _ (holding [Value.builtin "object.__class__"] (call (.builtin "getset_descriptor.__get__") [.builtin "object.__class__", .ref x, .ref D]) >>= ret) _ _ _
  refine wpAny_bind (wpAny_holding (wpAny_call (PySem.W.class_get (s := ⟨hp, g, d, t + 1, os⟩) (ox := ox) (od := od) X I C.hm ?_)))
  refine wpAny_pure ?_
  show wpAny (model prog w) _ (handedOut (.ref D)) _ _ _
  rw [PySem.W.handedOut_of (v := .ref D) rfl]
  first | exact wpAny_pure (wpAny_pure h) | exact wpAny_pure h | exact wpAny_pure (wpAny_bind (wpAny_pure (wpAny_pure h)))
theorem err_kit (C : L2.ExcC K D) : PySem.W.KitX K (.ref x) (.ref D) (fun h => ∃ od, PySem.W.InstAt h x ox D od) where
  ty := fun _ _ _ ⟨_, I⟩ => I.type
  it := fun _ _ X _ => by
    obtain ⟨cd, e, _⟩ := PySem.W.any_some C.hd
    unfold PySem.W.clsIn at e
    split at e
    · rename_i o1 o2 o3 o4 ho
      intro A' Q' E' s' k q
      unfold isType; unfold loadHead
      exact wpAny_bind (wpAny_loadPart (k _ _ (X _ _ ho)) (wpAny_pure q))
    · cases e
  ne := fun h tp dd its n sl X htp => by
    obtain ⟨cd, e, _⟩ := PySem.W.any_some C.hd
    refine Bool.eq_false_iff.mpr fun q => ?_
    cases Value.ref.inj (beq_iff_eq.mp q)
    unfold PySem.W.clsIn at e
    split at e
    · rename_i o1 o2 o3 o4 ho
      cases (X _ _ ho).symm.trans htp
    · cases e
  ca := fun X ⟨_, I⟩ k => err_class C X I k
end
section
open L2
variable {X : Cx}
theorem inst_err {H : Hp} {s : Shared} {a D : Addr} {oe : Obj} {d : Option Addr} (hget : s.heap.get? a = some oe) (hok : HOk X.prog X.w H s.heap) (hz : Zc (.ref D) d oe) (hf : ∃ vs, oe.data = .fields vs) (hd : ∀ dd, d = some dd → ∃ fs, H dd = some (.xd fs)) :
    ∃ od, PySem.W.InstAt s.heap a oe D od := by
  obtain ⟨vs, hv⟩ := hf
  have nc : PySem.W.notCls oe = true := by unfold PySem.W.notCls; rw [hv] <;> rfl
  cases d with
  | none => exact ⟨none, hget, hz.1, nc, by rw [hz.2]; trivial⟩
  | some dd =>
    obtain ⟨fs, e⟩ := hd dd rfl
    have z : ObjOk X.prog X.w H s.heap dd (.xd fs) := hok dd _ e
    obtain ⟨mA, hns, _⟩ := z
    obtain ⟨od, ho, _⟩ := lookIn_ns hns
    exact ⟨some od, hget, hz.1, nc, by rw [hz.2]; exact ho⟩
/-- isinstance(e, c), e the error that the suite holds: its class and its dict as they come -/
def rIsF (K : PySem.W.Frag) (a : Addr) (cls : Value) (d : Option Addr) : List V → Hp → VK → Prop := fun xs H Q => ∃ (D : Addr) (c : V) (u : Value) (b : Bool), xs = [.ref a, c] ∧ cls = .ref D ∧ ExcC K D ∧ (∀ dd, d = some dd → ∃ fs, H dd = some (.xd fs)) ∧ ClsV c u ∧ PySem.W.kitOne K (.ref D) u = some b ∧ Q (.bl b) H
theorem call_isF {a : Addr} {cls : Value} {d : Option Addr} {oe : Obj} {pn : List (Addr × Obj)} (hz : Zc cls d oe) (hf : ∃ vs, oe.data = .fields vs) : CallR (X.suite a ((a, oe) :: pn)) (.builtin "isinstance") (rIsF X.K a cls d) := by
  intro pins s σ H xs us Q I r h
  obtain ⟨D, c, u, b, rfl, rfl, C, hd, hc, e, q⟩ := h
  obtain ⟨u1, u2, rfl, r1, r2⟩ := vals2 r
  have e2 := hc.eq r2
  subst e2
  cases (show u1 = Value.ref a from r1)
  obtain ⟨hg, _⟩ := I.pin (a, oe) (List.mem_append_left _ List.mem_cons_self)
  exact PySem.W.kia_one (err_kit C) I.kIn (inst_err hg I.hok hz hf hd) e (fun z => nomatch z) fun tk => ⟨.bl b, H, I.tok tk, rfl, q⟩
/-- e.f, e the error that the suite holds -/
def tXg (K : PySem.W.Frag) (a : Addr) (cls : Value) (d : Option Addr) (f : Str) (te : TE) : TE := fun σ H Q => te σ H fun x H1 => x = .ref a ∧ ∃ (C dd : Addr) (fs : List (Str × V)) (v : V), cls = .ref C ∧ XfC K C ∧ PySem.W.findIn K (.ref C) f = some none ∧ d = some dd ∧ H1 dd = some (.xd fs) ∧ fs.lookup f = some v ∧ Q v H1
theorem pe_xg {a : Addr} {oe : Obj} {cls : Value} {d : Option Addr} {pn : List (Addr × Obj)} {e : Expr} {te : TE} {pos : Pos} {n : Str} (hz : Zc cls d oe) (hf : ∃ vs, oe.data = .fields vs) (he : PE (X.suite a ((a, oe) :: pn)) e te)
    (hb : attributeBase e n X.env (eval e X.env) = eval e X.env := by rfl) : PE (X.suite a ((a, oe) :: pn)) (.Attribute e n pos) (tXg X.K a cls d n te) := by
  refine ⟨fun pins s σ H Q I h => attr_of hb (thn (he.run pins s σ H _ I h) fun u s1 hh => ?_)⟩
  obtain ⟨x, H1, I1, rx, rfl, C, dd, fs, v, rfl, T, hno, rfl, ea, l, q⟩ := hh
  cases (show u = Value.ref a from rx)
  obtain ⟨ha, _⟩ := I1.pin (a, oe) (List.mem_append_left _ List.mem_cons_self)
  obtain ⟨vs, hd⟩ := hf
  have z : ObjOk X.prog X.w H1 s1.heap dd (.xd fs) := I1.hok dd _ ea
  obtain ⟨mA, hns, hr⟩ := z
  obtain ⟨od, ho, hl⟩ := lookIn_ns hns
  obtain ⟨u, hu, ru⟩ := RelO.some_of (v := v) (o := mA n) (by rw [← l]; exact hr n)
  exact HandSPX.exc_get I1.kIn ⟨ha, hz.1, by unfold PySem.W.notCls; rw [hd] <;> rfl, by rw [hz.2]; exact ho⟩ T.ga T.gg T.exC (PySem.W.findObj_own T.hdC hno rfl (by rw [hl, hu])) (handed_of ru) ⟨v, H1, I1.tok _, ru, q⟩
theorem pmk_own0 {C : Addr} {bmB : List Value} {B newId initId : String} {x : Str} {p pos : Pos} (F : ExcBaseFacts B newId initId bmB) (q : PySem.W.excIn X.K C bmB newId = true) (gC : X.mg x = some (.ref C))
    (kC : PySem.W.keepIn X.K (.ref C) = true) (r : Raises X (.ref C)) (hg : Gl X x := by rfl) (hdb : (x == ("__debug__" : Str)) = false := by decide) : PMk X (.Call (.Name x p) [] [] pos) (fun _ H Q => Q (.ref C) none H) := by
  intro pins s σ H Q I h
  refine wpAny_Call_Name_kw (ld_glob I hg gC ?_ hdb)
  refine PySem.W.callWith_K0 I.kIn kC ?_
  obtain ⟨bm, N, nm, qn, bs, hdct, sn, sub, ab, col, dd, k0, k1, k2, k3, k5, mN, hC, hN, hni, T⟩ := exc_obj I.kIn q
  exact wpAny_call_exc_subT F T hC hN hni (fun h' e hm => mk_of I hm r h (I.hok.gone hm.new)) (Nat.zero_le _)
end
section
open PySem.HandSPX
variable {M : Model} {A : Around} {E : Value → Shared → Prop} {h : Heap} {g : Array GenState} {d : Drawn} {t : Nat} {os : OsState}
variable {nm q : Str} {C N : Addr} {bs bm bmB : List Value} {hdct : Bool} {sn : List Str} {sub : List Value} {ab : Bool} {col : Option Bool} {dd : Option Addr} {k0 k1 k2 k3 k5 : Option Value} {B newId initId : String}
theorem check_newK (F : ExcBaseFacts B newId initId bmB) (hT : ∀ X : String, bm.contains (.type X) = bmB.contains (.type X)) {kw : List (Str × Value)} {Q : Unit → Shared → Prop}
    (hC : h.get? C = some (excClassObj nm q C N bs bm hdct sn sub ab col dd k0 k1 k2 k3 k5 newId)) (hq : Q () ⟨h, g, d, t, os⟩) : wpAny M A (checkBuiltinCall newId ⟨[.ref C], kw⟩) Q E ⟨h, g, d, t, os⟩ := by
  have c1 : (Value.ref C :: bm).contains (.type B) = true := by rw [List.contains_cons, hT, F.hasB, Bool.or_true]
  have c2 := F.noStar
  simp only [checkBuiltinCall, F.newKind, F.newSplit, F.newRow]
  repeat (first
    | refine wpAny_loadPart_at hC ?_
    | (refine wpAny_isSubtype_exc hC ?_; rw [c1])
    | refine wpAny_staticBase_exc hC ?_
    | refine wpAny_madeBy_exc hC ?_
    | simp only [bne_self_eq_false, Bool.false_eq_true, if_false]
    | wp_step)
  exact hq
end
section
open PySem.HandSPX
variable {prog : Program} {w : World} {A : Around} {E : Value → Shared → Prop} {R : Result → Shared → Prop} {h : Heap} {g : Array GenState} {d : Drawn} {t : Nat} {os : OsState}
variable {nm q : Str} {C N : Addr} {bs bm bmB : List Value} {hdct : Bool} {sn : List Str} {sub : List Value} {ab : Bool} {col : Option Bool} {dd : Option Addr} {k0 k1 k2 k3 k5 : Option Value} {B newId initId : String}
theorem new_ownK (F : ExcBaseFacts B newId initId bmB) (hT : ∀ X : String, bm.contains (.type X) = bmB.contains (.type X)) {kw : List (Str × Value)}
    (hC : h.get? C = some (excClassObj nm q C N bs bm hdct sn sub ab col dd k0 k1 k2 k3 k5 newId))
    (hq : R (.ok (.ret (.ref (h.objs.size + 1)))) ⟨(h.push (PySem.W.kdv_tup [])).push (excO C h.objs.size), g, d, t, os⟩) : codeAny (model prog w) A (.builtin newId ⟨[.ref C], kw⟩) R ⟨h, g, d, t, os⟩ := by
  have hends := F.ends
  have c1 : (Value.ref C :: bm).contains (.type B) = true := by rw [List.contains_cons, hT, F.hasB, Bool.or_true]
  have c2 : (Value.ref C :: bm).contains (.type "AttributeError") = false := by rw [List.contains_cons, hT, F.noAttr]; rfl
  have c3 : (Value.ref C :: bm).contains (.type "NameError") = false := by rw [List.contains_cons, hT, F.noName]; rfl
  refine codeAny_builtinAt F.entry ?_
  unfold Builtin.«BaseException.__new__»
  refine PySem.wpAt_bind ?_
  show PySem.wpAt _ _ _ (stack >>= _) _ _ _
  refine PySem.wpAt_bind (PySem.wpAt_stack fun p below => PySem.wpAt_of_wpAny ?_)
  wp_walk
  refine PySem.wpAt_of_wpAny ?_
  rw [F.owner]
  repeat (first
    | with_reducible refine wpAny_madeHere_exc F.canon hC ?_
    | with_reducible refine wpAny_loadPart_at hC ?_
    | (with_reducible refine wpAny_isSubtype_exc hC ?_; first | rw [c1] | rw [c2] | rw [c3])
    | wp_step)
  show R _ _
  rw [Heap.size_push]
  exact hq
theorem type_callK (F : ExcBaseFacts B newId initId bmB) (hT : ∀ X : String, bm.contains (.type X) = bmB.contains (.type X)) {kw : List (Str × Value)} {fI : Addr} {Q : Fin → Shared → Prop}
    (hC : h.get? C = some (excClassObj nm q C N bs bm hdct sn sub ab col dd k0 k1 k2 k3 k5 newId))
    (hi : PySem.W.Looks (model prog w) h (typeLookup (.ref C) "__init__") (some (.ref fI))) (hb : ∀ self, PySem.W.Looks (model prog w) h (bindSpecial (.ref fI) self) (.ref fI, [self]))
    (hq : codeAny (model prog w) A (.call (.ref fI) ⟨[.ref (h.objs.size + 1)], kw⟩)
      (fun r s' => match r with | .ok (.ret v) => v = .none ∧ Q (.done (.ret (.ref (h.objs.size + 1)))) s' | .ok _ => False | .error e => E e s') ⟨(h.push (PySem.W.kdv_tup [])).push (excO C h.objs.size), g, d, t, os⟩) :
    wpAny (model prog w) A (Builtin.«type.__call__» ⟨[.ref C], kw⟩) Q E ⟨h, g, d, t, os⟩ := by
  repeat (first
    | with_reducible refine wpAny_loadPart_at hC ?_
    | with_reducible refine wpAny_madeBy_exc hC ?_
    | wp_step)
  refine codeAny_call_builtin_code (Code.quiet_builtin _ F.quiet) (check_newK F hT hC ?_)
  refine new_ownK F hT hC ?_
  show wpAny _ _ _ _ _ _
  have k : ∀ b o, h.get? b = some o → ((h.push (PySem.W.kdv_tup [])).push (excO C h.objs.size)).get? b = some o := fun b o e => Heap.get?_push_of_some _ (Heap.get?_push_of_some _ e)
  have e1 := k _ _ hC
  have e2 : ((h.push (PySem.W.kdv_tup [])).push (excO C h.objs.size)).get? (h.objs.size + 1) = some (excO C h.objs.size) := by heap_get
  have e3 : (Value.ref C :: bm).contains (.ref C) = true := by simp
  have i1 := hi.keeps k
  have b1 := (hb (.ref (h.objs.size + 1))).keeps k
  unfold isInstance
  repeat (first
    | with_reducible refine wpAny_loadPart_at e2 ?_
    | (with_reducible refine wpAny_isSubtype_exc e1 ?_; rw [e3])
    | wp_step)
  show wpAny _ _ (typeLookup (.ref C) _) _ _ _
  refine i1.at ?_
  refine wpAny_holding (wpAny_bind (b1.at ?_))
  refine wpAny_bind (wpAny_call (codeAny_mono hq fun r s' z => ?_))
  rcases r with e | (v | _ | _ | _) <;> first | exact z | exact z.elim | skip
  obtain ⟨rfl, z⟩ := z
  first
    | exact wpAny_pure (wpAny_pure z)
    | (wp_walk; exact z)
theorem call_ownK (F : ExcBaseFacts B newId initId bmB) (hT : ∀ X : String, bm.contains (.type X) = bmB.contains (.type X)) {kw : List (Str × Value)} {fI : Addr}
    (hC : h.get? C = some (excClassObj nm q C N bs bm hdct sn sub ab col dd k0 k1 k2 k3 k5 newId))
    (hi : PySem.W.Looks (model prog w) h (typeLookup (.ref C) "__init__") (some (.ref fI))) (hb : ∀ self, PySem.W.Looks (model prog w) h (bindSpecial (.ref fI) self) (.ref fI, [self]))
    (hq : codeAny (model prog w) (A.under (.builtin "type.__call__" ⟨[.ref C], kw⟩)) (.call (.ref fI) ⟨[.ref (h.objs.size + 1)], kw⟩) (PySem.W.InitBack (h.objs.size + 1) R) ⟨(h.push (PySem.W.kdv_tup [])).push (excO C h.objs.size), g, d, t, os⟩) :
    codeAny (model prog w) A (.call (.ref C) ⟨[], kw⟩) R ⟨h, g, d, t, os⟩ := by
  have f1 := tc_lookup
  have f2 := tc_bind (.ref C)
  have hTy : (⟨h, g, d, t, os⟩ : Shared).TypeIs (.ref C) "type" := ⟨_, hC, rfl⟩
  refine codeAny_of_tree ?_
  show wpAny _ _ (callAny (.ref C) _) _ _ _
  repeat (any_goals (first | assumption | with_reducible refine wpAny_loadPart_at hC ?_ | wp_step))
  refine ⟨rfl, ?_⟩
  refine codeAny_call_builtin_at (Code.quiet_builtin _ (by decide +kernel)) entry_typeCall (wpAny_check_type_call_sub hC (type_callK F hT hC hi hb ?_))
  refine codeAny_mono hq fun r s' z => ?_
  rcases r with e | (v | _ | _ | _) <;> exact z
end
section
open L2
variable {X : Cx} {kws : List Keyword} {tk : TA} {p pos : Pos} {g : List Value → List Value → List Value} {gV : List V → List V → List V} {ks : List Str}
/-- C(k = v, ..) of an own error class: laid bare, then its __init__ -/
def tMkK (C : Addr) (m : Nat) (sp : Sp) (gV : List V → List V → List V) (tk : TA) : L2.St → Hp → XK → Prop := fun σ H Q => tk σ H fun zs H1 => zs.length = m ∧ ∀ a, H1 a = none → sp (gV [.ref a] zs) (upd H1 a (exo a C none))
  (fun v H2 => v = .non ∧ ∃ (d : Addr) (fs : List (Str × V)), H2 a = some (exo a C (some d)) ∧ H2 d = some (exd d fs) ∧ H1 d = none ∧ Q (.ref C) (some d) (upd (del H2 a) d (.xd fs))) (fun _ _ _ => False)
theorem pmk_oexK {CX : CXT} {x : Str} {C fI : Addr} {k : Nat} {fd : FuncData} {ps : List Str} {sp : Sp} (T : OexC X.K C) (iC : PySem.W.findIn X.K (.ref C) "__init__" = some (some (.ref fI))) (tI : PySem.W.typeIn X.K (.ref fI) = some (.type "function"))
    (F1 : FnOk X.prog X.w X.K X.mg X.base CX k fI fd ps sp) (hr : Room (k + 1) X.A) (hb : KBn X.K fd ps 1 ks g gV) (hx : Passes CX X (fun _ _ _ => False)) (hm : X.mg x = some (.ref C)) (hkw : PK X kws tk) (hg : Gl X x := by rfl)
    (hall : (backToKw pos (keywordEach kws X.env)).all (·.1.isSome) = true := by rfl) (hks : (backToKw pos (keywordEach kws X.env)).filterMap (·.1) = ks := by rfl) (hdb : (x == ("__debug__" : Str)) = false := by decide)
    (hpl : ((backTo pos (starEach [] X.env)).any (·.1) || (backToKw pos (keywordEach kws X.env)).any (·.1.isNone)) = false := by rfl) :
    PMk X (.Call (.Name x p) [] kws pos) (tMkK C ks.length sp gV tk) := by
  intro pins s σ H Q I h
  obtain ⟨nm, q, N, bs, bm, sn, sub, ab, col, dd, k0, k1, k2, k3, k5, hC, hbm⟩ := T.cls
  refine wpAny_Call_Name_kw (ld_glob I hg hm ?_ hdb)
  refine PySem.W.callWith_KW0 (h₀ := X.base) I.ok.mod.kin T.kC hall ?_ hpl
  refine thn (hkw.run pos pins s σ H _ I h) fun ws s1 ⟨zs, H1, I1, rz, q1⟩ => ⟨I1.kIn, ?_⟩
  rw [hks]
  show wpAny _ _ (call (.ref C) [] (ks.zip ws)) _ _ _
  obtain ⟨hp, gg, dr, tok, os⟩ := s1
  have z1 : hp.objs.size ≤ hp.objs.size + 1 := Nat.le_succ _
  have hq := q1.2 (hp.objs.size + 1) (I1.hok.fresh z1)
  have kk : ∀ b o, hp.get? b = some o → ((hp.push (PySem.W.kdv_tup [])).push (PySem.HandSPX.excO C hp.objs.size)).get? b = some o := fun b o e => Heap.get?_push_of_some _ (Heap.get?_push_of_some _ e)
  have hget : ((hp.push (PySem.W.kdv_tup [])).push (PySem.HandSPX.excO C hp.objs.size)).get? (hp.objs.size + 1) = some (PySem.HandSPX.excO C hp.objs.size) := by heap_get
  have I2 : Inv X pins σ (upd H1 (hp.objs.size + 1) (exo (hp.objs.size + 1) C none)) ⟨(hp.push (PySem.W.kdv_tup [])).push (PySem.HandSPX.excO C hp.objs.size), gg, dr, tok, os⟩ :=
    I1.laid (t' := tok) (a := hp.objs.size + 1) (o := exo (hp.objs.size + 1) C none) (h' := (hp.push (PySem.W.kdv_tup [])).push (PySem.HandSPX.excO C hp.objs.size)) kk z1 (exo_ok hget)
  have r2 := hb.rel (vs := [V.ref (hp.objs.size + 1)]) (us := [Value.ref (hp.objs.size + 1)]) (.cons rfl .nil) rz
  refine wpAny_call (call_ownK F.excBase_ValueError (fun Y => PySem.HandSPX.refsVE_contains Y bm hbm) (I1.kIn _ _ hC) (PySem.W.looks_findIn I1.kIn iC) (fun self => PySem.W.bind_fn I1.kIn self tI)
    (codeAny_mono (F1.run _ X.stack _ _ ⟨[Value.ref (hp.objs.size + 1)], ks.zip ws⟩ (g [Value.ref (hp.objs.size + 1)] ws) _ _ (fun _ _ _ => False) (hr.make C [] (ks.zip ws)) (I2.env0.make C [] (ks.zip ws))
      (hb.to _ [Value.ref (hp.objs.size + 1)] ws I2.kIn rfl (rz.length.symm.trans q1.1)) r2 hq) fun r s' hq' => ?_))
  cases r with
  | error er => exact hx pins σ _ _ er s' I2 hq'
  | ok fl =>
    cases fl with
    | ret u =>
      obtain ⟨v, H2, os2, bare2, un2, hok2, rv, ev, d, fs, ea, ed, hd1, q2⟩ := hq'
      subst ev
      obtain ⟨h2, g2, d2, t2, os'⟩ := s'
      exact ⟨rv, mk_end (raises_own T.exC T.tyC) I1 z1 kk un2 hok2 os2 bare2 ea ed hd1 q2⟩
    | next => exact False.elim hq'
    | brk => exact False.elim hq'
    | cont => exact False.elim hq'
end
end Fm

/-! ## FmRaise -/
set_option Elab.async false
set_option maxRecDepth 100000
set_option maxHeartbeats 4000000
/-! Raising own errors: by position, by keyword, without arguments; a def that raises, called within a try. -/
namespace Fm
open PySem PySem.Spec PyProof.Rows L2
/-- __init__(self, v) of an own error: self.f = v -/
def spIn (K : PySem.W.Frag) (f : Str) : Sp := fun vs H Q _ => ∃ (a C : Addr) (v : V), vs = [.ref a, v] ∧ OexC K C ∧ H a = some (exo a C none) ∧ PySem.W.findIn K (.ref C) f = some none ∧ ∀ dx, H dx = none → dx ≠ a → Q .non (upd (upd H dx (exd dx [(f, v)])) a (exo a C (some dx)))
structure Xf (P : Program) (w : World) (K : PySem.W.Frag) (mg : Str → Option Value) (base : Heap) (x : Str) (C : Addr) (f : Str) : Prop where
  ex : ∃ (fI : Addr) (fd : FuncData), OexC K C ∧ PySem.W.findIn K (.ref C) "__init__" = some (some (.ref fI)) ∧ PySem.W.typeIn K (.ref fI) = some (.type "function") ∧ FnOk P w K mg base CX0 1 fI fd ["self", f] (spIn K f) ∧ mg x = some (.ref C) ∧ Binds K fd ["self", f] [] ∧
    KBn K fd ["self", f] 1 [f] (fun us ws => us ++ ws) (fun vs zs => vs ++ zs) ∧ PySem.W.findIn K (.ref C) f = some none
structure X0 (K : PySem.W.Frag) (mg : Str → Option Value) (x : Str) (C : Addr) : Prop where
  ex : ∃ (bmB : List Value) (B newId initId : String), ExcBaseFacts B newId initId bmB ∧ PySem.W.excIn K C bmB newId = true ∧ mg x = some (.ref C) ∧ PySem.W.keepIn K (.ref C) = true ∧ PySem.W.subIn K (.ref C) (.type "BaseException") = some true ∧ PySem.W.typeIn K (.ref C) = some (.type "type")
def tRE (C : Addr) (f : Str) (i : Nat) (W : WX) : TS := fun _ σ H => ∃ v, σ[i]? = some (some v) ∧ ∀ d, H d = none → W (.ref C) (some d) σ (upd H d (.xd [(f, v)]))
theorem del_upd {H : Hp} {a d : Addr} {o1 o2 o3 o4 : HO} (ha : H a = none) (ne : d ≠ a) : upd (del (upd (upd (upd H a o1) d o2) a o3) a) d o4 = upd H d o4 := funext fun b => by
  by_cases q : b = d
  · rw [q, upd_same, upd_same]
  · rw [upd_ne q, upd_ne q]
    by_cases z : b = a
    · rw [z, del_same, ha]
    · rw [del_ne z, upd_ne z, upd_ne q, upd_ne z]
section
variable {X : Cx} {W : WX} {x f : Str} {C : Addr} {i : Nat} {e : Expr} {p pos pos' kpos : Pos}
theorem init_read {K : PySem.W.Frag} {H : Hp} {a : Addr} {v : V} {Q : XK} {E : XK} (T : OexC K C) (hno : PySem.W.findIn K (.ref C) f = some none) (ha : H a = none) (k : ∀ d, H d = none → Q (.ref C) (some d) (upd H d (.xd [(f, v)]))) :
    spIn K f [.ref a, v] (upd H a (exo a C none)) (fun z H2 => z = .non ∧ ∃ (d : Addr) (fs : List (Str × V)), H2 a = some (exo a C (some d)) ∧ H2 d = some (exd d fs) ∧ H d = none ∧ Q (.ref C) (some d) (upd (del H2 a) d (.xd fs))) E :=
  ⟨a, C, v, rfl, T, upd_same, hno, fun dx hdx ne => ⟨rfl, dx, [(f, v)], upd_same, by rw [upd_ne ne, upd_same], by rw [upd_ne ne] at hdx; exact hdx, by rw [del_upd ha ne]; exact k dx (by rw [upd_ne ne] at hdx; exact hdx)⟩⟩
theorem ps_rE (B : Xf X.prog X.w X.K X.mg X.base x C f) (hr : Room 2 X.A) (tk : Takes X W) (he : PE X e (tVar i)) (hc : X.calm = true := by rfl) (hg : Gl X x := by rfl) (hdb : (x == ("__debug__" : Str)) = false := by decide)
    (hst : starEach [e] X.env = (false, eval e X.env) :: starEach [] X.env := by rfl) (hpl : (backTo pos (starEach [] X.env)).any (·.1) = false := by rfl) : PS X (.Raise (some (.Call (.Name x p) [e] [] pos)) none pos') (tRE C f i W) := by
  obtain ⟨fI, fd, T, iC, tI, F1, hm, hb, _, hno⟩ := B.ex
  refine ⟨fun pins s σ H D I h => ?_⟩
  obtain ⟨v, hv, k⟩ := h
  exact (ps_raise hc tk (pmk_oex T iC tI F1 hr hb .nil pass0 hg hm (pa_cons he pa_nil (hs := hst)) hdb hst hpl)).run pins s σ H D I ⟨v, hv, (by show 1 ≤ 1000; decide), fun a ha => init_read (v := v) (Q := fun cls d H' => W cls d σ H') T hno ha k⟩
theorem ps_rK (B : Xf X.prog X.w X.K X.mg X.base x C f) (hr : Room 2 X.A) (tk : Takes X W) (he : PE X e (tVar i)) (hc : X.calm = true := by rfl) (hg : Gl X x := by rfl) (hdb : (x == ("__debug__" : Str)) = false := by decide)
    (hall : (backToKw pos (keywordEach [⟨some f, e, kpos⟩] X.env)).all (·.1.isSome) = true := by rfl) (hks : (backToKw pos (keywordEach [⟨some f, e, kpos⟩] X.env)).filterMap (·.1) = [f] := by rfl)
    (hpl : ((backTo pos (starEach [] X.env)).any (·.1) || (backToKw pos (keywordEach [⟨some f, e, kpos⟩] X.env)).any (·.1.isNone)) = false := by rfl) : PS X (.Raise (some (.Call (.Name x p) [] [⟨some f, e, kpos⟩] pos)) none pos') (tRE C f i W) := by
  obtain ⟨fI, fd, T, iC, tI, F1, hm, _, hb, hno⟩ := B.ex
  refine ⟨fun pins s σ H D I h => ?_⟩
  obtain ⟨v, hv, k⟩ := h
  exact (ps_raise hc tk (pmk_oexK T iC tI F1 hr hb pass0 hm (pk_cons he pk_nil) hg hall hks hdb hpl)).run pins s σ H D I ⟨v, hv, rfl, fun a ha => init_read (v := v) (Q := fun cls d H' => W cls d σ H') T hno ha k⟩
theorem ps_r0 (B : X0 X.K X.mg x C) (tk : Takes X W) (hc : X.calm = true := by rfl) (hg : Gl X x := by rfl) (hdb : (x == ("__debug__" : Str)) = false := by decide) : PS X (.Raise (some (.Call (.Name x p) [] [] pos)) none pos') (fun _ σ H => W (.ref C) none σ H) := by
  obtain ⟨bmB, N, newId, initId, F, q, gC, kC, e1, e2⟩ := B.ex
  exact ps_raise hc tk (pmk_own0 F q gC kC (raises_own e1 e2) hg hdb)
/-- a def that may raise -/
structure DfX (P : Program) (w : World) (K : PySem.W.Frag) (mg : Str → Option Value) (base : Heap) (x : Str) (k : Nat) (ps : List Str) (sp : Sp) : Prop where
  ex : ∃ (f : Addr) (fd : FuncData), FnOk P w K mg base (L2.CX P w) k f fd ps sp ∧ mg x = some (.ref f) ∧ PySem.W.keepIn K (.ref f) = true ∧ Binds K fd ps []
theorem pe_dX {pn : List (Addr × Obj)} {xe : Value → Shared → Prop} {es : List Expr} {t : TA} {k : Nat} {ps : List Str} {sp : Sp} (D : DfX X.prog X.w X.K X.mg X.base x k ps sp) (hr : Room k X.A) (tk : Takes (X.tr pn xe) W) (ha : PA (X.tr pn xe) (e :: es) t) (hg : Gl X x := by rfl) (hdb : (x == ("__debug__" : Str)) = false := by decide)
    (he : starEach (e :: es) X.env = (false, eval e X.env) :: starEach es X.env := by rfl) (hpl : (backTo pos (starEach es X.env)).any (·.1) = false := by rfl) : PE (X.tr pn xe) (.Call (.Name x p) (e :: es) [] pos) (tCallS sp (WE W) t) := by
  obtain ⟨f, fd, F, hm, hk, hb⟩ := D.ex
  exact pe_callS F hr hg hm hk hb (fun σ => passAt tk σ) ha hdb he hpl
end
section
variable {X : Cx} {K : PySem.W.Frag}
/-! ### readings that name the part alone -/
theorem peK {e : Expr} {T : String} {r : V → List V → Hp → VK → Prop} {to : TE} {t : TA} (h : PE X e (tBM X.K T r to t)) (hK : X.K = K := by rfl) : PE X e (tBM K T r to t) := by
  subst hK
  exact h
theorem opK_in (hK : X.K = K := by rfl) : OpR X (compareOp .In) (rIn K false) := by
  subst hK
  exact op_in_seq
theorem call_isK {a : Addr} {cls : Value} {d : Option Addr} {oe : Obj} {pn : List (Addr × Obj)} (hz : Zc cls d oe) (hf : ∃ vs, oe.data = .fields vs) (hK : X.K = K := by rfl) : CallR (X.suite a ((a, oe) :: pn)) (.builtin "isinstance") (rIsF K a cls d) := by
  subst hK
  exact call_isF hz hf
theorem pe_xk {a : Addr} {oe : Obj} {cls : Value} {d : Option Addr} {pn : List (Addr × Obj)} {e : Expr} {te : TE} {pos : Pos} {n : Str} (hz : Zc cls d oe) (hf : ∃ vs, oe.data = .fields vs) (he : PE (X.suite a ((a, oe) :: pn)) e te)
    (hb : attributeBase e n X.env (eval e X.env) = eval e X.env := by rfl) (hK : X.K = K := by rfl) : PE (X.suite a ((a, oe) :: pn)) (.Attribute e n pos) (tXg K a cls d n te) := by
  subst hK
  exact pe_xg hz hf he hb
end
end Fm

/-! ## K00A -/
set_option Elab.async false
set_option maxRecDepth 100000
set_option maxHeartbeats 4000000
namespace Fm
open PySem L2
def topS (i : Nat) : Stmt := PySem.Challenge.pw_firstmet_k00_errors.main.body.getD i (.Pass ⟨0, 0, 0, 0⟩)
/-- the field of an error's class, by its number -/
def fld (i : Nat) : Str := if [0, 5, 7, 10, 14, 15].contains i = true then "at" else "value"
/-- what the top has left of names -/
structure Txt (K : PySem.W.Frag) (mg : Str → Option Value) (cl : Nat → Addr) : Prop where
  n_len : mg "len" = none
  n_list : mg "list" = none
  n_tuple : mg "tuple" = none
  n_isinstance : mg "isinstance" = none
  n_dict : mg "dict" = none
  n_bool : mg "bool" = none
  n_int : mg "int" = none
  n_max : mg "max" = none
  n_all : mg "all" = none
  n_range : mg "range" = none
  n_KeyError : mg "KeyError" = none
  n_IndexError : mg "IndexError" = none
  n_TypeError : mg "TypeError" = none
  n_ArithmeticError : mg "ArithmeticError" = none
  n_RuntimeError : mg "RuntimeError" = none
  n_ValueError : mg "ValueError" = none
  g_BadShape : mg "BadShape" = some (.ref (cl 0))
  g_BadName : mg "BadName" = some (.ref (cl 1))
  g_BadStore : mg "BadStore" = some (.ref (cl 2))
  g_BadRows : mg "BadRows" = some (.ref (cl 3))
  g_BadIndex : mg "BadIndex" = some (.ref (cl 4))
  g_BadBlock : mg "BadBlock" = some (.ref (cl 5))
  g_BadProgram : mg "BadProgram" = some (.ref (cl 6))
  g_BadPattern : mg "BadPattern" = some (.ref (cl 7))
  g_BadPair : mg "BadPair" = some (.ref (cl 8))
  g_BadMove : mg "BadMove" = some (.ref (cl 9))
  g_BadAsk : mg "BadAsk" = some (.ref (cl 10))
  g_BadAsks : mg "BadAsks" = some (.ref (cl 11))
  g_BadPlan : mg "BadPlan" = some (.ref (cl 12))
  g_BadCount : mg "BadCount" = some (.ref (cl 13))
  g_BadText : mg "BadText" = some (.ref (cl 14))
  g_NotPlain : mg "NotPlain" = some (.ref (cl 15))
  g_Unlike : mg "Unlike" = some (.ref (cl 16))
  g_NothingDone : mg "NothingDone" = some (.ref (cl 17))
  g_TooMany : mg "TooMany" = some (.ref (cl 18))
  g_TooLong : mg "TooLong" = some (.ref (cl 19))
  g_MetError : mg "MetError" = some (.ref (cl 20))
  x_c : ∀ i, i < 21 → ExcC K (cl i)
  x_f : ∀ i, i < 17 → XfC K (cl i) ∧ PySem.W.findIn K (.ref (cl i)) (fld i) = some none
  x_m : ∀ i, i < 21 → PySem.W.exmOne K (.ref (cl i)) (.ref (cl 20)) = some true
  x_k : ∀ i, i < 21 → ∀ j, j < 20 → PySem.W.kitOne K (.ref (cl i)) (.ref (cl j)) = some (decide (j = i))
  x_b : ∀ i, i < 21 → ∀ n ∈ ["KeyError", "IndexError", "TypeError", "ArithmeticError", "RuntimeError"], PySem.W.kitOne K (.ref (cl i)) (.type n) = some false
  x_v : ∀ i, i < 21 → PySem.W.kitOne K (.ref (cl i)) (.type "ValueError") = some true
section
variable {P : Program} {w : World} {K : PySem.W.Frag} {mg : Str → Option Value} {base : Heap} {cl : Nat → Addr}
abbrev s_l_pick : Stmt := topS 24
abbrev sc_l_pickN : List Str := ["_law_bag_here", "_law_many", "_law_cell", "_law_found", "_law_one"]
abbrev ps_l_pick : List Str := ["_law_bag_here", "_law_many"]
theorem sc_l_pick : FnScope sc_l_pickN ps_l_pick (defScope s_l_pick) := ⟨rfl, rfl, rfl, by decide +kernel, rfl, by decide +kernel, by decide +kernel⟩
theorem ok_l_pick {f : Addr} {fd : FuncData} (F : Fun K "_law_pick" "_law_pick" s_l_pick f fd) (T : Txt K mg cl) : FnOk P w K mg base CX0 1 f fd ps_l_pick spPick := by
  refine F.ok sc_l_pick (fun vs H Q E h => ?_) (fun cdv A outer s H vs Q E hr h => ?_)
  · obtain ⟨_, _, _, rfl, _⟩ := h
    rfl
  · obtain ⟨F0, b, m, rfl, m0, m1, ⟨hs, hfb, cl, ns, p, g, z, c, hh, hcl0, hcb, hcl, hb, p0, g0, z0, z1⟩, k⟩ := h
    have fin : ∀ (r p' g' z' c' h' : Int) (H' : Hp), 0 ≤ r → r < m → 0 ≤ p' → 0 ≤ g' → 0 ≤ z' → z' < 2147483647 → (∀ a, a ≠ b → H' a = H a) → H' b = some (.lst [.ref cl, .int p', .int g', .int z', .int c', .int h']) → Q (.int r) H' :=
      fun r p' g' z' c' h' H' r0 r1 q0 q1 q2 q3 ho hb' => k r H' r0 r1 ⟨fun a o e => by
        have n : a ≠ b := fun q => by rw [q, hfb] at e; cases e
        rw [ho a n]; exact hs a o e, hfb, cl, ns, p', g', z', c', h', hcl0, hcb, by rw [ho cl hcb]; exact hcl, hb', q0, q1, q2, q3⟩
    refine ⟨_, (pss_cons (ps_asg (pe_op op_add (pe_ix ix_list (pv 0) pe_int (fun _ _ => rfl)) pe_int) (pg_sub (pv 0) pe_int set_list))
  (Evl.pss_cut (ps_if (PW.pt (pw_and (pt_cmpR op_eq (pe_ix ix_list (pv 0) pe_int (fun _ _ => rfl)) pe_int (nomark _)) (pw_and (pt_cmpR op_eq (pe_ix ix_list (pv 0) pe_int (fun _ _ => rfl)) pe_int (nomark _)) (pw_and1 (pt_cmpR op_lt (pe_ix ix_list (pv 0) pe_int (fun _ _ => rfl)) (pe_callB call_len_seq (by rfl) T.n_len (by decide +kernel) (pa_cons (pe_ix ix_list (pv 0) pe_int (fun _ _ => rfl)) pa_nil)) (nomark _))))))
    (pss_cons (ps_set (i := 2) sc_l_pick.nd rfl (Or.inl rfl) (pe_ix ix_list (pe_ix ix_list (pv 0) pe_int (fun _ _ => rfl)) (pe_ix ix_list (pv 0) pe_int (fun _ _ => rfl)) (fun _ _ => rfl)))
    (pss_cons (ps_asg (pe_op op_add (pe_ix ix_list (pv 0) pe_int (fun _ _ => rfl)) pe_int) (pg_sub (pv 0) pe_int set_list))
    (pss_one (ps_if (pt_cmpR op_ge (pv 2) (pe_op op_pow pe_int pe_int) (nomark _))
      (pss_one (ps_asg (pv 2) (pg_sub (pv 0) pe_int set_list)))
      (pss_cons (ps_asg (pe_op op_modN (pe_callTy call_int1 (by rfl) T.n_int (by decide +kernel) (pa_cons (pe_op op_add (pe_op op_add (pe_op op_mul (pe_ix ix_list (pv 0) pe_int (fun _ _ => rfl)) pe_int) (pv 2)) pe_int) pa_nil)) pe_int) (pg_sub (pv 0) pe_int set_list))
      (pss_one (ps_asg pe_int (pg_sub (pv 0) pe_int set_list))))))))
    pss_nil)
  (pss_cons (ps_if (pt_cmpR op_gt (pe_ix ix_list (pv 0) pe_int (fun _ _ => rfl)) pe_int (nomark _))
    (pss_cons (ps_set (i := 3) sc_l_pick.nd rfl (Or.inl rfl) (pe_op op_modN (pe_callTy call_int1 (by rfl) T.n_int (by decide +kernel) (pa_cons (pe_ix ix_list (pv 0) pe_int (fun _ _ => rfl)) pa_nil)) (pv 1)))
    (pss_cons (ps_asg (pe_op op_fdivN (pe_ix ix_list (pv 0) pe_int (fun _ _ => rfl)) (pv 1)) (pg_sub (pv 0) pe_int set_list))
    (pss_one (ps_ret (pv 3)))))
    pss_nil)
  (pss_cons (ps_asg (pe_callB (call_max2 (by rfl)) (by rfl) T.n_max (by decide +kernel) (pa_cons pe_int (pa_cons (pe_op op_sub (pe_ix ix_list (pv 0) pe_int (fun _ _ => rfl)) pe_int) pa_nil))) (pg_sub (pv 0) pe_int set_list))
  (pss_cons (ps_set (i := 4) sc_l_pick.nd rfl (Or.inl rfl) (pe_op op_modN (pe_callTy call_int1 (by rfl) T.n_int (by decide +kernel) (pa_cons (pe_op op_mul (pe_op op_add (pe_op op_add (pe_ix ix_list (pv 0) pe_int (fun _ _ => rfl)) (pe_op op_mul pe_int (pe_ix ix_list (pv 0) pe_int (fun _ _ => rfl)))) pe_int) pe_int) pa_nil)) pe_int))
  (pss_cons (ps_set (i := 4) sc_l_pick.nd rfl (Or.inl rfl) (pe_op op_modN (pe_callTy call_int1 (by rfl) T.n_int (by decide +kernel) (pa_cons (pe_op op_mul (pv 4) (pe_op op_add (pe_op op_fdivN (pv 4) pe_int) pe_int)) pa_nil)) pe_int))
  (pss_cons (ps_set (i := 4) sc_l_pick.nd rfl (Or.inl rfl) (pe_op op_modN (pe_callTy call_int1 (by rfl) T.n_int (by decide +kernel) (pa_cons (pe_op op_mul (pv 4) (pe_op op_add (pe_op op_fdivN (pv 4) pe_int) pe_int)) pa_nil)) pe_int))
  (pss_one (ps_ret (pe_op op_modN (pe_callTy call_int1 (by rfl) T.n_int (by decide +kernel) (pa_cons (pe_op op_fdivN (pv 4) pe_int) pa_nil)) (pv 1))))))))))), ?_⟩
    have nzM : (2147483647 : Int) ≠ 0 := by decide
    have nzM2 : (2147483399 : Int) ≠ 0 := by decide
    -- one more asked
    refine ⟨_, rfl, b, _, _, _, rfl, rfl, .inl (.inl hb), rfl, _, _, rfl, rfl, _, rfl, b, _, _, _, rfl, rfl, hb, rfl, ?_⟩
    -- a new cell
    refine ⟨fun σ' H' => ∃ (p' g' z' h' : Int) (v : Option V), σ' = [some (.ref b), some (.int m), v, none, none] ∧ 0 ≤ p' ∧ 0 ≤ g' ∧ 0 ≤ z' ∧ z' < 2147483647 ∧ (∀ a, a ≠ b → H' a = H a) ∧
      H' b = some (.lst [.ref cl, .int p', .int g', .int z', .int (c + 1), .int h']), ?_, ?_⟩
    · have stay : ∀ a, a ≠ b → (upd H b (.lst [.ref cl, .int p, .int g, .int z, .int (c + 1), .int hh])) a = H a := fun a n => upd_ne n
      refine ⟨_, rfl, b, _, _, _, rfl, rfl, .inl (.inl upd_same), rfl, rfl, _, rfl, ifd (fun _ => ?_) fun _ => iteF ⟨p, g, z, hh, _, rfl, p0, g0, z0, z1, stay, upd_same⟩⟩
      refine ⟨_, rfl, b, _, _, _, rfl, rfl, .inl (.inl upd_same), rfl, rfl, _, rfl, ifd (fun _ => ?_) fun _ => iteF ⟨p, g, z, hh, _, rfl, p0, g0, z0, z1, stay, upd_same⟩⟩
      refine ⟨_, rfl, b, _, _, _, rfl, rfl, .inl (.inl upd_same), rfl, _, rfl, b, _, _, _, rfl, rfl, .inl (.inl upd_same), rfl, cl, _, rfl, .inl (.inl (.inl (by rw [upd_ne hcb]; exact hcl))), _, _, rfl, rfl, _, rfl, ifd (fun hlt => ?_) fun _ => ⟨p, g, z, hh, _, rfl, p0, g0, z0, z1, stay, upd_same⟩⟩
      rw [List.length_map] at hlt
      obtain ⟨n, rfl⟩ : ∃ n : Nat, p = (n : Int) := ⟨p.toNat, by omega⟩
      obtain ⟨u, hu⟩ : ∃ u, ns[n]? = some u := ⟨_, List.getElem?_eq_getElem (by omega)⟩
      refine ⟨_, rfl, b, _, _, _, rfl, rfl, .inl (.inl upd_same), rfl, _, rfl, b, _, _, _, rfl, rfl, .inl (.inl upd_same), rfl, cl, _, _, _, rfl, rfl, .inl (.inl (by rw [upd_ne hcb]; exact hcl)), atI_nat (by rw [List.getElem?_map, hu]; rfl), ?_⟩
      refine ⟨_, rfl, b, _, _, _, rfl, rfl, .inl (.inl upd_same), rfl, _, _, rfl, rfl, _, rfl, b, _, _, _, rfl, rfl, upd_same, rfl, ?_⟩
      refine ⟨_, rfl, _, _, rfl, rfl, ⟨by decide, by decide, by decide⟩, _, _, rfl, rfl, _, rfl, ifd (fun hge => ?_) fun _ => ?_⟩
      · refine ⟨_, rfl, _, rfl, b, _, _, _, rfl, rfl, upd_same, rfl, ?_⟩
        have hge' : (10 : Int) ^ 18 ≤ u := hge
        exact ⟨(n : Int) + 1, u, z, hh, _, rfl, by omega, by omega, z0, z1, fun a n => by rw [upd_ne n, upd_ne n, upd_ne n], upd_same⟩
      · refine ⟨_, rfl, b, _, _, _, rfl, rfl, .inl (.inl upd_same), rfl, _, _, rfl, rfl, .inl ⟨by omega, by omega⟩, _, rfl, _, _, rfl, rfl, _, _, rfl, rfl, .inl ⟨_, rfl, _, _, rfl, rfl, nzM, _, rfl, b, _, _, _, rfl, rfl, upd_same, rfl, ?_⟩⟩
        refine ⟨_, rfl, b, _, _, _, rfl, rfl, upd_same, rfl, ?_⟩
        exact ⟨(n : Int) + 1, g, _, 6, _, rfl, by omega, g0, fmod_lo (by decide), fmod_hi (by decide), fun a n => by rw [upd_ne n, upd_ne n, upd_ne n, upd_ne n], upd_same⟩
    · rintro σ' H' ⟨p', g', z', h', v, rfl, p0', g0', z0', z1', ho, hb'⟩
      refine ⟨_, rfl, b, _, _, _, rfl, rfl, .inl (.inl hb'), rfl, _, _, rfl, rfl, _, rfl, ifd (fun hg => ?_) fun _ => ?_⟩
      · refine ⟨_, rfl, b, _, _, _, rfl, rfl, .inl (.inl hb'), rfl, .inl ⟨_, rfl, _, rfl, _, _, rfl, rfl, Int.ne_of_gt m0, ?_⟩⟩
        refine ⟨_, rfl, b, _, _, _, rfl, rfl, .inl (.inl hb'), rfl, _, rfl, _, _, rfl, rfl, ⟨Int.ne_of_gt m0, by omega⟩, _, rfl, b, _, _, _, rfl, rfl, hb', rfl, ?_⟩
        refine ⟨_, rfl, ?_⟩
        exact fin _ p' _ z' _ h' _ (fmod_lo m0) (fmod_hi m0) p0' (fdiv_lo g0' m0) z0' z1' (fun a n => by rw [upd_ne n]; exact ho a n) upd_same
      · refine ⟨_, rfl, b, _, _, _, rfl, rfl, .inl (.inl hb'), rfl, _, _, rfl, rfl, _, _, rfl, _, rfl, b, _, _, _, rfl, rfl, hb', rfl, ?_⟩
        refine ⟨_, rfl, b, _, _, _, rfl, rfl, .inl (.inl upd_same), rfl, _, rfl, b, _, _, _, rfl, rfl, .inl (.inl upd_same), rfl, _, _, rfl, rfl, .inl ⟨by decide, by decide⟩, _, _, rfl, rfl, _, _, rfl, rfl, _, _, rfl, rfl, .inr ⟨by decide, by decide⟩, .inl ⟨_, rfl, _, _, rfl, rfl, nzM, ?_⟩⟩
        refine ⟨_, rfl, _, rfl, _, _, rfl, rfl, ⟨by decide, by decide⟩, _, _, rfl, rfl, _, _, rfl, rfl, .inl (fmod64 _ (by decide) (by decide)), .inl ⟨_, rfl, _, _, rfl, rfl, nzM, ?_⟩⟩
        refine ⟨_, rfl, _, rfl, _, _, rfl, rfl, ⟨by decide, by decide⟩, _, _, rfl, rfl, _, _, rfl, rfl, .inl (fmod64 _ (by decide) (by decide)), .inl ⟨_, rfl, _, _, rfl, rfl, nzM2, ?_⟩⟩
        refine ⟨_, rfl, _, _, rfl, rfl, ⟨by decide, by decide⟩, .inl ⟨_, rfl, _, rfl, _, _, rfl, rfl, Int.ne_of_gt m0, ?_⟩⟩
        exact fin _ p' g' z' _ _ _ (fmod_lo m0) (fmod_hi m0) p0' g0' z0' z1' (fun a n => by rw [upd_ne n]; exact ho a n) upd_same
theorem pss_never {X : Cx} {b : List Stmt} : PSs X b tNever := ⟨fun _ _ _ _ _ _ h => False.elim h⟩
def spBag (K : PySem.W.Frag) : Sp := fun vs H Q _ => ∃ (a : Addr) (ns : List Int), vs = [.ref a] ∧ SqL K H a (ns.map V.int) ∧ ns.length ≤ 63 ∧ ∀ b H', Bag nil0 H' b → Q (.ref b) H'
abbrev s_l_bag : Stmt := topS 23
abbrev sc_l_bagN : List Str := ["_law_script"]
abbrev ps_l_bag : List Str := ["_law_script"]
theorem sc_l_bag : FnScope sc_l_bagN ps_l_bag (defScope s_l_bag) := ⟨rfl, rfl, rfl, by decide +kernel, rfl, by decide +kernel, by decide +kernel⟩
theorem ok_l_bag {f : Addr} {fd : FuncData} (F : Fun K "_law_bag" "_law_bag" s_l_bag f fd) (T : Txt K mg cl) : FnOk P w K mg base CX0 1 f fd ps_l_bag (spBag K) := by
  refine F.ok sc_l_bag (fun vs H Q E h => ?_) (fun cdv A outer s H vs Q E hr h => ?_)
  · obtain ⟨_, _, rfl, _⟩ := h
    rfl
  · obtain ⟨a, ns, rfl, hs, hl, k⟩ := h
    refine ⟨_, (pss_one (ps_ret (pe_lst (pa_cons (pe_callTy call_list_of (by rfl) T.n_list (by decide +kernel) (pa_cons (pe_slice sl_list (pv 0) po_none (po_some pe_int)) pa_nil)) (pa_cons pe_int (pa_cons pe_int (pa_cons pe_int (pa_cons pe_int (pa_cons pe_int pa_nil))))))))), ?_⟩
    refine ⟨_, rfl, _, rfl, a, _, rfl, hs, fun p hp => ?_⟩
    refine ⟨p, _, rfl, .inl (.inl (.inl upd_same)), fun c hc => ⟨by show 6 ≤ sizeLine; decide, fun b hb => ?_⟩⟩
    have ncb : c ≠ b := ne_of_none upd_same hb
    have e : cutV (ns.map V.int) none (some 63) = (ns.take 63).map V.int := by
      rw [List.map_take]
      exact cutV_to _ 63
    refine k b _ ⟨fun _ _ z => (by cases z), rfl, c, ns.take 63, 0, 0, 0, 0, 0, rfl, ncb, ?_, upd_same, by omega, by omega, by omega, by omega⟩
    rw [upd_ne ncb, upd_same, e]
end
end Fm

/-! ## K00B -/
set_option Elab.async false
set_option maxRecDepth 100000
set_option maxHeartbeats 4000000
namespace Fm
open PySem L2
def Sq (K : PySem.W.Frag) (H : Hp) (a : Addr) (xs : List V) : Prop := SqL K H a xs ∨ SqT K H a xs
theorem Sq.same {K : PySem.W.Frag} {H H' : Hp} {a : Addr} {xs : List V} (h : Sq K H a xs) (e : Same H H') : Sq K H' a xs := h.elim (fun h => .inl (e.seq h)) fun h => .inr (same_sqT e h)
theorem clsLT : Paired ClsV [V.ty "list", V.ty "tuple"] [Value.type "list", Value.type "tuple"] := .cons (.ty _) (.cons (.ty _) .nil)
theorem fn_no {P : Program} {w : World} {K : PySem.W.Frag} {mg : Str → Option Value} {base : Heap} {k : Nat} {f : Addr} {fd : FuncData} {ps : List Str} {sp : Sp} (h : ∀ vs H Q E, sp vs H Q E → False) : FnOk P w K mg base CX0 k f fd ps sp :=
  ⟨fun vs H Q E z => (h vs H Q E z).elim, fun _ _ _ H _ _ vs Q E _ _ _ _ z => (h vs H Q E z).elim⟩
section
variable {K : PySem.W.Frag}
theorem dp_ty {H : Hp} {d : PyData} {v : V} {n : Nat} (h : Dp K H v d) (hd : Dn (n + 1) d) :
    (∃ a vs ds, v = .ref a ∧ (SqL K H a vs ∨ SqT K H a vs) ∧ DpAll K H vs ds ∧ (∀ c ∈ ds, Dn n c) ∧ ds.length ≤ 100000 ∧ (d = .list ds ∧ SqL K H a vs ∨ d = .tuple ds ∧ SqT K H a vs)) ∨ (flatV v = true ∧ tupd d = d ∧ ∀ H', Dp K H' v d) := by
  cases hd with
  | none => cases h; exact .inr ⟨rfl, rfl, fun _ => .non⟩
  | bool _ b => cases h; exact .inr ⟨rfl, rfl, fun _ => .bl b⟩
  | int _ i => cases h; exact .inr ⟨rfl, rfl, fun _ => .int i⟩
  | str _ s => cases h; exact .inr ⟨rfl, rfl, fun _ => .str s⟩
  | list _ ds h1 h2 =>
    cases h with
    | lst hs ha => exact .inl ⟨_, _, ds, rfl, .inl hs, ha, h1, h2, .inl ⟨rfl, hs⟩⟩
  | tuple _ ds h1 h2 =>
    cases h with
    | tup hs ha => exact .inl ⟨_, _, ds, rfl, .inr hs, ha, h1, h2, .inr ⟨rfl, hs⟩⟩
theorem ifF {c : Bool} {A B : Prop} (hc : c = false) (h : B) : if c = true then A else B := by
  rw [hc]
  exact iteF h
theorem ifT {c : Bool} {A B : Prop} (hc : c = true) (h : A) : if c = true then A else B := by
  rw [hc]
  exact iteT h
theorem lst_ty {H : Hp} {a : Addr} {xs : List V} (h : SqL K H a xs) : TyX K H (.ref a) (.type "list") := by
  rcases h with (h | ⟨o, h⟩) | ⟨o, its, n, h, hc, _⟩
  · exact .base (.lst h)
  · exact .base (.frz h)
  · exact .kList h hc
theorem tuT_ty {H : Hp} {a : Addr} {xs : List V} (h : SqT K H a xs) : TyX K H (.ref a) (.type "tuple") := by
  rcases h with (h | ⟨o, h⟩) | ⟨o, its, n, h, hc, _⟩
  · exact .base (.tup h)
  · exact .fTuple h
  · exact .kTuple h hc
theorem kB {a b : String} {r : Bool} (h : kitB a b = some r) : PySem.W.kitOne K (.type a) (.type b) = some r := kit_ty h
theorem flat_all {v : V} (h : flatV v = true) : ∃ n b, (∀ H : Hp, TyX K H v (.type n)) ∧ PySem.W.kitAny K (.type n) [.type "list", .type "tuple"] = some false ∧ PySem.W.kitOne K (.type n) (.type "list") = some false ∧ PySem.W.kitOne K (.type n) (.type "tuple") = some false ∧
    PySem.W.kitOne K (.type n) (.type "dict") = some false ∧ PySem.W.kitOne K (.type n) (.type "bool") = some b ∧ scal v v = true := by
  have two : ∀ n, kitB n "list" = some false → kitB n "tuple" = some false → PySem.W.kitAny K (.type n) [.type "list", .type "tuple"] = some false := fun n a b =>
    kitAny_cons (b := false) (kit_ty a) (fun _ => kitAny_cons (b := false) (kit_ty b) (fun _ => rfl) fun z => nomatch z) fun z => nomatch z
  cases v with
  | non => exact ⟨_, false, fun _ => .base .non, two _ (by decide +kernel) (by decide +kernel), kB (by decide +kernel), kB (by decide +kernel), kB (by decide +kernel), kB (by decide +kernel), rfl⟩
  | bl b => exact ⟨_, true, fun _ => .base (.bl b), two _ (by decide +kernel) (by decide +kernel), kB (by decide +kernel), kB (by decide +kernel), kB (by decide +kernel), kB (by decide +kernel), rfl⟩
  | int i => exact ⟨_, false, fun _ => .base (.int i), two _ (by decide +kernel) (by decide +kernel), kB (by decide +kernel), kB (by decide +kernel), kB (by decide +kernel), kB (by decide +kernel), rfl⟩
  | str s => exact ⟨_, false, fun _ => .base (.str s), two _ (by decide +kernel) (by decide +kernel), kB (by decide +kernel), kB (by decide +kernel), kB (by decide +kernel), kB (by decide +kernel), rfl⟩
  | byt b => cases h
  | flt b => cases h
  | ref a => cases h
  | ty n => cases h
theorem ix_sq {H : Hp} {a : Addr} {xs : List V} {i : Int} {v : V} {Q : VK} (h : Sq K H a xs) (hv : atI xs i = some v) (q : Q v H) : rIx K (.ref a) (.int i) H Q := by
  rcases h with h | h
  · exact .inl ⟨a, xs, i, v, rfl, rfl, h, hv, q⟩
  · exact .inr (.inl ⟨a, xs, i, v, rfl, rfl, h, hv, q⟩)
theorem dp_flat {H H' : Hp} {d : PyData} {v w : V} (hf : flatV v = true) (h1 : Dp K H v d) (h2 : Dp K H' w d) : w = v := by
  cases h1 <;> first | (cases h2; rfl) | cases hf
/-- the tables of keys and values that the law compares with themselves: their values are trees -/
def Dd (K : PySem.W.Frag) (n : Nat) (H : Hp) (a : Addr) : Prop := ∃ (F : Hp) (kvs : List (Key × V)), H a = some (.dK kvs) ∧ Same F H ∧ F a = none ∧ kvs.length ≤ 100 ∧ ∀ kv ∈ kvs, ∃ v d, valV kvs kv.1 = some v ∧ Dp K F v d ∧ Dn n d
end
section
variable {P : Program} {w : World} {K : PySem.W.Frag} {mg : Str → Option Value} {base : Heap} {cl : Nat → Addr}
def spAlike (K : PySem.W.Frag) (n : Nat) : Sp := fun vs H Q _ => ((∃ (v u : V) (d : PyData), vs = [v, u] ∧ Dp K H v d ∧ Dp K H u d ∧ Dn n d) ∨ ∃ (a : Addr) (m : Nat), n = m + 1 ∧ vs = [.ref a, .ref a] ∧ Dd K m H a) ∧ ∀ H', Same H H' → Q (.bl true) H'
abbrev s_l_alike : Stmt := topS 25
abbrev sc_l_alikeN : List Str := ["_law_one", "_law_other", "_law_k", "_law_key"]
abbrev ps_l_alike : List Str := ["_law_one", "_law_other"]
theorem sc_l_alike : FnScope sc_l_alikeN ps_l_alike (defScope s_l_alike) := ⟨rfl, rfl, rfl, by decide +kernel, rfl, by decide +kernel, by decide +kernel⟩
theorem ok_l_alike {f : Addr} {fd : FuncData} (F : Fun K "_law_alike" "_law_alike" s_l_alike f fd) (T : Txt K mg cl) (hm : mg "_law_alike" = some (.ref f)) (hb : Binds K fd ps_l_alike []) : ∀ n, FnOk P w K mg base CX0 n f fd ps_l_alike (spAlike K n)
  | 0 => fn_no fun vs H Q E h => by
    obtain ⟨⟨_, _, d, _, _, _, hd⟩ | ⟨_, _, e, _⟩, _⟩ := h
    · cases hd
    · cases e
  | n + 1 => by
    have D_l_alike : Df P w K mg base "_law_alike" n ps_l_alike (spAlike K n) := ⟨f, fd, ok_l_alike F T hm hb n, hm, F.kp, hb⟩
    refine F.ok sc_l_alike (fun vs H Q E h => ?_) (fun cdv A outer s H vs Q E hr h => ?_)
    · obtain ⟨⟨_, _, _, rfl, _⟩ | ⟨_, _, _, rfl, _⟩, _⟩ := h <;> rfl
    · refine ⟨_, (pss_cons (ps_if (pt_val (pe_callB call_isiT (by rfl) T.n_isinstance (by decide +kernel) (pa_cons (pv 0) (pa_cons (pe_tup (pa_cons (pe_bltn (v := .ty "list") (by rfl) T.n_list (by decide +kernel) rfl) (pa_cons (pe_bltn (v := .ty "tuple") (by rfl) T.n_tuple (by decide +kernel) rfl) pa_nil))) pa_nil))))
    (pss_cons (ps_if (PW.pt (pw_or (pt_cmpR op_ne (pe_callB call_isi (by rfl) T.n_isinstance (by decide +kernel) (pa_cons (pv 0) (pa_cons (pe_bltn (v := .ty "list") (by rfl) T.n_list (by decide +kernel) rfl) pa_nil))) (pe_callB call_isi (by rfl) T.n_isinstance (by decide +kernel) (pa_cons (pv 1) (pa_cons (pe_bltn (v := .ty "list") (by rfl) T.n_list (by decide +kernel) rfl) pa_nil))) (nomark _)) (pw_or1 (pt_cmpR op_ne (pe_callB call_isi (by rfl) T.n_isinstance (by decide +kernel) (pa_cons (pv 0) (pa_cons (pe_bltn (v := .ty "tuple") (by rfl) T.n_tuple (by decide +kernel) rfl) pa_nil))) (pe_callB call_isi (by rfl) T.n_isinstance (by decide +kernel) (pa_cons (pv 1) (pa_cons (pe_bltn (v := .ty "tuple") (by rfl) T.n_tuple (by decide +kernel) rfl) pa_nil))) (nomark _)))))
      (pss_one (ps_ret pe_bl))
      pss_nil)
    (pss_cons (ps_if (pt_cmpR op_ne (pe_callB call_len_seq (by rfl) T.n_len (by decide +kernel) (pa_cons (pv 0) pa_nil)) (pe_callB call_len_seq (by rfl) T.n_len (by decide +kernel) (pa_cons (pv 1) pa_nil)) (nomark _))
      (pss_one (ps_ret pe_bl))
      pss_nil)
    (pss_one (ps_ret (pe_callB (cr_all (by rfl)) (by rfl) T.n_all (by decide +kernel) (pa_cons (pe_lc (own := [("_law_k", 2)]) (g := gName 2) (tt := tYes) (by rfl) sc_l_alike.nd (pi_range1 (by rfl) T.n_range (pa_cons (pe_callB call_len_seq (by rfl) T.n_len (by decide +kernel) (pa_cons (pv 0) pa_nil)) pa_nil)) (blkOk_by (own := [("_law_k", 2)]) (N := sc_l_alikeN) (sc := defScope s_l_alike) (by decide +kernel)) (fun _ _ _ _ _ => pg_name (i := 2) sc_l_alike.nd rfl (Or.inl rfl)) (fun _ _ _ _ _ => pts_nil) (fun _ _ _ _ _ => (pe_d D_l_alike hr (pa_cons (pe_ix (ixK_seq (K := K)) (pv 0) (pv 2) (fun _ _ => rfl)) (pa_cons (pe_ix (ixK_seq (K := K)) (pv 1) (pv 2) (fun _ _ => rfl)) pa_nil))))) pa_nil))))))
    pss_nil)
  (pss_cons (ps_if (PW.pt (pw_and (pt_val (pe_callB call_isi (by rfl) T.n_isinstance (by decide +kernel) (pa_cons (pv 0) (pa_cons (pe_bltn (v := .ty "dict") (by rfl) T.n_dict (by decide +kernel) rfl) pa_nil)))) (pw_and1 (pt_val (pe_callB call_isi (by rfl) T.n_isinstance (by decide +kernel) (pa_cons (pv 1) (pa_cons (pe_bltn (v := .ty "dict") (by rfl) T.n_dict (by decide +kernel) rfl) pa_nil)))))))
    (pss_cons (ps_if (pt_cmpR op_ne (pe_callB call_lenD (by rfl) T.n_len (by decide +kernel) (pa_cons (pv 0) pa_nil)) (pe_callB call_lenD (by rfl) T.n_len (by decide +kernel) (pa_cons (pv 1) pa_nil)) (nomark _))
      (pss_one (ps_ret pe_bl))
      pss_nil)
    (pss_one (ps_ret (pe_lock (pe_callB (cr_all (by rfl)) (by rfl) T.n_all (by decide +kernel) (pa_cons (pe_lc (own := [("_law_key", 3)]) (g := gName 3) (tt := tYes) (by rfl) sc_l_alike.nd (pi_keys (pv 0)) (blkOk_by (own := [("_law_key", 3)]) (N := sc_l_alikeN) (sc := defScope s_l_alike) (by decide +kernel)) (fun _ _ _ _ _ => pg_name (i := 3) sc_l_alike.nd rfl (Or.inl rfl)) (fun _ _ _ _ _ => pts_nil) (fun _ _ _ _ _ => (pe_and (pe_cmp (pc_din (Nat.lt_of_le_of_lt (Nat.add_le_add_left (by decide) _) hr.units) (pv 3) (pv 1)) (by rfl)) (pe_one (pe_d D_l_alike hr (pa_cons (pe_dget (Nat.lt_of_le_of_lt (Nat.add_le_add_left (by decide) _) hr.units) (pv 0) (pv 3) (fun _ _ => rfl)) (pa_cons (pe_dget1 (Nat.lt_of_le_of_lt (Nat.add_le_add_left (by decide) _) hr.units) (pv 1) (pv 3) ⟨rfl, rfl, rfl, rfl⟩) pa_nil))))))) pa_nil))))))
    pss_nil)
  (pss_one (ps_ret (pe_and (pe_cmpR op_eq (pe_callB call_isi (by rfl) T.n_isinstance (by decide +kernel) (pa_cons (pv 0) (pa_cons (pe_bltn (v := .ty "bool") (by rfl) T.n_bool (by decide +kernel) rfl) pa_nil))) (pe_callB call_isi (by rfl) T.n_isinstance (by decide +kernel) (pa_cons (pv 1) (pa_cons (pe_bltn (v := .ty "bool") (by rfl) T.n_bool (by decide +kernel) rfl) pa_nil))) (nomark _)) (pe_one (pe_cmpR op_eq (pv 0) (pv 1) (nomark _)))))))), ?_⟩
      obtain ⟨⟨v, u, d, rfl, hv, hu, hd⟩ | ⟨a, m, em, rfl, FD, kvs, ha, sF, fa, len, val⟩, k⟩ := h
      rotate_left
      · refine ⟨_, rfl, (by show 2 ≤ sizeLine; decide), fun tp htp => ?_⟩
        obtain rfl : n = m := Nat.succ.inj em
        have s1 : Same H (upd H tp (.tup [.ty "list", .ty "tuple"])) := same_new _ htp
        have up : (upd H tp (.tup [.ty "list", .ty "tuple"])) tp = some (.tup [.ty "list", .ty "tuple"]) := upd_same
        generalize upd H tp (.tup [.ty "list", .ty "tuple"]) = H1 at *
        have ha1 := s1 _ _ ha
        have same : ∀ v : V, (!decide (v = v)) = false := fun v => by simp
        refine ⟨_, tp, _, _, _, _, rfl, up, clsLT, .base (.dK ha1), kitAny_cons (b := false) (kB (by decide +kernel)) (fun _ => kitAny_cons (b := false) (kB (by decide +kernel)) (fun _ => rfl) fun z => nomatch z) (fun z => nomatch z), _, rfl, iteF ?_⟩
        refine ⟨_, rfl, _, _, _, _, _, rfl, .ty _, .base (.dK ha1), kB (b := "dict") (r := true) (by decide +kernel), _, rfl, iteT ⟨_, rfl, _, _, _, _, _, rfl, .ty _, .base (.dK ha1), kB (b := "dict") (r := true) (by decide +kernel), _, rfl, iteT ?_⟩⟩
        refine ⟨_, rfl, a, kvs, rfl, ha1, _, rfl, a, kvs, rfl, ha1, rfl, _, rfl, ifF (same _) ?_⟩
        refine ⟨a, .dK kvs, ha1, trivial, fun od => ?_⟩
        have hL : (upd H1 a (.frz od (.dK kvs))) a = some (.frz od (.dK kvs)) := upd_same
        have back : ∀ H', Same (upd H1 a (.frz od (.dK kvs))) H' → Same H (upd H' a (.dK kvs)) := fun H' q b o e => by
          by_cases z : b = a
          · rw [z, upd_same]
            rw [z, ha] at e
            exact e
          · rw [upd_ne z]
            exact q b o (by rw [upd_ne z]; exact s1 b o e)
        have sL : Same FD (upd H1 a (.frz od (.dK kvs))) := same_put (sF.trans s1) _ fa
        generalize upd H1 a (.frz od (.dK kvs)) = HL at *
        refine ⟨_, rfl, a, od, rfl, .inl ⟨kvs, hL, fun D hD => ?_⟩⟩
        refine lc_it walk_keys (fun i H' => Same HL H' ∧ H' D = some (.lst ((kvs.take i).map fun _ => V.bl true))) ⟨same_new _ hD, by rw [upd_same]; rfl⟩ (fun i H' _ z => z.1 _ _ hL) ?_ ?_
        · rintro i x H2 H3 hi ⟨s2, d2⟩ ⟨rfl, kk, v0, hk, rfl⟩
          obtain ⟨v, d, hv, dv, dn⟩ := val _ (List.mem_of_getElem? hk)
          have rd : Rd H3 a (.dK kvs) := .inr ⟨od, s2 _ _ hL⟩
          have dg : DGet H3 a (kV kk) (some v) := .inl ⟨kvs, kk, rd, rfl, hv.symm⟩
          have dv3 := dp_mono (sL.trans s2) _ _ dv
          refine ⟨rfl, _, rfl, _, rfl, a, _, rfl, dg, _, rfl, iteT ?_⟩
          refine ⟨_, rfl, _, rfl, a, v, rfl, dg, _, rfl, a, rfl, .inl ⟨kvs, rd⟩, _, rfl, some v, dg, .inl ⟨_, _, d, rfl, dv3, dv3, dn⟩, fun H4 s4 => ?_⟩
          refine ⟨_, s4 _ _ d2, take_lt _ (by omega), same_put (s2.trans s4) _ hD, ?_⟩
          rw [upd_same, map_take _ hk]
        · rintro H2 ⟨s2, d2⟩
          rw [List.take_length, bl_map] at d2
          refine ⟨D, _, rfl, .inl (.inl d2), s2 _ _ hL, ?_⟩
          have e3 : (kvs.map fun _ => true).all id = true := by
            rw [List.all_map]
            simp
          rw [e3]
          exact k _ (back _ s2)
      refine ⟨_, rfl, (by show 2 ≤ sizeLine; decide), fun tp htp => ?_⟩
      have s1 : Same H (upd H tp (.tup [.ty "list", .ty "tuple"])) := same_new _ htp
      have hv1 := dp_mono s1 _ _ hv
      have hu1 := dp_mono s1 _ _ hu
      have up : (upd H tp (.tup [.ty "list", .ty "tuple"])) tp = some (.tup [.ty "list", .ty "tuple"]) := upd_same
      generalize upd H tp (.tup [.ty "list", .ty "tuple"]) = H1 at *
      rcases dp_ty hv1 hd with ⟨a, xs, ds, rfl, hs, ha, hn, hl, hd2⟩ | ⟨hf, e, hv2⟩
      · -- two rows of one kind
        obtain ⟨c, ys, tn, bL, bT, rfl, hs2, ha2, ty1, ty2, kA, kL, kT⟩ : ∃ c ys tn bL bT, u = .ref c ∧ Sq K H1 c ys ∧ DpAll K H1 ys ds ∧ TyX K H1 (.ref a) (.type tn) ∧ TyX K H1 (.ref c) (.type tn) ∧ PySem.W.kitAny K (.type tn) [.type "list", .type "tuple"] = some true ∧
            PySem.W.kitOne K (.type tn) (.type "list") = some bL ∧ PySem.W.kitOne K (.type tn) (.type "tuple") = some bT := by
          rcases hd2 with ⟨rfl, hL⟩ | ⟨rfl, hT⟩
          · cases hu1 with
            | lst h1 h2 => exact ⟨_, _, "list", true, false, rfl, .inl h1, h2, lst_ty hL, lst_ty h1, kitAny_cons (b := true) (kB (by decide +kernel)) (fun z => nomatch z) fun _ => rfl, kB (by decide +kernel), kB (by decide +kernel)⟩
          · cases hu1 with
            | tup h1 h2 => exact ⟨_, _, "tuple", false, true, rfl, .inr h1, h2, tuT_ty hT, tuT_ty h1, kitAny_cons (b := false) (kB (by decide +kernel)) (fun _ => kitAny_cons (b := true) (kB (by decide +kernel)) (fun z => nomatch z) fun _ => rfl) (fun z => nomatch z), kB (by decide +kernel), kB (by decide +kernel)⟩
        have l1 := dpA_len ha
        have l2 := dpA_len ha2
        have same : ∀ v : V, (!decide (v = v)) = false := fun v => by simp
        refine ⟨_, tp, _, _, _, _, rfl, up, clsLT, ty1, kA, _, rfl, iteT ?_⟩
        refine ⟨_, rfl, _, _, _, _, _, rfl, .ty _, ty1, kL, _, rfl, _, _, _, _, _, rfl, .ty _, ty2, kL, rfl, _, rfl, ifF (same _) ?_⟩
        refine ⟨_, rfl, _, _, _, _, _, rfl, .ty _, ty1, kT, _, rfl, _, _, _, _, _, rfl, .ty _, ty2, kT, rfl, _, rfl, ifF (same _) ?_⟩
        refine ⟨_, rfl, a, xs, rfl, hs, _, rfl, c, ys, rfl, hs2, rfl, _, rfl, ifF (by rw [l1, l2]; exact same _) ?_⟩
        refine ⟨_, rfl, a, xs, rfl, hs, _, rfl, by omega, by omega, fun D hD => ?_⟩
        refine lc_range (lo := 0) (n := xs.length) (fun i H' => Same H1 H' ∧ H' D = some (.lst ((xs.take i).map fun _ => V.bl true))) ⟨same_new _ hD, by rw [upd_same]; rfl⟩ ?_ ?_
        · rintro i H2 hi ⟨s2, d2⟩
          have hx : xs[i]? = some xs[i] := List.getElem?_eq_getElem hi
          have hy : ys[i]? = some (ys[i]'(by omega)) := List.getElem?_eq_getElem _
          obtain ⟨d1, e1, q1⟩ := dpA_at ha hx
          obtain ⟨d3, e3, q3⟩ := dpA_at ha2 hy
          obtain rfl : d1 = d3 := by rw [e1] at e3; exact Option.some.inj e3
          refine ⟨rfl, _, rfl, _, rfl, ix_sq (Sq.same hs s2) (by rw [Int.zero_add]; exact atI_nat hx) ?_⟩
          refine ⟨_, rfl, _, rfl, ix_sq (hs2.same s2) (by rw [Int.zero_add]; exact atI_nat hy) ?_⟩
          refine ⟨.inl ⟨_, _, d1, rfl, dp_mono s2 _ _ q1, dp_mono s2 _ _ q3, hn d1 (List.mem_of_getElem? e1)⟩, fun H4 s4 => ?_⟩
          refine ⟨_, s4 _ _ d2, take_lt _ (by omega), same_put (s2.trans s4) _ hD, ?_⟩
          rw [upd_same, map_take _ hx]
        · rintro H2 ⟨s2, d2⟩
          rw [List.take_length, bl_map] at d2
          refine ⟨D, _, rfl, .inl (.inl d2), ?_⟩
          have e3 : (xs.map fun _ => true).all id = true := by
            rw [List.all_map]
            simp
          rw [e3]
          exact k _ (s1.trans s2)
      · obtain rfl := dp_flat hf hv1 hu1
        obtain ⟨tn, b, ty, k0, k1, k2, k3, k4, sc⟩ := flat_all (K := K) hf
        refine ⟨_, tp, _, _, _, _, rfl, up, clsLT, ty _, k0, _, rfl, iteF ?_⟩
        refine ⟨_, rfl, _, _, _, _, _, rfl, .ty _, ty _, k3, _, rfl, iteF (iteF ?_)⟩
        refine ⟨_, rfl, _, _, _, _, _, rfl, .ty _, ty _, k4, _, rfl, _, _, _, _, _, rfl, .ty _, ty _, k4, rfl, _, rfl, ifT (decide_eq_true rfl) ?_⟩
        refine ⟨_, rfl, _, rfl, sc, ?_⟩
        rw [decide_eq_true rfl]
        exact k _ s1
end
end Fm

/-! ## K00C -/
set_option Elab.async false
set_option maxRecDepth 100000
set_option maxHeartbeats 4000000
namespace Fm
open PySem L2
section
variable {K : PySem.W.Frag} {F G : Hp} {a b : Addr} {v : V}
/-- a thing that is compared with itself -/
def Od (K : PySem.W.Frag) (F : Hp) (v : V) : Prop := (∃ d, Dp K F v d ∧ Dn 3 d) ∨ ∃ a, v = .ref a ∧ Dd K 2 F a
theorem Od.same (h : Od K F v) (s : Same F G) : Od K G v := by
  rcases h with ⟨d, h1, h2⟩ | ⟨a, e, F0, kvs, h1, h2, h3, h4, h5⟩
  · exact .inl ⟨d, dp_mono s _ _ h1, h2⟩
  · exact .inr ⟨a, e, F0, kvs, s _ _ h1, h2.trans s, h3, h4, h5⟩
theorem dp_flatV (h : flatV v = true) : ∃ d, Dp K F v d ∧ ∀ n, Dn (n + 1) d := by
  cases v with
  | non => exact ⟨_, .non, fun n => .none n⟩
  | bl x => exact ⟨_, .bl x, fun n => .bool n x⟩
  | int x => exact ⟨_, .int x, fun n => .int n x⟩
  | str x => exact ⟨_, .str x, fun n => .str n x⟩
  | byt x => cases h
  | flt x => cases h
  | ref x => cases h
  | ty x => cases h
theorem dpA_flat : ∀ {xs : List V}, xs.all flatV = true → ∃ ds, DpAll K F xs ds ∧ (∀ n, ∀ d ∈ ds, Dn (n + 1) d) ∧ ds.length = xs.length
  | [], _ => ⟨[], .nil, fun _ _ m => (by cases m), rfl⟩
  | x :: xs, h => by
    simp only [List.all_cons, Bool.and_eq_true] at h
    obtain ⟨d, h1, h2⟩ := dp_flatV (K := K) (F := F) h.1
    obtain ⟨ds, h3, h4, h5⟩ := dpA_flat (xs := xs) h.2
    refine ⟨d :: ds, .cons h1 h3, fun n c m => ?_, by simp [h5]⟩
    cases m with
    | head => exact h2 n
    | tail _ m => exact h4 n c m
theorem od_flat (h : flatV v = true) : Od K F v := by
  obtain ⟨d, h1, h2⟩ := dp_flatV (K := K) (F := F) h
  exact .inl ⟨d, h1, h2 2⟩
theorem od_t {xs : List V} (h : F a = some (.tup xs)) (hf : xs.all flatV = true) (l : xs.length ≤ 100000) : Od K F (.ref a) := by
  obtain ⟨ds, h3, h4, h5⟩ := dpA_flat (K := K) (F := F) hf
  exact .inl ⟨_, .tup (.inl (.inl h)) h3, .tuple 2 _ (h4 1) (by rw [h5]; exact l)⟩
theorem od_l {xs : List V} (h : F a = some (.lst xs)) (hf : xs.all flatV = true) (l : xs.length ≤ 100000) : Od K F (.ref a) := by
  obtain ⟨ds, h3, h4, h5⟩ := dpA_flat (K := K) (F := F) hf
  exact .inl ⟨_, .lst (.inl (.inl h)) h3, .list 2 _ (h4 1) (by rw [h5]; exact l)⟩
theorem od_tt {i : Int} (h : F a = some (.tup [.int i, .ref b])) (hb : F b = some (.tup [])) : Od K F (.ref a) := by
  refine .inl ⟨.tuple [.int i, .tuple []], .tup (.inl (.inl h)) (.cons (.int i) (.cons (.tup (.inl (.inl hb)) .nil) .nil)), .tuple 2 _ (fun c m => ?_) (by show 2 ≤ 100000; decide)⟩
  cases m with
  | head => exact .int 1 i
  | tail _ m =>
    cases m with
    | head => exact .tuple 1 _ (fun _ m => by cases m) (Nat.zero_le _)
    | tail _ m => cases m
theorem od_ll {i : Int} (h : F a = some (.lst [.ref b])) (hb : F b = some (.lst [.int i])) : Od K F (.ref a) := by
  refine .inl ⟨.list [.list [.int i]], .lst (.inl (.inl h)) (.cons (.lst (.inl (.inl hb)) (.cons (.int i) .nil)) .nil), .list 2 _ (fun c m => ?_) (by show 1 ≤ 100000; decide)⟩
  cases m with
  | head =>
    refine .list 1 _ (fun c m => ?_) (by show 1 ≤ 100000; decide)
    cases m with
    | head => exact .int 0 i
    | tail _ m => cases m
  | tail _ m => cases m
theorem od_d0 (h : F a = some (.dK [])) : Od K F (.ref a) := .inr ⟨a, rfl, nil0, [], h, fun _ _ e => (by cases e), rfl, Nat.zero_le _, fun _ m => (by cases m)⟩
theorem od_d1 {kvs : List (Key × V)} {k : Key} (h : F a = some (.dK kvs)) (e : kvs = [(k, .ref b)]) (hb : F b = some (.lst [.int 1])) (ne : a ≠ b) : Od K F (.ref a) := by
  refine .inr ⟨a, rfl, upd nil0 b (.lst [.int 1]), kvs, h, fun c o z => ?_, by rw [upd_ne ne]; rfl, (by rw [e]; show 1 ≤ 100; decide), fun kv m => ?_⟩
  · by_cases q : c = b
    · rw [q, upd_same] at z
      cases z
      rw [q]
      exact hb
    · rw [upd_ne q] at z
      cases z
  · subst e
    rw [List.mem_singleton.mp m]
    refine ⟨.ref b, .list [.int 1], by simp [valV], .lst (.inl (.inl upd_same)) (.cons (.int 1) .nil), .list 1 _ (fun c m => ?_) (by show 1 ≤ 100000; decide)⟩
    cases m with
    | head => exact .int 0 1
    | tail _ m => cases m
def wo (H : Hp) (D : Addr) : Hp := fun b => if b = D then none else H b
theorem wo_ne {H : Hp} {D b : Addr} (h : b ≠ D) : wo H D b = H b := if_neg h
theorem wo_put {H H' : Hp} {D : Addr} (s : Same H H') (o : HO) : Same (wo H D) (upd H' D o) := fun b u e => by
  by_cases q : b = D
  · rw [q] at e
    unfold wo at e
    rw [if_pos rfl] at e
    cases e
  · rw [wo_ne q] at e
    rw [upd_ne q]
    exact s _ _ e
end
/-- one object more, under one name -/
theorem bag_more {F H : Hp} {b p : Addr} {o : HO} (B : Bag F H b) (hp : H p = none) : ∃ F', Bag F' (upd H p o) b ∧ Same F F' ∧ F' p = some o ∧ F p = none :=
  ⟨upd F p o, B.new o hp, fun a u e => by rw [upd_ne (ne_of_none e (B.fh.free hp))]; exact e, upd_same, B.fh.free hp⟩
section
variable {P : Program} {w : World} {K : PySem.W.Frag} {mg : Str → Option Value} {base : Heap} {cl : Nat → Addr}
def spOdd (K : PySem.W.Frag) : Sp := fun vs H Q _ => ∃ (F : Hp) (b : Addr), vs = [.ref b] ∧ Bag F H b ∧ ∀ (v : V) (F' H' : Hp), Bag F' H' b → Same F F' → Od K F' v → Q v H'
abbrev s_l_odd : Stmt := topS 26
abbrev sc_l_oddN : List Str := ["_law_bag_here", "_law_number", "_law_odd_here"]
abbrev ps_l_odd : List Str := ["_law_bag_here"]
theorem sc_l_odd : FnScope sc_l_oddN ps_l_odd (defScope s_l_odd) := ⟨rfl, rfl, rfl, by decide +kernel, rfl, by decide +kernel, by decide +kernel⟩
theorem ok_l_odd {f : Addr} {fd : FuncData} (F : Fun K "_law_odd" "_law_odd" s_l_odd f fd) (T : Txt K mg cl) (D_l_pick : Df P w K mg base "_law_pick" 1 ps_l_pick spPick) : FnOk P w K mg base CX0 2 f fd ps_l_odd (spOdd K) := by
  refine F.ok sc_l_odd (fun vs H Q E h => ?_) (fun cdv A outer s H vs Q E hr h => ?_)
  · obtain ⟨_, _, rfl, _⟩ := h
    rfl
  · obtain ⟨F0, b, rfl, B, k⟩ := h
    refine ⟨_, (pss_cons (ps_set (i := 1) sc_l_odd.nd rfl (Or.inl rfl) (pe_op op_sub (pe_d D_l_pick (hr.mono (by decide)) (pa_cons (pv 0) (pa_cons pe_int pa_nil))) pe_int))
  (pss_cons (ps_set (i := 2) sc_l_odd.nd rfl (Or.inl rfl) (pe_lst (pa_cons pe_non (pa_cons pe_bl (pa_cons pe_bl (pa_cons pe_str (pa_cons pe_str (pa_cons pe_str (pa_cons pe_str (pa_cons pe_str (pa_cons pe_str (pa_cons (pe_tup pa_nil) (pa_cons (pe_lst pa_nil) (pa_cons pe_dnewK (pa_cons (pe_disp (pps_cons pe_str (pe_lst (pa_cons pe_int pa_nil)) pps_nil) (by rfl) (by rfl) (fun z => by cases z) (by decide)) (pa_cons (pe_tup (pa_cons pe_str (pa_cons pe_str (pa_cons pe_str pa_nil)))) (pa_cons (pe_lst (pa_cons pe_int (pa_cons pe_int pa_nil))) pa_nil)))))))))))))))))
  (pss_cons (ps_expr (pe_bm PySem.F.plainAttrs_list PySem.F.slot_list_extend PySem.F.type_list_extend mt_extend (pv 2) (pa_cons (pe_lst (pa_cons (pe_op op_add (pe_op op_pow pe_int pe_int) pe_int) (pa_cons (pe_op op_sub (pe_op op_sub pe_int (pe_op op_pow pe_int pe_int)) pe_int) (pa_cons (pe_op op_add (pe_op op_pow pe_int pe_int) (pv 1)) (pa_cons (pv 1) (pa_cons (pe_tup (pa_cons (pv 1) (pa_cons (pe_tup pa_nil) pa_nil))) (pa_cons (pe_lst (pa_cons (pe_lst (pa_cons (pv 1) pa_nil)) pa_nil)) (pa_cons (pe_tup (pa_cons pe_str pa_nil)) (pa_cons pe_str pa_nil))))))))) pa_nil)))
  (pss_one (ps_ret (pe_ix ix_list (pv 2) (pe_d D_l_pick (hr.mono (by decide)) (pa_cons (pv 0) (pa_cons (pe_callB call_len_seq (by rfl) T.n_len (by decide +kernel) (pa_cons (pv 2) pa_nil)) pa_nil))) (fun _ _ => rfl))))))), ?_⟩
    refine ⟨_, rfl, F0, b, 9, rfl, by decide, by decide, B, fun r G0 r0 r1 C0 => ⟨_, _, rfl, rfl, ?_⟩⟩
    refine ⟨Nat.zero_le _, fun p1 h1 => ?_⟩
    obtain ⟨F1, C1, s1, e1, _⟩ := bag_more (o := .tup []) C0 h1
    generalize upd G0 p1 (.tup []) = G1 at *
    refine ⟨Nat.zero_le _, fun p2 h2 => ?_⟩
    obtain ⟨F2, C2, s2, e2, _⟩ := bag_more (o := .lst []) C1 h2
    generalize upd G1 p2 (.lst []) = G2 at *
    intro p3 h3
    obtain ⟨F3, C3, s3, e3, _⟩ := bag_more (o := .dK []) C2 h3
    generalize upd G2 p3 (.dK []) = G3 at *
    intro p4 h4
    obtain ⟨F4, C4, s4, e4, n4⟩ := bag_more (o := .dK []) C3 h4
    generalize upd G3 p4 (.dK []) = G4 at *
    refine ⟨(by show 1 ≤ sizeLine; decide), fun p5 h5 => ?_⟩
    obtain ⟨F5, C5, s5, e5, _⟩ := bag_more (o := .lst [.int 1]) C4 h5
    generalize upd G4 p5 (.lst [.int 1]) = G5 at *
    refine ⟨C5.fh _ _ (s5 _ _ e4), [(Sum.inr "a", .ref p5)], rfl, (by show 1 ≤ 15; decide), ?_⟩
    obtain ⟨kv, hkv⟩ : ∃ kv, kv = mergeK [] [((Sum.inr "a" : Key), V.ref p5)] := ⟨_, rfl⟩
    rw [← hkv]
    have n45 : p4 ≠ p5 := ne_of_none (C4.fh _ _ e4) h5
    have e56 : (upd F5 p4 (.dK kv)) p5 = some (.lst [.int 1]) := by rw [upd_ne (Ne.symm n45)]; exact e5
    have C6 := C5.put (.dK kv) (s5 _ _ e4)
    have s6 : Same F3 (upd F5 p4 (.dK kv)) := same_put (s4.trans s5) _ n4
    have e6 : (upd F5 p4 (.dK kv)) p4 = some (.dK kv) := upd_same
    generalize upd F5 p4 (.dK kv) = F6 at *
    generalize upd G5 p4 (.dK kv) = G6 at *
    refine ⟨(by show 3 ≤ sizeLine; decide), fun p7 h7 => ?_⟩
    obtain ⟨F7, C7, s7, e7, _⟩ := bag_more (o := .tup [.str "of", .str "a", .str "b"]) C6 h7
    generalize upd G6 p7 (.tup [.str "of", .str "a", .str "b"]) = G7 at *
    refine ⟨(by show 2 ≤ sizeLine; decide), fun p8 h8 => ?_⟩
    obtain ⟨F8, C8, s8, e8, _⟩ := bag_more (o := .lst [.int 1, .int 2]) C7 h8
    generalize upd G7 p8 (.lst [.int 1, .int 2]) = G8 at *
    refine ⟨(by show 15 ≤ sizeLine; decide), fun L hL => ?_⟩
    have kn1 : ∀ v ∈ ([.non, .bl true, .bl false, .str "", .str "Ab", .str "a b", .str "abcdefghi", .str "a_b", .str "z1", .ref p1, .ref p2, .ref p3, .ref p4, .ref p7, .ref p8] : List V), Od K F8 v := by
      have t3 := (s6.trans s7).trans s8
      intro v m
      simp only [List.mem_cons, List.not_mem_nil, or_false] at m
      rcases m with rfl | rfl | rfl | rfl | rfl | rfl | rfl | rfl | rfl | rfl | rfl | rfl | rfl | rfl | rfl
      all_goals first
        | exact od_flat rfl
        | exact od_t (t3 _ _ (s3 _ _ (s2 _ _ e1))) rfl (Nat.zero_le _)
        | exact od_l (t3 _ _ (s3 _ _ e2)) rfl (Nat.zero_le _)
        | exact od_d0 (t3 _ _ e3)
        | exact od_d1 (s8 _ _ (s7 _ _ e6)) hkv (s8 _ _ (s7 _ _ e56)) n45
        | exact od_t (s8 _ _ e7) rfl (by decide)
        | exact od_l e8 rfl (by decide)
    generalize hxs : ([.non, .bl true, .bl false, .str "", .str "Ab", .str "a b", .str "abcdefghi", .str "a_b", .str "z1", .ref p1, .ref p2, .ref p3, .ref p4, .ref p7, .ref p8] : List V) = xs at *
    have lxs : xs.length = 15 := by rw [← hxs]; rfl
    obtain ⟨F9, C9, s9, e9, n9⟩ := bag_more (o := .lst xs) C8 hL
    have sAll : Same F0 F8 := s1.trans (s2.trans (s3.trans (s6.trans (s7.trans s8))))
    generalize upd G8 L (.lst xs) = G9 at *
    refine ⟨_, rfl, .inl ⟨rfl, _, .inl (.inl (C9.fh _ _ e9))⟩, ?_⟩
    refine ⟨_, _, rfl, rfl, ⟨by decide, by decide, by decide⟩, _, _, rfl, rfl, _, _, rfl, rfl, ⟨by decide, by decide, by decide⟩, _, _, rfl, rfl, _, _, rfl, rfl, _, _, rfl, rfl, ⟨by decide, by decide, by decide⟩, _, rfl, _, _, rfl, rfl, _, rfl, _, rfl, ?_⟩
    refine ⟨Nat.zero_le _, fun p10 h10 => ?_⟩
    obtain ⟨F10, C10, s10, e10, nn10⟩ := bag_more (o := .tup []) C9 h10
    generalize upd G9 p10 (.tup []) = G10 at *
    refine ⟨(by show 2 ≤ sizeLine; decide), fun p11 h11 => ?_⟩
    obtain ⟨F11, C11, s11, e11, nn11⟩ := bag_more (o := .tup [.int (r - 4), .ref p10]) C10 h11
    generalize upd G10 p11 (.tup [.int (r - 4), .ref p10]) = G11 at *
    refine ⟨_, rfl, ?_⟩
    refine ⟨(by show 1 ≤ sizeLine; decide), fun p12 h12 => ?_⟩
    obtain ⟨F12, C12, s12, e12, nn12⟩ := bag_more (o := .lst [.int (r - 4)]) C11 h12
    generalize upd G11 p12 (.lst [.int (r - 4)]) = G12 at *
    refine ⟨(by show 1 ≤ sizeLine; decide), fun p13 h13 => ?_⟩
    obtain ⟨F13, C13, s13, e13, nn13⟩ := bag_more (o := .lst [.ref p12]) C12 h13
    generalize upd G12 p13 (.lst [.ref p12]) = G13 at *
    refine ⟨(by show 1 ≤ sizeLine; decide), fun p14 h14 => ?_⟩
    obtain ⟨F14, C14, s14, e14, nn14⟩ := bag_more (o := .tup [.str "scan"]) C13 h14
    generalize upd G13 p14 (.tup [.str "scan"]) = G14 at *
    refine ⟨(by show 8 ≤ sizeLine; decide), fun M hM => ?_⟩
    have m10 : L ≠ p10 := ne_of_none e9 nn10
    have m11 : L ≠ p11 := ne_of_none (s10 _ _ e9) nn11
    have m12 : L ≠ p12 := ne_of_none (s11 _ _ (s10 _ _ e9)) nn12
    have m13 : L ≠ p13 := ne_of_none (s12 _ _ (s11 _ _ (s10 _ _ e9))) nn13
    have m14 : L ≠ p14 := ne_of_none (s13 _ _ (s12 _ _ (s11 _ _ (s10 _ _ e9)))) nn14
    have kn2 : ∀ v ∈ ([.int (10 ^ 9 + 1), .int (0 - 10 ^ 9 - 1), .int (10 ^ 40 + (r - 4)), .int (r - 4), .ref p11, .ref p13, .ref p14, .str "none"] : List V), Od K (wo F14 L) v := by
      intro v m
      simp only [List.mem_cons, List.not_mem_nil, or_false] at m
      rcases m with rfl | rfl | rfl | rfl | rfl | rfl | rfl | rfl
      all_goals first
        | exact od_flat rfl
        | exact od_tt (i := r - 4) (b := p10) (by rw [wo_ne (Ne.symm m11)]; exact s14 _ _ (s13 _ _ (s12 _ _ e11))) (by rw [wo_ne (Ne.symm m10)]; exact s14 _ _ (s13 _ _ (s12 _ _ (s11 _ _ e10))))
        | exact od_ll (i := r - 4) (b := p12) (by rw [wo_ne (Ne.symm m13)]; exact s14 _ _ e13) (by rw [wo_ne (Ne.symm m12)]; exact s14 _ _ (s13 _ _ e12))
        | exact od_t (xs := [.str "scan"]) (by rw [wo_ne (Ne.symm m14)]; exact e14) rfl (by decide)
    have t9 : Same F9 F14 := s10.trans (s11.trans (s12.trans (s13.trans s14)))
    obtain ⟨F15, C15, s15, e15, _⟩ := bag_more (o := .lst [.int (10 ^ 9 + 1), .int (0 - 10 ^ 9 - 1), .int (10 ^ 40 + (r - 4)), .int (r - 4), .ref p11, .ref p13, .ref p14, .str "none"]) C14 hM
    obtain ⟨ys, hys⟩ : ∃ ys : List V, ys = [.int (10 ^ 9 + 1), .int (0 - 10 ^ 9 - 1), .int (10 ^ 40 + (r - 4)), .int (r - 4), .ref p11, .ref p13, .ref p14, .str "none"] := ⟨_, rfl⟩
    have lys : ys.length = 8 := by rw [hys]; rfl
    rw [← hys] at kn2 e15 C15
    refine ⟨L, M, xs, ys, rfl, rfl, ?_, ?_, by rw [lxs, lys]; decide, ?_⟩
    · have z := C15.fh _ _ (s15 _ _ (t9 _ _ e9))
      rw [hys] at z
      exact z
    · have z := C15.fh _ _ e15
      rw [hys] at z
      rw [hys]
      exact z
    have C16 := C15.put (.lst (xs ++ ys)) (s15 _ _ (t9 _ _ e9))
    have t8 : Same F8 (upd F15 L (.lst (xs ++ ys))) := same_put (s9.trans (t9.trans s15)) _ n9
    have all : ∀ v ∈ xs ++ ys, Od K (upd F15 L (.lst (xs ++ ys))) v := fun v m => by
      rcases List.mem_append.mp m with m | m
      · exact (kn1 v m).same t8
      · exact (kn2 v m).same (wo_put s15 _)
    have eL : (upd F15 L (.lst (xs ++ ys))) L = some (.lst (xs ++ ys)) := upd_same
    have lz : (xs ++ ys).length = 23 := by rw [List.length_append, lxs, lys]
    refine ⟨_, rfl, _, rfl, _, rfl, L, xs ++ ys, rfl, .inl (.inl (.inl upd_same)), _, b, _, rfl, by rw [lz]; decide, by rw [lz]; decide, (by rw [hys] at C16; rw [hys]; exact C16), fun q H' q0 q1 CE => ?_⟩
    rw [← hys] at CE
    obtain ⟨v, hv, hm⟩ := at_mem (xs := xs ++ ys) q0 q1
    refine ⟨L, _, _, _, rfl, rfl, .inl (.inl (CE.fh _ _ eL)), hv, ?_⟩
    exact k v _ H' CE (sAll.trans t8) (all v hm)
end
end Fm

/-! ## K00D -/
set_option Elab.async false
set_option maxRecDepth 100000
set_option maxHeartbeats 4000000
namespace Fm
open PySem L2
section
variable {P : Program} {w : World} {K : PySem.W.Frag} {mg : Str → Option Value} {base : Heap} {cl : Nat → Addr}
abbrev s_BadShape_init : Stmt := inClass (topS 2) 0
abbrev sc_BadShape_initN : List Str := ["self", "at"]
abbrev ps_BadShape_init : List Str := ["self", "at"]
theorem sc_BadShape_init : FnScope sc_BadShape_initN ps_BadShape_init (defScope s_BadShape_init) := ⟨rfl, rfl, rfl, by decide +kernel, rfl, by decide +kernel, by decide +kernel⟩
theorem ok_BadShape {f : Addr} {fd : FuncData} (F : Fun K "__init__" "BadShape.__init__" s_BadShape_init f fd) : FnOk P w K mg base CX0 1 f fd ps_BadShape_init (spIn K "at") := by
  refine F.ok sc_BadShape_init (fun vs H Q E h => ?_) (fun cdv A outer s H vs Q E hr h => ?_)
  · obtain ⟨_, _, _, rfl, _⟩ := h
    rfl
  · obtain ⟨a, C, v, rfl, T, ha, hno, k⟩ := h
    exact ⟨_, pss_one (ps_ost (pv 0) (pv 1)), _, rfl, _, rfl, a, C, rfl, T, hno, .inl ⟨ha, fun dx h1 h2 => k dx h1 h2⟩⟩
abbrev s_BadName_init : Stmt := inClass (topS 3) 0
abbrev sc_BadName_initN : List Str := ["self", "value"]
abbrev ps_BadName_init : List Str := ["self", "value"]
theorem sc_BadName_init : FnScope sc_BadName_initN ps_BadName_init (defScope s_BadName_init) := ⟨rfl, rfl, rfl, by decide +kernel, rfl, by decide +kernel, by decide +kernel⟩
theorem ok_BadName {f : Addr} {fd : FuncData} (F : Fun K "__init__" "BadName.__init__" s_BadName_init f fd) : FnOk P w K mg base CX0 1 f fd ps_BadName_init (spIn K "value") := by
  refine F.ok sc_BadName_init (fun vs H Q E h => ?_) (fun cdv A outer s H vs Q E hr h => ?_)
  · obtain ⟨_, _, _, rfl, _⟩ := h
    rfl
  · obtain ⟨a, C, v, rfl, T, ha, hno, k⟩ := h
    exact ⟨_, pss_one (ps_ost (pv 0) (pv 1)), _, rfl, _, rfl, a, C, rfl, T, hno, .inl ⟨ha, fun dx h1 h2 => k dx h1 h2⟩⟩
abbrev s_BadStore_init : Stmt := inClass (topS 4) 0
abbrev sc_BadStore_initN : List Str := ["self", "value"]
abbrev ps_BadStore_init : List Str := ["self", "value"]
theorem sc_BadStore_init : FnScope sc_BadStore_initN ps_BadStore_init (defScope s_BadStore_init) := ⟨rfl, rfl, rfl, by decide +kernel, rfl, by decide +kernel, by decide +kernel⟩
theorem ok_BadStore {f : Addr} {fd : FuncData} (F : Fun K "__init__" "BadStore.__init__" s_BadStore_init f fd) : FnOk P w K mg base CX0 1 f fd ps_BadStore_init (spIn K "value") := by
  refine F.ok sc_BadStore_init (fun vs H Q E h => ?_) (fun cdv A outer s H vs Q E hr h => ?_)
  · obtain ⟨_, _, _, rfl, _⟩ := h
    rfl
  · obtain ⟨a, C, v, rfl, T, ha, hno, k⟩ := h
    exact ⟨_, pss_one (ps_ost (pv 0) (pv 1)), _, rfl, _, rfl, a, C, rfl, T, hno, .inl ⟨ha, fun dx h1 h2 => k dx h1 h2⟩⟩
abbrev s_BadRows_init : Stmt := inClass (topS 5) 0
abbrev sc_BadRows_initN : List Str := ["self", "value"]
abbrev ps_BadRows_init : List Str := ["self", "value"]
theorem sc_BadRows_init : FnScope sc_BadRows_initN ps_BadRows_init (defScope s_BadRows_init) := ⟨rfl, rfl, rfl, by decide +kernel, rfl, by decide +kernel, by decide +kernel⟩
theorem ok_BadRows {f : Addr} {fd : FuncData} (F : Fun K "__init__" "BadRows.__init__" s_BadRows_init f fd) : FnOk P w K mg base CX0 1 f fd ps_BadRows_init (spIn K "value") := by
  refine F.ok sc_BadRows_init (fun vs H Q E h => ?_) (fun cdv A outer s H vs Q E hr h => ?_)
  · obtain ⟨_, _, _, rfl, _⟩ := h
    rfl
  · obtain ⟨a, C, v, rfl, T, ha, hno, k⟩ := h
    exact ⟨_, pss_one (ps_ost (pv 0) (pv 1)), _, rfl, _, rfl, a, C, rfl, T, hno, .inl ⟨ha, fun dx h1 h2 => k dx h1 h2⟩⟩
abbrev s_BadIndex_init : Stmt := inClass (topS 6) 0
abbrev sc_BadIndex_initN : List Str := ["self", "value"]
abbrev ps_BadIndex_init : List Str := ["self", "value"]
theorem sc_BadIndex_init : FnScope sc_BadIndex_initN ps_BadIndex_init (defScope s_BadIndex_init) := ⟨rfl, rfl, rfl, by decide +kernel, rfl, by decide +kernel, by decide +kernel⟩
theorem ok_BadIndex {f : Addr} {fd : FuncData} (F : Fun K "__init__" "BadIndex.__init__" s_BadIndex_init f fd) : FnOk P w K mg base CX0 1 f fd ps_BadIndex_init (spIn K "value") := by
  refine F.ok sc_BadIndex_init (fun vs H Q E h => ?_) (fun cdv A outer s H vs Q E hr h => ?_)
  · obtain ⟨_, _, _, rfl, _⟩ := h
    rfl
  · obtain ⟨a, C, v, rfl, T, ha, hno, k⟩ := h
    exact ⟨_, pss_one (ps_ost (pv 0) (pv 1)), _, rfl, _, rfl, a, C, rfl, T, hno, .inl ⟨ha, fun dx h1 h2 => k dx h1 h2⟩⟩
abbrev s_BadBlock_init : Stmt := inClass (topS 7) 0
abbrev sc_BadBlock_initN : List Str := ["self", "at"]
abbrev ps_BadBlock_init : List Str := ["self", "at"]
theorem sc_BadBlock_init : FnScope sc_BadBlock_initN ps_BadBlock_init (defScope s_BadBlock_init) := ⟨rfl, rfl, rfl, by decide +kernel, rfl, by decide +kernel, by decide +kernel⟩
theorem ok_BadBlock {f : Addr} {fd : FuncData} (F : Fun K "__init__" "BadBlock.__init__" s_BadBlock_init f fd) : FnOk P w K mg base CX0 1 f fd ps_BadBlock_init (spIn K "at") := by
  refine F.ok sc_BadBlock_init (fun vs H Q E h => ?_) (fun cdv A outer s H vs Q E hr h => ?_)
  · obtain ⟨_, _, _, rfl, _⟩ := h
    rfl
  · obtain ⟨a, C, v, rfl, T, ha, hno, k⟩ := h
    exact ⟨_, pss_one (ps_ost (pv 0) (pv 1)), _, rfl, _, rfl, a, C, rfl, T, hno, .inl ⟨ha, fun dx h1 h2 => k dx h1 h2⟩⟩
abbrev s_BadProgram_init : Stmt := inClass (topS 8) 0
abbrev sc_BadProgram_initN : List Str := ["self", "value"]
abbrev ps_BadProgram_init : List Str := ["self", "value"]
theorem sc_BadProgram_init : FnScope sc_BadProgram_initN ps_BadProgram_init (defScope s_BadProgram_init) := ⟨rfl, rfl, rfl, by decide +kernel, rfl, by decide +kernel, by decide +kernel⟩
theorem ok_BadProgram {f : Addr} {fd : FuncData} (F : Fun K "__init__" "BadProgram.__init__" s_BadProgram_init f fd) : FnOk P w K mg base CX0 1 f fd ps_BadProgram_init (spIn K "value") := by
  refine F.ok sc_BadProgram_init (fun vs H Q E h => ?_) (fun cdv A outer s H vs Q E hr h => ?_)
  · obtain ⟨_, _, _, rfl, _⟩ := h
    rfl
  · obtain ⟨a, C, v, rfl, T, ha, hno, k⟩ := h
    exact ⟨_, pss_one (ps_ost (pv 0) (pv 1)), _, rfl, _, rfl, a, C, rfl, T, hno, .inl ⟨ha, fun dx h1 h2 => k dx h1 h2⟩⟩
abbrev s_BadPattern_init : Stmt := inClass (topS 9) 0
abbrev sc_BadPattern_initN : List Str := ["self", "at"]
abbrev ps_BadPattern_init : List Str := ["self", "at"]
theorem sc_BadPattern_init : FnScope sc_BadPattern_initN ps_BadPattern_init (defScope s_BadPattern_init) := ⟨rfl, rfl, rfl, by decide +kernel, rfl, by decide +kernel, by decide +kernel⟩
theorem ok_BadPattern {f : Addr} {fd : FuncData} (F : Fun K "__init__" "BadPattern.__init__" s_BadPattern_init f fd) : FnOk P w K mg base CX0 1 f fd ps_BadPattern_init (spIn K "at") := by
  refine F.ok sc_BadPattern_init (fun vs H Q E h => ?_) (fun cdv A outer s H vs Q E hr h => ?_)
  · obtain ⟨_, _, _, rfl, _⟩ := h
    rfl
  · obtain ⟨a, C, v, rfl, T, ha, hno, k⟩ := h
    exact ⟨_, pss_one (ps_ost (pv 0) (pv 1)), _, rfl, _, rfl, a, C, rfl, T, hno, .inl ⟨ha, fun dx h1 h2 => k dx h1 h2⟩⟩
abbrev s_BadPair_init : Stmt := inClass (topS 10) 0
abbrev sc_BadPair_initN : List Str := ["self", "value"]
abbrev ps_BadPair_init : List Str := ["self", "value"]
theorem sc_BadPair_init : FnScope sc_BadPair_initN ps_BadPair_init (defScope s_BadPair_init) := ⟨rfl, rfl, rfl, by decide +kernel, rfl, by decide +kernel, by decide +kernel⟩
theorem ok_BadPair {f : Addr} {fd : FuncData} (F : Fun K "__init__" "BadPair.__init__" s_BadPair_init f fd) : FnOk P w K mg base CX0 1 f fd ps_BadPair_init (spIn K "value") := by
  refine F.ok sc_BadPair_init (fun vs H Q E h => ?_) (fun cdv A outer s H vs Q E hr h => ?_)
  · obtain ⟨_, _, _, rfl, _⟩ := h
    rfl
  · obtain ⟨a, C, v, rfl, T, ha, hno, k⟩ := h
    exact ⟨_, pss_one (ps_ost (pv 0) (pv 1)), _, rfl, _, rfl, a, C, rfl, T, hno, .inl ⟨ha, fun dx h1 h2 => k dx h1 h2⟩⟩
abbrev s_BadMove_init : Stmt := inClass (topS 11) 0
abbrev sc_BadMove_initN : List Str := ["self", "value"]
abbrev ps_BadMove_init : List Str := ["self", "value"]
theorem sc_BadMove_init : FnScope sc_BadMove_initN ps_BadMove_init (defScope s_BadMove_init) := ⟨rfl, rfl, rfl, by decide +kernel, rfl, by decide +kernel, by decide +kernel⟩
theorem ok_BadMove {f : Addr} {fd : FuncData} (F : Fun K "__init__" "BadMove.__init__" s_BadMove_init f fd) : FnOk P w K mg base CX0 1 f fd ps_BadMove_init (spIn K "value") := by
  refine F.ok sc_BadMove_init (fun vs H Q E h => ?_) (fun cdv A outer s H vs Q E hr h => ?_)
  · obtain ⟨_, _, _, rfl, _⟩ := h
    rfl
  · obtain ⟨a, C, v, rfl, T, ha, hno, k⟩ := h
    exact ⟨_, pss_one (ps_ost (pv 0) (pv 1)), _, rfl, _, rfl, a, C, rfl, T, hno, .inl ⟨ha, fun dx h1 h2 => k dx h1 h2⟩⟩
abbrev s_BadAsk_init : Stmt := inClass (topS 12) 0
abbrev sc_BadAsk_initN : List Str := ["self", "at"]
abbrev ps_BadAsk_init : List Str := ["self", "at"]
theorem sc_BadAsk_init : FnScope sc_BadAsk_initN ps_BadAsk_init (defScope s_BadAsk_init) := ⟨rfl, rfl, rfl, by decide +kernel, rfl, by decide +kernel, by decide +kernel⟩
theorem ok_BadAsk {f : Addr} {fd : FuncData} (F : Fun K "__init__" "BadAsk.__init__" s_BadAsk_init f fd) : FnOk P w K mg base CX0 1 f fd ps_BadAsk_init (spIn K "at") := by
  refine F.ok sc_BadAsk_init (fun vs H Q E h => ?_) (fun cdv A outer s H vs Q E hr h => ?_)
  · obtain ⟨_, _, _, rfl, _⟩ := h
    rfl
  · obtain ⟨a, C, v, rfl, T, ha, hno, k⟩ := h
    exact ⟨_, pss_one (ps_ost (pv 0) (pv 1)), _, rfl, _, rfl, a, C, rfl, T, hno, .inl ⟨ha, fun dx h1 h2 => k dx h1 h2⟩⟩
abbrev s_BadAsks_init : Stmt := inClass (topS 13) 0
abbrev sc_BadAsks_initN : List Str := ["self", "value"]
abbrev ps_BadAsks_init : List Str := ["self", "value"]
theorem sc_BadAsks_init : FnScope sc_BadAsks_initN ps_BadAsks_init (defScope s_BadAsks_init) := ⟨rfl, rfl, rfl, by decide +kernel, rfl, by decide +kernel, by decide +kernel⟩
theorem ok_BadAsks {f : Addr} {fd : FuncData} (F : Fun K "__init__" "BadAsks.__init__" s_BadAsks_init f fd) : FnOk P w K mg base CX0 1 f fd ps_BadAsks_init (spIn K "value") := by
  refine F.ok sc_BadAsks_init (fun vs H Q E h => ?_) (fun cdv A outer s H vs Q E hr h => ?_)
  · obtain ⟨_, _, _, rfl, _⟩ := h
    rfl
  · obtain ⟨a, C, v, rfl, T, ha, hno, k⟩ := h
    exact ⟨_, pss_one (ps_ost (pv 0) (pv 1)), _, rfl, _, rfl, a, C, rfl, T, hno, .inl ⟨ha, fun dx h1 h2 => k dx h1 h2⟩⟩
abbrev s_BadPlan_init : Stmt := inClass (topS 14) 0
abbrev sc_BadPlan_initN : List Str := ["self", "value"]
abbrev ps_BadPlan_init : List Str := ["self", "value"]
theorem sc_BadPlan_init : FnScope sc_BadPlan_initN ps_BadPlan_init (defScope s_BadPlan_init) := ⟨rfl, rfl, rfl, by decide +kernel, rfl, by decide +kernel, by decide +kernel⟩
theorem ok_BadPlan {f : Addr} {fd : FuncData} (F : Fun K "__init__" "BadPlan.__init__" s_BadPlan_init f fd) : FnOk P w K mg base CX0 1 f fd ps_BadPlan_init (spIn K "value") := by
  refine F.ok sc_BadPlan_init (fun vs H Q E h => ?_) (fun cdv A outer s H vs Q E hr h => ?_)
  · obtain ⟨_, _, _, rfl, _⟩ := h
    rfl
  · obtain ⟨a, C, v, rfl, T, ha, hno, k⟩ := h
    exact ⟨_, pss_one (ps_ost (pv 0) (pv 1)), _, rfl, _, rfl, a, C, rfl, T, hno, .inl ⟨ha, fun dx h1 h2 => k dx h1 h2⟩⟩
abbrev s_BadCount_init : Stmt := inClass (topS 15) 0
abbrev sc_BadCount_initN : List Str := ["self", "value"]
abbrev ps_BadCount_init : List Str := ["self", "value"]
theorem sc_BadCount_init : FnScope sc_BadCount_initN ps_BadCount_init (defScope s_BadCount_init) := ⟨rfl, rfl, rfl, by decide +kernel, rfl, by decide +kernel, by decide +kernel⟩
theorem ok_BadCount {f : Addr} {fd : FuncData} (F : Fun K "__init__" "BadCount.__init__" s_BadCount_init f fd) : FnOk P w K mg base CX0 1 f fd ps_BadCount_init (spIn K "value") := by
  refine F.ok sc_BadCount_init (fun vs H Q E h => ?_) (fun cdv A outer s H vs Q E hr h => ?_)
  · obtain ⟨_, _, _, rfl, _⟩ := h
    rfl
  · obtain ⟨a, C, v, rfl, T, ha, hno, k⟩ := h
    exact ⟨_, pss_one (ps_ost (pv 0) (pv 1)), _, rfl, _, rfl, a, C, rfl, T, hno, .inl ⟨ha, fun dx h1 h2 => k dx h1 h2⟩⟩
abbrev s_BadText_init : Stmt := inClass (topS 16) 0
abbrev sc_BadText_initN : List Str := ["self", "at"]
abbrev ps_BadText_init : List Str := ["self", "at"]
theorem sc_BadText_init : FnScope sc_BadText_initN ps_BadText_init (defScope s_BadText_init) := ⟨rfl, rfl, rfl, by decide +kernel, rfl, by decide +kernel, by decide +kernel⟩
theorem ok_BadText {f : Addr} {fd : FuncData} (F : Fun K "__init__" "BadText.__init__" s_BadText_init f fd) : FnOk P w K mg base CX0 1 f fd ps_BadText_init (spIn K "at") := by
  refine F.ok sc_BadText_init (fun vs H Q E h => ?_) (fun cdv A outer s H vs Q E hr h => ?_)
  · obtain ⟨_, _, _, rfl, _⟩ := h
    rfl
  · obtain ⟨a, C, v, rfl, T, ha, hno, k⟩ := h
    exact ⟨_, pss_one (ps_ost (pv 0) (pv 1)), _, rfl, _, rfl, a, C, rfl, T, hno, .inl ⟨ha, fun dx h1 h2 => k dx h1 h2⟩⟩
abbrev s_NotPlain_init : Stmt := inClass (topS 17) 0
abbrev sc_NotPlain_initN : List Str := ["self", "at"]
abbrev ps_NotPlain_init : List Str := ["self", "at"]
theorem sc_NotPlain_init : FnScope sc_NotPlain_initN ps_NotPlain_init (defScope s_NotPlain_init) := ⟨rfl, rfl, rfl, by decide +kernel, rfl, by decide +kernel, by decide +kernel⟩
theorem ok_NotPlain {f : Addr} {fd : FuncData} (F : Fun K "__init__" "NotPlain.__init__" s_NotPlain_init f fd) : FnOk P w K mg base CX0 1 f fd ps_NotPlain_init (spIn K "at") := by
  refine F.ok sc_NotPlain_init (fun vs H Q E h => ?_) (fun cdv A outer s H vs Q E hr h => ?_)
  · obtain ⟨_, _, _, rfl, _⟩ := h
    rfl
  · obtain ⟨a, C, v, rfl, T, ha, hno, k⟩ := h
    exact ⟨_, pss_one (ps_ost (pv 0) (pv 1)), _, rfl, _, rfl, a, C, rfl, T, hno, .inl ⟨ha, fun dx h1 h2 => k dx h1 h2⟩⟩
abbrev s_Unlike_init : Stmt := inClass (topS 18) 0
abbrev sc_Unlike_initN : List Str := ["self", "value"]
abbrev ps_Unlike_init : List Str := ["self", "value"]
theorem sc_Unlike_init : FnScope sc_Unlike_initN ps_Unlike_init (defScope s_Unlike_init) := ⟨rfl, rfl, rfl, by decide +kernel, rfl, by decide +kernel, by decide +kernel⟩
theorem ok_Unlike {f : Addr} {fd : FuncData} (F : Fun K "__init__" "Unlike.__init__" s_Unlike_init f fd) : FnOk P w K mg base CX0 1 f fd ps_Unlike_init (spIn K "value") := by
  refine F.ok sc_Unlike_init (fun vs H Q E h => ?_) (fun cdv A outer s H vs Q E hr h => ?_)
  · obtain ⟨_, _, _, rfl, _⟩ := h
    rfl
  · obtain ⟨a, C, v, rfl, T, ha, hno, k⟩ := h
    exact ⟨_, pss_one (ps_ost (pv 0) (pv 1)), _, rfl, _, rfl, a, C, rfl, T, hno, .inl ⟨ha, fun dx h1 h2 => k dx h1 h2⟩⟩
def spRaise (cl : Nat → Addr) : Sp := fun vs H Q E => ∃ (i : Nat) (v : V), vs = [.int i, v] ∧ i < 21 ∧ (i < 17 → ∀ d, H d = none → E (.ref (cl i)) (some d) (upd H d (.xd [(fld i, v)]))) ∧ (17 ≤ i → E (.ref (cl i)) none H)
def spNamed (cl : Nat → Addr) : Sp := fun vs H Q E => ∃ (i : Nat) (v : V), vs = [.int i, v] ∧ i < 17 ∧ ∀ d, H d = none → E (.ref (cl i)) (some d) (upd H d (.xd [(fld i, v)]))
theorem int_at {i j : Nat} (h : V.int (i : Int) = V.int (j : Int)) : i = j := by
  have z := intV h
  omega
theorem int_no {i j : Nat} (h : ¬ V.int (i : Int) = V.int (j : Int)) : i ≠ j := fun e => h (by rw [e])
abbrev s_l_raise : Stmt := topS 27
abbrev sc_l_raiseN : List Str := ["_law_which", "_law_thing"]
abbrev ps_l_raise : List Str := ["_law_which", "_law_thing"]
theorem sc_l_raise : FnScope sc_l_raiseN ps_l_raise (defScope s_l_raise) := ⟨rfl, rfl, rfl, by decide +kernel, rfl, by decide +kernel, by decide +kernel⟩
theorem ok_l_raise {f : Addr} {fd : FuncData} (F : Fun K "_law_raise" "_law_raise" s_l_raise f fd) (X_BadShape : Xf P w K mg base "BadShape" (cl 0) "at") (X_BadName : Xf P w K mg base "BadName" (cl 1) "value") (X_BadStore : Xf P w K mg base "BadStore" (cl 2) "value") (X_BadRows : Xf P w K mg base "BadRows" (cl 3) "value") (X_BadIndex : Xf P w K mg base "BadIndex" (cl 4) "value") (X_BadBlock : Xf P w K mg base "BadBlock" (cl 5) "at") (X_BadProgram : Xf P w K mg base "BadProgram" (cl 6) "value") (X_BadPattern : Xf P w K mg base "BadPattern" (cl 7) "at") (X_BadPair : Xf P w K mg base "BadPair" (cl 8) "value") (X_BadMove : Xf P w K mg base "BadMove" (cl 9) "value") (X_BadAsk : Xf P w K mg base "BadAsk" (cl 10) "at") (X_BadAsks : Xf P w K mg base "BadAsks" (cl 11) "value") (X_BadPlan : Xf P w K mg base "BadPlan" (cl 12) "value") (X_BadCount : Xf P w K mg base "BadCount" (cl 13) "value") (X_BadText : Xf P w K mg base "BadText" (cl 14) "at") (X_NotPlain : Xf P w K mg base "NotPlain" (cl 15) "at") (X_Unlike : Xf P w K mg base "Unlike" (cl 16) "value") (X_NothingDone : X0 K mg "NothingDone" (cl 17)) (X_TooMany : X0 K mg "TooMany" (cl 18)) (X_TooLong : X0 K mg "TooLong" (cl 19)) (X_MetError : X0 K mg "MetError" (cl 20)) : FnOk P w K mg base (L2.CX P w) 3 f fd ps_l_raise (spRaise cl) := by
  refine F.okX sc_l_raise (fun vs H Q E h => ?_) (fun cdv A outer s H vs Q E hr h => ?_)
  · obtain ⟨_, _, rfl, _⟩ := h
    rfl
  · obtain ⟨i, v, rfl, hi, k1, k0⟩ := h
    refine ⟨_, (pss_cons (ps_if (pt_cmpR op_eq (pv 0) pe_int (nomark _))
    (pss_one (ps_rE X_BadShape (hr.mono (by decide)) (takes_of rfl rfl rfl rfl) (pv 1)))
    pss_nil)
  (pss_cons (ps_if (pt_cmpR op_eq (pv 0) pe_int (nomark _))
    (pss_one (ps_rE X_BadName (hr.mono (by decide)) (takes_of rfl rfl rfl rfl) (pv 1)))
    pss_nil)
  (pss_cons (ps_if (pt_cmpR op_eq (pv 0) pe_int (nomark _))
    (pss_one (ps_rE X_BadStore (hr.mono (by decide)) (takes_of rfl rfl rfl rfl) (pv 1)))
    pss_nil)
  (pss_cons (ps_if (pt_cmpR op_eq (pv 0) pe_int (nomark _))
    (pss_one (ps_rE X_BadRows (hr.mono (by decide)) (takes_of rfl rfl rfl rfl) (pv 1)))
    pss_nil)
  (pss_cons (ps_if (pt_cmpR op_eq (pv 0) pe_int (nomark _))
    (pss_one (ps_rE X_BadIndex (hr.mono (by decide)) (takes_of rfl rfl rfl rfl) (pv 1)))
    pss_nil)
  (pss_cons (ps_if (pt_cmpR op_eq (pv 0) pe_int (nomark _))
    (pss_one (ps_rE X_BadBlock (hr.mono (by decide)) (takes_of rfl rfl rfl rfl) (pv 1)))
    pss_nil)
  (pss_cons (ps_if (pt_cmpR op_eq (pv 0) pe_int (nomark _))
    (pss_one (ps_rE X_BadProgram (hr.mono (by decide)) (takes_of rfl rfl rfl rfl) (pv 1)))
    pss_nil)
  (pss_cons (ps_if (pt_cmpR op_eq (pv 0) pe_int (nomark _))
    (pss_one (ps_rE X_BadPattern (hr.mono (by decide)) (takes_of rfl rfl rfl rfl) (pv 1)))
    pss_nil)
  (pss_cons (ps_if (pt_cmpR op_eq (pv 0) pe_int (nomark _))
    (pss_one (ps_rE X_BadPair (hr.mono (by decide)) (takes_of rfl rfl rfl rfl) (pv 1)))
    pss_nil)
  (pss_cons (ps_if (pt_cmpR op_eq (pv 0) pe_int (nomark _))
    (pss_one (ps_rE X_BadMove (hr.mono (by decide)) (takes_of rfl rfl rfl rfl) (pv 1)))
    pss_nil)
  (pss_cons (ps_if (pt_cmpR op_eq (pv 0) pe_int (nomark _))
    (pss_one (ps_rE X_BadAsk (hr.mono (by decide)) (takes_of rfl rfl rfl rfl) (pv 1)))
    pss_nil)
  (pss_cons (ps_if (pt_cmpR op_eq (pv 0) pe_int (nomark _))
    (pss_one (ps_rE X_BadAsks (hr.mono (by decide)) (takes_of rfl rfl rfl rfl) (pv 1)))
    pss_nil)
  (pss_cons (ps_if (pt_cmpR op_eq (pv 0) pe_int (nomark _))
    (pss_one (ps_rE X_BadPlan (hr.mono (by decide)) (takes_of rfl rfl rfl rfl) (pv 1)))
    pss_nil)
  (pss_cons (ps_if (pt_cmpR op_eq (pv 0) pe_int (nomark _))
    (pss_one (ps_rE X_BadCount (hr.mono (by decide)) (takes_of rfl rfl rfl rfl) (pv 1)))
    pss_nil)
  (pss_cons (ps_if (pt_cmpR op_eq (pv 0) pe_int (nomark _))
    (pss_one (ps_rE X_BadText (hr.mono (by decide)) (takes_of rfl rfl rfl rfl) (pv 1)))
    pss_nil)
  (pss_cons (ps_if (pt_cmpR op_eq (pv 0) pe_int (nomark _))
    (pss_one (ps_rE X_NotPlain (hr.mono (by decide)) (takes_of rfl rfl rfl rfl) (pv 1)))
    pss_nil)
  (pss_cons (ps_if (pt_cmpR op_eq (pv 0) pe_int (nomark _))
    (pss_one (ps_rE X_Unlike (hr.mono (by decide)) (takes_of rfl rfl rfl rfl) (pv 1)))
    pss_nil)
  (pss_cons (ps_if (pt_cmpR op_eq (pv 0) pe_int (nomark _))
    (pss_one (ps_r0 X_NothingDone (takes_of rfl rfl rfl rfl)))
    pss_nil)
  (pss_cons (ps_if (pt_cmpR op_eq (pv 0) pe_int (nomark _))
    (pss_one (ps_r0 X_TooMany (takes_of rfl rfl rfl rfl)))
    pss_nil)
  (pss_cons (ps_if (pt_cmpR op_eq (pv 0) pe_int (nomark _))
    (pss_one (ps_r0 X_TooLong (takes_of rfl rfl rfl rfl)))
    pss_nil)
  (pss_one (ps_r0 X_MetError (takes_of rfl rfl rfl rfl))))))))))))))))))))))), ?_⟩
    refine ⟨_, rfl, rfl, _, rfl, ifd (fun e => ?_) fun n0 => ?_⟩
    · have e2 : i = 0 := int_at e
      subst e2
      exact ⟨v, rfl, fun d hd => k1 (by decide) d hd⟩
    refine ⟨_, rfl, rfl, _, rfl, ifd (fun e => ?_) fun n1 => ?_⟩
    · have e2 : i = 1 := int_at e
      subst e2
      exact ⟨v, rfl, fun d hd => k1 (by decide) d hd⟩
    refine ⟨_, rfl, rfl, _, rfl, ifd (fun e => ?_) fun n2 => ?_⟩
    · have e2 : i = 2 := int_at e
      subst e2
      exact ⟨v, rfl, fun d hd => k1 (by decide) d hd⟩
    refine ⟨_, rfl, rfl, _, rfl, ifd (fun e => ?_) fun n3 => ?_⟩
    · have e2 : i = 3 := int_at e
      subst e2
      exact ⟨v, rfl, fun d hd => k1 (by decide) d hd⟩
    refine ⟨_, rfl, rfl, _, rfl, ifd (fun e => ?_) fun n4 => ?_⟩
    · have e2 : i = 4 := int_at e
      subst e2
      exact ⟨v, rfl, fun d hd => k1 (by decide) d hd⟩
    refine ⟨_, rfl, rfl, _, rfl, ifd (fun e => ?_) fun n5 => ?_⟩
    · have e2 : i = 5 := int_at e
      subst e2
      exact ⟨v, rfl, fun d hd => k1 (by decide) d hd⟩
    refine ⟨_, rfl, rfl, _, rfl, ifd (fun e => ?_) fun n6 => ?_⟩
    · have e2 : i = 6 := int_at e
      subst e2
      exact ⟨v, rfl, fun d hd => k1 (by decide) d hd⟩
    refine ⟨_, rfl, rfl, _, rfl, ifd (fun e => ?_) fun n7 => ?_⟩
    · have e2 : i = 7 := int_at e
      subst e2
      exact ⟨v, rfl, fun d hd => k1 (by decide) d hd⟩
    refine ⟨_, rfl, rfl, _, rfl, ifd (fun e => ?_) fun n8 => ?_⟩
    · have e2 : i = 8 := int_at e
      subst e2
      exact ⟨v, rfl, fun d hd => k1 (by decide) d hd⟩
    refine ⟨_, rfl, rfl, _, rfl, ifd (fun e => ?_) fun n9 => ?_⟩
    · have e2 : i = 9 := int_at e
      subst e2
      exact ⟨v, rfl, fun d hd => k1 (by decide) d hd⟩
    refine ⟨_, rfl, rfl, _, rfl, ifd (fun e => ?_) fun n10 => ?_⟩
    · have e2 : i = 10 := int_at e
      subst e2
      exact ⟨v, rfl, fun d hd => k1 (by decide) d hd⟩
    refine ⟨_, rfl, rfl, _, rfl, ifd (fun e => ?_) fun n11 => ?_⟩
    · have e2 : i = 11 := int_at e
      subst e2
      exact ⟨v, rfl, fun d hd => k1 (by decide) d hd⟩
    refine ⟨_, rfl, rfl, _, rfl, ifd (fun e => ?_) fun n12 => ?_⟩
    · have e2 : i = 12 := int_at e
      subst e2
      exact ⟨v, rfl, fun d hd => k1 (by decide) d hd⟩
    refine ⟨_, rfl, rfl, _, rfl, ifd (fun e => ?_) fun n13 => ?_⟩
    · have e2 : i = 13 := int_at e
      subst e2
      exact ⟨v, rfl, fun d hd => k1 (by decide) d hd⟩
    refine ⟨_, rfl, rfl, _, rfl, ifd (fun e => ?_) fun n14 => ?_⟩
    · have e2 : i = 14 := int_at e
      subst e2
      exact ⟨v, rfl, fun d hd => k1 (by decide) d hd⟩
    refine ⟨_, rfl, rfl, _, rfl, ifd (fun e => ?_) fun n15 => ?_⟩
    · have e2 : i = 15 := int_at e
      subst e2
      exact ⟨v, rfl, fun d hd => k1 (by decide) d hd⟩
    refine ⟨_, rfl, rfl, _, rfl, ifd (fun e => ?_) fun n16 => ?_⟩
    · have e2 : i = 16 := int_at e
      subst e2
      exact ⟨v, rfl, fun d hd => k1 (by decide) d hd⟩
    refine ⟨_, rfl, rfl, _, rfl, ifd (fun e => ?_) fun n17 => ?_⟩
    · have e2 : i = 17 := int_at e
      subst e2
      exact k0 (by decide)
    refine ⟨_, rfl, rfl, _, rfl, ifd (fun e => ?_) fun n18 => ?_⟩
    · have e2 : i = 18 := int_at e
      subst e2
      exact k0 (by decide)
    refine ⟨_, rfl, rfl, _, rfl, ifd (fun e => ?_) fun n19 => ?_⟩
    · have e2 : i = 19 := int_at e
      subst e2
      exact k0 (by decide)
    have e2 : i = 20 := by
      have m0 := int_no (j := 0) n0
      have m1 := int_no (j := 1) n1
      have m2 := int_no (j := 2) n2
      have m3 := int_no (j := 3) n3
      have m4 := int_no (j := 4) n4
      have m5 := int_no (j := 5) n5
      have m6 := int_no (j := 6) n6
      have m7 := int_no (j := 7) n7
      have m8 := int_no (j := 8) n8
      have m9 := int_no (j := 9) n9
      have m10 := int_no (j := 10) n10
      have m11 := int_no (j := 11) n11
      have m12 := int_no (j := 12) n12
      have m13 := int_no (j := 13) n13
      have m14 := int_no (j := 14) n14
      have m15 := int_no (j := 15) n15
      have m16 := int_no (j := 16) n16
      have m17 := int_no (j := 17) n17
      have m18 := int_no (j := 18) n18
      have m19 := int_no (j := 19) n19
      omega
    subst e2
    exact k0 (by decide)
abbrev s_l_raise_named : Stmt := topS 28
abbrev sc_l_raise_namedN : List Str := ["_law_which", "_law_thing"]
abbrev ps_l_raise_named : List Str := ["_law_which", "_law_thing"]
theorem sc_l_raise_named : FnScope sc_l_raise_namedN ps_l_raise_named (defScope s_l_raise_named) := ⟨rfl, rfl, rfl, by decide +kernel, rfl, by decide +kernel, by decide +kernel⟩
theorem ok_l_raise_named {f : Addr} {fd : FuncData} (F : Fun K "_law_raise_named" "_law_raise_named" s_l_raise_named f fd) (X_BadShape : Xf P w K mg base "BadShape" (cl 0) "at") (X_BadName : Xf P w K mg base "BadName" (cl 1) "value") (X_BadStore : Xf P w K mg base "BadStore" (cl 2) "value") (X_BadRows : Xf P w K mg base "BadRows" (cl 3) "value") (X_BadIndex : Xf P w K mg base "BadIndex" (cl 4) "value") (X_BadBlock : Xf P w K mg base "BadBlock" (cl 5) "at") (X_BadProgram : Xf P w K mg base "BadProgram" (cl 6) "value") (X_BadPattern : Xf P w K mg base "BadPattern" (cl 7) "at") (X_BadPair : Xf P w K mg base "BadPair" (cl 8) "value") (X_BadMove : Xf P w K mg base "BadMove" (cl 9) "value") (X_BadAsk : Xf P w K mg base "BadAsk" (cl 10) "at") (X_BadAsks : Xf P w K mg base "BadAsks" (cl 11) "value") (X_BadPlan : Xf P w K mg base "BadPlan" (cl 12) "value") (X_BadCount : Xf P w K mg base "BadCount" (cl 13) "value") (X_BadText : Xf P w K mg base "BadText" (cl 14) "at") (X_NotPlain : Xf P w K mg base "NotPlain" (cl 15) "at") (X_Unlike : Xf P w K mg base "Unlike" (cl 16) "value") : FnOk P w K mg base (L2.CX P w) 3 f fd ps_l_raise_named (spNamed cl) := by
  refine F.okX sc_l_raise_named (fun vs H Q E h => ?_) (fun cdv A outer s H vs Q E hr h => ?_)
  · obtain ⟨_, _, rfl, _⟩ := h
    rfl
  · obtain ⟨i, v, rfl, hi, k1⟩ := h
    refine ⟨_, (pss_cons (ps_if (pt_cmpR op_eq (pv 0) pe_int (nomark _))
    (pss_one (ps_rK X_BadShape (hr.mono (by decide)) (takes_of rfl rfl rfl rfl) (pv 1)))
    pss_nil)
  (pss_cons (ps_if (pt_cmpR op_eq (pv 0) pe_int (nomark _))
    (pss_one (ps_rK X_BadName (hr.mono (by decide)) (takes_of rfl rfl rfl rfl) (pv 1)))
    pss_nil)
  (pss_cons (ps_if (pt_cmpR op_eq (pv 0) pe_int (nomark _))
    (pss_one (ps_rK X_BadStore (hr.mono (by decide)) (takes_of rfl rfl rfl rfl) (pv 1)))
    pss_nil)
  (pss_cons (ps_if (pt_cmpR op_eq (pv 0) pe_int (nomark _))
    (pss_one (ps_rK X_BadRows (hr.mono (by decide)) (takes_of rfl rfl rfl rfl) (pv 1)))
    pss_nil)
  (pss_cons (ps_if (pt_cmpR op_eq (pv 0) pe_int (nomark _))
    (pss_one (ps_rK X_BadIndex (hr.mono (by decide)) (takes_of rfl rfl rfl rfl) (pv 1)))
    pss_nil)
  (pss_cons (ps_if (pt_cmpR op_eq (pv 0) pe_int (nomark _))
    (pss_one (ps_rK X_BadBlock (hr.mono (by decide)) (takes_of rfl rfl rfl rfl) (pv 1)))
    pss_nil)
  (pss_cons (ps_if (pt_cmpR op_eq (pv 0) pe_int (nomark _))
    (pss_one (ps_rK X_BadProgram (hr.mono (by decide)) (takes_of rfl rfl rfl rfl) (pv 1)))
    pss_nil)
  (pss_cons (ps_if (pt_cmpR op_eq (pv 0) pe_int (nomark _))
    (pss_one (ps_rK X_BadPattern (hr.mono (by decide)) (takes_of rfl rfl rfl rfl) (pv 1)))
    pss_nil)
  (pss_cons (ps_if (pt_cmpR op_eq (pv 0) pe_int (nomark _))
    (pss_one (ps_rK X_BadPair (hr.mono (by decide)) (takes_of rfl rfl rfl rfl) (pv 1)))
    pss_nil)
  (pss_cons (ps_if (pt_cmpR op_eq (pv 0) pe_int (nomark _))
    (pss_one (ps_rK X_BadMove (hr.mono (by decide)) (takes_of rfl rfl rfl rfl) (pv 1)))
    pss_nil)
  (pss_cons (ps_if (pt_cmpR op_eq (pv 0) pe_int (nomark _))
    (pss_one (ps_rK X_BadAsk (hr.mono (by decide)) (takes_of rfl rfl rfl rfl) (pv 1)))
    pss_nil)
  (pss_cons (ps_if (pt_cmpR op_eq (pv 0) pe_int (nomark _))
    (pss_one (ps_rK X_BadAsks (hr.mono (by decide)) (takes_of rfl rfl rfl rfl) (pv 1)))
    pss_nil)
  (pss_cons (ps_if (pt_cmpR op_eq (pv 0) pe_int (nomark _))
    (pss_one (ps_rK X_BadPlan (hr.mono (by decide)) (takes_of rfl rfl rfl rfl) (pv 1)))
    pss_nil)
  (pss_cons (ps_if (pt_cmpR op_eq (pv 0) pe_int (nomark _))
    (pss_one (ps_rK X_BadCount (hr.mono (by decide)) (takes_of rfl rfl rfl rfl) (pv 1)))
    pss_nil)
  (pss_cons (ps_if (pt_cmpR op_eq (pv 0) pe_int (nomark _))
    (pss_one (ps_rK X_BadText (hr.mono (by decide)) (takes_of rfl rfl rfl rfl) (pv 1)))
    pss_nil)
  (pss_cons (ps_if (pt_cmpR op_eq (pv 0) pe_int (nomark _))
    (pss_one (ps_rK X_NotPlain (hr.mono (by decide)) (takes_of rfl rfl rfl rfl) (pv 1)))
    pss_nil)
  (pss_one (ps_rK X_Unlike (hr.mono (by decide)) (takes_of rfl rfl rfl rfl) (pv 1))))))))))))))))))), ?_⟩
    refine ⟨_, rfl, rfl, _, rfl, ifd (fun e => ?_) fun n0 => ?_⟩
    · have e2 : i = 0 := int_at e
      subst e2
      exact ⟨v, rfl, fun d hd => k1 d hd⟩
    refine ⟨_, rfl, rfl, _, rfl, ifd (fun e => ?_) fun n1 => ?_⟩
    · have e2 : i = 1 := int_at e
      subst e2
      exact ⟨v, rfl, fun d hd => k1 d hd⟩
    refine ⟨_, rfl, rfl, _, rfl, ifd (fun e => ?_) fun n2 => ?_⟩
    · have e2 : i = 2 := int_at e
      subst e2
      exact ⟨v, rfl, fun d hd => k1 d hd⟩
    refine ⟨_, rfl, rfl, _, rfl, ifd (fun e => ?_) fun n3 => ?_⟩
    · have e2 : i = 3 := int_at e
      subst e2
      exact ⟨v, rfl, fun d hd => k1 d hd⟩
    refine ⟨_, rfl, rfl, _, rfl, ifd (fun e => ?_) fun n4 => ?_⟩
    · have e2 : i = 4 := int_at e
      subst e2
      exact ⟨v, rfl, fun d hd => k1 d hd⟩
    refine ⟨_, rfl, rfl, _, rfl, ifd (fun e => ?_) fun n5 => ?_⟩
    · have e2 : i = 5 := int_at e
      subst e2
      exact ⟨v, rfl, fun d hd => k1 d hd⟩
    refine ⟨_, rfl, rfl, _, rfl, ifd (fun e => ?_) fun n6 => ?_⟩
    · have e2 : i = 6 := int_at e
      subst e2
      exact ⟨v, rfl, fun d hd => k1 d hd⟩
    refine ⟨_, rfl, rfl, _, rfl, ifd (fun e => ?_) fun n7 => ?_⟩
    · have e2 : i = 7 := int_at e
      subst e2
      exact ⟨v, rfl, fun d hd => k1 d hd⟩
    refine ⟨_, rfl, rfl, _, rfl, ifd (fun e => ?_) fun n8 => ?_⟩
    · have e2 : i = 8 := int_at e
      subst e2
      exact ⟨v, rfl, fun d hd => k1 d hd⟩
    refine ⟨_, rfl, rfl, _, rfl, ifd (fun e => ?_) fun n9 => ?_⟩
    · have e2 : i = 9 := int_at e
      subst e2
      exact ⟨v, rfl, fun d hd => k1 d hd⟩
    refine ⟨_, rfl, rfl, _, rfl, ifd (fun e => ?_) fun n10 => ?_⟩
    · have e2 : i = 10 := int_at e
      subst e2
      exact ⟨v, rfl, fun d hd => k1 d hd⟩
    refine ⟨_, rfl, rfl, _, rfl, ifd (fun e => ?_) fun n11 => ?_⟩
    · have e2 : i = 11 := int_at e
      subst e2
      exact ⟨v, rfl, fun d hd => k1 d hd⟩
    refine ⟨_, rfl, rfl, _, rfl, ifd (fun e => ?_) fun n12 => ?_⟩
    · have e2 : i = 12 := int_at e
      subst e2
      exact ⟨v, rfl, fun d hd => k1 d hd⟩
    refine ⟨_, rfl, rfl, _, rfl, ifd (fun e => ?_) fun n13 => ?_⟩
    · have e2 : i = 13 := int_at e
      subst e2
      exact ⟨v, rfl, fun d hd => k1 d hd⟩
    refine ⟨_, rfl, rfl, _, rfl, ifd (fun e => ?_) fun n14 => ?_⟩
    · have e2 : i = 14 := int_at e
      subst e2
      exact ⟨v, rfl, fun d hd => k1 d hd⟩
    refine ⟨_, rfl, rfl, _, rfl, ifd (fun e => ?_) fun n15 => ?_⟩
    · have e2 : i = 15 := int_at e
      subst e2
      exact ⟨v, rfl, fun d hd => k1 d hd⟩
    have e2 : i = 16 := by
      have m0 := int_no (j := 0) n0
      have m1 := int_no (j := 1) n1
      have m2 := int_no (j := 2) n2
      have m3 := int_no (j := 3) n3
      have m4 := int_no (j := 4) n4
      have m5 := int_no (j := 5) n5
      have m6 := int_no (j := 6) n6
      have m7 := int_no (j := 7) n7
      have m8 := int_no (j := 8) n8
      have m9 := int_no (j := 9) n9
      have m10 := int_no (j := 10) n10
      have m11 := int_no (j := 11) n11
      have m12 := int_no (j := 12) n12
      have m13 := int_no (j := 13) n13
      have m14 := int_no (j := 14) n14
      have m15 := int_no (j := 15) n15
      omega
    subst e2
    exact ⟨v, rfl, fun d hd => k1 d hd⟩
end
end Fm

/-! ## K00E -/
set_option Elab.async false
set_option maxRecDepth 100000
set_option maxHeartbeats 8000000
namespace Fm
open PySem L2
theorem in_at : ∀ i : Nat, i < 21 → inV (.int (i : Int)) [.int 0, .int 5, .int 7, .int 10, .int 14, .int 15] = true → i < 17 ∧ fld i = "at" := by decide +kernel
theorem in_val : ∀ i : Nat, i < 17 → inV (.int (i : Int)) [.int 0, .int 5, .int 7, .int 10, .int 14, .int 15] = false → fld i = "value" := by decide +kernel
theorem ext_step {Hx H1 : Hp} {L M : Addr} {xs ys : List V} (s : Same Hx H1) (hL : H1 L = some (.lst xs)) (nL : Hx L = none) (hM : H1 M = none) : Same Hx (upd (upd H1 M (.lst ys)) L (.lst (xs ++ ys))) ∧ (upd H1 M (.lst ys)) L = some (.lst xs) ∧ ∀ b, b ≠ L → b ≠ M → (upd (upd H1 M (.lst ys)) L (.lst (xs ++ ys))) b = H1 b :=
  ⟨same_put (s.trans (same_new _ hM)) _ nL, by rw [upd_ne (ne_of_none hL hM)]; exact hL, fun b h1 h2 => by rw [upd_ne h1, upd_ne h2]⟩
section
variable {cl : Nat → Addr}
theorem try_body {W : WX} {D : Ends} {H : Hp} {i : Nat} {v : V} {nm : Bool} {r : List (Option V)} (hi : i < 21) (hn : nm = true → i < 17)
    (key : ∀ (dd : Option Addr) (Hx : Hp), ((i < 17 ∧ ∃ d, dd = some d ∧ H d = none ∧ Hx = upd H d (.xd [(fld i, v)])) ∨ (17 ≤ i ∧ dd = none ∧ Hx = H)) → W (.ref (cl i)) dd (some (.int (i : Int)) :: some v :: some (.bl nm) :: r) Hx) :
    tIfS (tB (tVar 2)) (tDrop (tCallS (spNamed cl) (WE W) (tCons (tVar 0) (tCons (tVar 1) tNil)))) (tDrop (tCallS (spRaise cl) (WE W) (tCons (tVar 0) (tCons (tVar 1) tNil)))) D (some (.int (i : Int)) :: some v :: some (.bl nm) :: r) H := by
  cases nm with
  | true => exact ⟨_, rfl, _, rfl, iteT ⟨_, rfl, _, rfl, i, v, rfl, hn rfl, fun d hd => key _ _ (.inl ⟨hn rfl, d, rfl, hd, rfl⟩)⟩⟩
  | false => exact ⟨_, rfl, _, rfl, iteF ⟨_, rfl, _, rfl, i, v, rfl, hi, fun h d hd => key _ _ (.inl ⟨h, d, rfl, hd, rfl⟩), fun h => key _ _ (.inr ⟨h, rfl, rfl⟩)⟩⟩
end
section
variable {P : Program} {w : World} {K : PySem.W.Frag} {mg : Str → Option Value} {base : Heap} {cl : Nat → Addr}
def flagV (i : Nat) : List V := (List.range 20).map fun j => V.bl (decide (j = i))
def othV : List V := [.bl false, .bl false, .bl false, .bl false, .bl false, .bl false]
def spCaught : Sp := fun vs H Q _ => ∃ (i : Nat) (v : V) (nm : Bool), vs = [.int i, v, .bl nm] ∧ i < 21 ∧ (nm = true → i < 17) ∧ (17 ≤ i → v = .non) ∧
  ∀ (t fl ol : Addr) (H' : Hp), Same H H' → H' t = some (.tup [.ref fl, .ref ol, v]) → H' fl = some (.lst (flagV i)) → H' ol = some (.lst othV) → Q (.ref t) H'
abbrev s_l_caught : Stmt := topS 29
abbrev sc_l_caughtN : List Str := ["_law_which", "_law_thing", "_law_named", "_law_flags", "_law_others", "_law_kept", "e"]
abbrev ps_l_caught : List Str := ["_law_which", "_law_thing", "_law_named"]
theorem sc_l_caught : FnScope sc_l_caughtN ps_l_caught (defScope s_l_caught) := ⟨rfl, rfl, rfl, by decide +kernel, rfl, by decide +kernel, by decide +kernel⟩
theorem ok_l_caught {f : Addr} {fd : FuncData} (F : Fun K "_law_caught" "_law_caught" s_l_caught f fd) (T : Txt K mg cl) (D_l_raise : DfX P w K mg base "_law_raise" 3 ps_l_raise (spRaise cl)) (D_l_raise_named : DfX P w K mg base "_law_raise_named" 3 ps_l_raise_named (spNamed cl)) : FnOk P w K mg base CX0 4 f fd ps_l_caught spCaught := by
  refine F.ok sc_l_caught (fun vs H Q E h => ?_) (fun cdv A outer s H vs Q E hr h => ?_)
  · obtain ⟨_, _, _, rfl, _⟩ := h
    rfl
  · obtain ⟨i, v, nm, rfl, hi, hn, hv, k⟩ := h
    refine ⟨_, (pss_cons (ps_set (i := 3) sc_l_caught.nd rfl (Or.inl rfl) (pe_lst pa_nil))
  (pss_cons (ps_set (i := 4) sc_l_caught.nd rfl (Or.inl rfl) (pe_lst pa_nil))
  (pss_cons (ps_set (i := 5) sc_l_caught.nd rfl (Or.inl rfl) pe_non)
  (Evl.pss_cut (ps_try_as (i := 6) (Wout := fun _ _ _ _ => False) rfl rfl sc_l_caught.nd rfl rfl ⟨rfl, by decide, Or.inl T.g_MetError⟩ takes0
    (fun W pn xe tk _ => by exact (pss_one (ps_if (pt_val (pv 2))
      (pss_one (ps_expr (pe_dX D_l_raise_named (hr.mono (by decide)) tk (pa_cons (pv 0) (pa_cons (pv 1) pa_nil)))))
      (pss_one (ps_expr (pe_dX D_l_raise (hr.mono (by decide)) tk (pa_cons (pv 0) (pa_cons (pv 1) pa_nil))))))))
    (fun a oe cls d pn hz hf => by exact (pss_cons (ps_set (i := 3) sc_l_caught.nd rfl (Or.inl rfl) (pe_lst (pa_cons (pe_callB (call_isK (K := K) hz hf) (by rfl) T.n_isinstance (by decide +kernel) (pa_cons (pv 6) (pa_cons (pe_glob (v := .ref (cl 0)) rfl T.g_BadShape rfl) pa_nil))) (pa_cons (pe_callB (call_isK (K := K) hz hf) (by rfl) T.n_isinstance (by decide +kernel) (pa_cons (pv 6) (pa_cons (pe_glob (v := .ref (cl 1)) rfl T.g_BadName rfl) pa_nil))) (pa_cons (pe_callB (call_isK (K := K) hz hf) (by rfl) T.n_isinstance (by decide +kernel) (pa_cons (pv 6) (pa_cons (pe_glob (v := .ref (cl 2)) rfl T.g_BadStore rfl) pa_nil))) (pa_cons (pe_callB (call_isK (K := K) hz hf) (by rfl) T.n_isinstance (by decide +kernel) (pa_cons (pv 6) (pa_cons (pe_glob (v := .ref (cl 3)) rfl T.g_BadRows rfl) pa_nil))) pa_nil))))))
    (pss_cons (ps_expr (peK (K := K) (pe_bm PySem.F.plainAttrs_list PySem.F.slot_list_extend PySem.F.type_list_extend mt_extend (pv 3) (pa_cons (pe_lst (pa_cons (pe_callB (call_isK (K := K) hz hf) (by rfl) T.n_isinstance (by decide +kernel) (pa_cons (pv 6) (pa_cons (pe_glob (v := .ref (cl 4)) rfl T.g_BadIndex rfl) pa_nil))) (pa_cons (pe_callB (call_isK (K := K) hz hf) (by rfl) T.n_isinstance (by decide +kernel) (pa_cons (pv 6) (pa_cons (pe_glob (v := .ref (cl 5)) rfl T.g_BadBlock rfl) pa_nil))) (pa_cons (pe_callB (call_isK (K := K) hz hf) (by rfl) T.n_isinstance (by decide +kernel) (pa_cons (pv 6) (pa_cons (pe_glob (v := .ref (cl 6)) rfl T.g_BadProgram rfl) pa_nil))) pa_nil)))) pa_nil))))
    (pss_cons (ps_expr (peK (K := K) (pe_bm PySem.F.plainAttrs_list PySem.F.slot_list_extend PySem.F.type_list_extend mt_extend (pv 3) (pa_cons (pe_lst (pa_cons (pe_callB (call_isK (K := K) hz hf) (by rfl) T.n_isinstance (by decide +kernel) (pa_cons (pv 6) (pa_cons (pe_glob (v := .ref (cl 7)) rfl T.g_BadPattern rfl) pa_nil))) (pa_cons (pe_callB (call_isK (K := K) hz hf) (by rfl) T.n_isinstance (by decide +kernel) (pa_cons (pv 6) (pa_cons (pe_glob (v := .ref (cl 8)) rfl T.g_BadPair rfl) pa_nil))) (pa_cons (pe_callB (call_isK (K := K) hz hf) (by rfl) T.n_isinstance (by decide +kernel) (pa_cons (pv 6) (pa_cons (pe_glob (v := .ref (cl 9)) rfl T.g_BadMove rfl) pa_nil))) pa_nil)))) pa_nil))))
    (pss_cons (ps_expr (peK (K := K) (pe_bm PySem.F.plainAttrs_list PySem.F.slot_list_extend PySem.F.type_list_extend mt_extend (pv 3) (pa_cons (pe_lst (pa_cons (pe_callB (call_isK (K := K) hz hf) (by rfl) T.n_isinstance (by decide +kernel) (pa_cons (pv 6) (pa_cons (pe_glob (v := .ref (cl 10)) rfl T.g_BadAsk rfl) pa_nil))) (pa_cons (pe_callB (call_isK (K := K) hz hf) (by rfl) T.n_isinstance (by decide +kernel) (pa_cons (pv 6) (pa_cons (pe_glob (v := .ref (cl 11)) rfl T.g_BadAsks rfl) pa_nil))) (pa_cons (pe_callB (call_isK (K := K) hz hf) (by rfl) T.n_isinstance (by decide +kernel) (pa_cons (pv 6) (pa_cons (pe_glob (v := .ref (cl 12)) rfl T.g_BadPlan rfl) pa_nil))) pa_nil)))) pa_nil))))
    (pss_cons (ps_expr (peK (K := K) (pe_bm PySem.F.plainAttrs_list PySem.F.slot_list_extend PySem.F.type_list_extend mt_extend (pv 3) (pa_cons (pe_lst (pa_cons (pe_callB (call_isK (K := K) hz hf) (by rfl) T.n_isinstance (by decide +kernel) (pa_cons (pv 6) (pa_cons (pe_glob (v := .ref (cl 13)) rfl T.g_BadCount rfl) pa_nil))) (pa_cons (pe_callB (call_isK (K := K) hz hf) (by rfl) T.n_isinstance (by decide +kernel) (pa_cons (pv 6) (pa_cons (pe_glob (v := .ref (cl 14)) rfl T.g_BadText rfl) pa_nil))) (pa_cons (pe_callB (call_isK (K := K) hz hf) (by rfl) T.n_isinstance (by decide +kernel) (pa_cons (pv 6) (pa_cons (pe_glob (v := .ref (cl 15)) rfl T.g_NotPlain rfl) pa_nil))) pa_nil)))) pa_nil))))
    (pss_cons (ps_expr (peK (K := K) (pe_bm PySem.F.plainAttrs_list PySem.F.slot_list_extend PySem.F.type_list_extend mt_extend (pv 3) (pa_cons (pe_lst (pa_cons (pe_callB (call_isK (K := K) hz hf) (by rfl) T.n_isinstance (by decide +kernel) (pa_cons (pv 6) (pa_cons (pe_glob (v := .ref (cl 16)) rfl T.g_Unlike rfl) pa_nil))) (pa_cons (pe_callB (call_isK (K := K) hz hf) (by rfl) T.n_isinstance (by decide +kernel) (pa_cons (pv 6) (pa_cons (pe_glob (v := .ref (cl 17)) rfl T.g_NothingDone rfl) pa_nil))) (pa_cons (pe_callB (call_isK (K := K) hz hf) (by rfl) T.n_isinstance (by decide +kernel) (pa_cons (pv 6) (pa_cons (pe_glob (v := .ref (cl 18)) rfl T.g_TooMany rfl) pa_nil))) pa_nil)))) pa_nil))))
    (pss_cons (ps_expr (peK (K := K) (pe_bm PySem.F.plainAttrs_list PySem.F.slot_list_append PySem.F.type_list_append mt_append (pv 3) (pa_cons (pe_callB (call_isK (K := K) hz hf) (by rfl) T.n_isinstance (by decide +kernel) (pa_cons (pv 6) (pa_cons (pe_glob (v := .ref (cl 19)) rfl T.g_TooLong rfl) pa_nil))) pa_nil))))
    (pss_cons (ps_set (i := 4) sc_l_caught.nd rfl (Or.inl rfl) (pe_lst (pa_cons (pe_callB (call_isK (K := K) hz hf) (by rfl) T.n_isinstance (by decide +kernel) (pa_cons (pv 6) (pa_cons (pe_bltn (v := .ty "KeyError") (by rfl) T.n_KeyError (by decide +kernel) rfl) pa_nil))) (pa_cons (pe_callB (call_isK (K := K) hz hf) (by rfl) T.n_isinstance (by decide +kernel) (pa_cons (pv 6) (pa_cons (pe_bltn (v := .ty "IndexError") (by rfl) T.n_IndexError (by decide +kernel) rfl) pa_nil))) (pa_cons (pe_callB (call_isK (K := K) hz hf) (by rfl) T.n_isinstance (by decide +kernel) (pa_cons (pv 6) (pa_cons (pe_bltn (v := .ty "TypeError") (by rfl) T.n_TypeError (by decide +kernel) rfl) pa_nil))) pa_nil)))))
    (pss_cons (ps_expr (peK (K := K) (pe_bm PySem.F.plainAttrs_list PySem.F.slot_list_extend PySem.F.type_list_extend mt_extend (pv 4) (pa_cons (pe_lst (pa_cons (pe_callB (call_isK (K := K) hz hf) (by rfl) T.n_isinstance (by decide +kernel) (pa_cons (pv 6) (pa_cons (pe_bltn (v := .ty "ArithmeticError") (by rfl) T.n_ArithmeticError (by decide +kernel) rfl) pa_nil))) (pa_cons (pe_callB (call_isK (K := K) hz hf) (by rfl) T.n_isinstance (by decide +kernel) (pa_cons (pv 6) (pa_cons (pe_bltn (v := .ty "RuntimeError") (by rfl) T.n_RuntimeError (by decide +kernel) rfl) pa_nil))) (pa_cons (pe_not (pe_callB (call_isK (K := K) hz hf) (by rfl) T.n_isinstance (by decide +kernel) (pa_cons (pv 6) (pa_cons (pe_bltn (v := .ty "ValueError") (by rfl) T.n_ValueError (by decide +kernel) rfl) pa_nil)))) pa_nil)))) pa_nil))))
    (pss_one (ps_if (pt_cmpR (opK_in (K := K)) (pv 0) (pe_tup (pa_cons pe_int (pa_cons pe_int (pa_cons pe_int (pa_cons pe_int (pa_cons pe_int (pa_cons pe_int pa_nil))))))) (by rfl))
      (pss_one (ps_set (i := 5) sc_l_caught.nd rfl (Or.inl rfl) (pe_xk (K := K) hz hf (pv 6))))
      (pss_one (ps_if (pt_cmpR op_lt (pv 0) pe_int (nomark _))
        (pss_one (ps_set (i := 5) sc_l_caught.nd rfl (Or.inl rfl) (pe_xk (K := K) hz hf (pv 6))))
        pss_nil)))))))))))))))
  (pss_one (ps_ret (pe_tup (pa_cons (pv 3) (pa_cons (pv 4) (pa_cons (pv 5) pa_nil)))))))))), ?_⟩
    refine ⟨Nat.zero_le _, fun p1 h1 => ⟨Nat.zero_le _, fun p2 h2 => ?_⟩⟩
    have s0 : Same H (upd (upd H p1 (.lst [])) p2 (.lst [])) := (same_new _ h1).trans (same_new _ h2)
    generalize upd (upd H p1 (.lst [])) p2 (.lst []) = H0 at *
    refine ⟨fun σ' H' => ∃ fl ol, σ' = [some (.int i), some v, some (.bl nm), some (.ref fl), some (.ref ol), some v, none] ∧ Same H H' ∧ H' fl = some (.lst (flagV i)) ∧ H' ol = some (.lst othV), ?_, ?_⟩
    · refine try_body hi hn fun dd Hx hc => ?_
      have sx : Same H0 Hx := by
        rcases hc with ⟨_, d, _, hd, rfl⟩ | ⟨_, _, rfl⟩
        · exact same_new _ hd
        · exact Same.refl _
      have hdS : ∀ H', Same Hx H' → ∀ dx, dd = some dx → ∃ fs, H' dx = some (.xd fs) := fun H' q dx e => by
        rcases hc with ⟨_, d, rfl, hd, rfl⟩ | ⟨_, rfl, _⟩
        · cases e
          exact ⟨_, q _ _ upd_same⟩
        · cases e
      have hfS : i < 17 → ∃ dx, dd = some dx ∧ Hx dx = some (.xd [(fld i, v)]) := fun h => by
        rcases hc with ⟨_, d, rfl, hd, rfl⟩ | ⟨h2, _⟩
        · exact ⟨d, rfl, upd_same⟩
        · omega
      refine ⟨true, T.x_m i hi, fun _ a0 ha0 => ?_, fun q => Bool.noConfusion q⟩
      clear hc
      refine ⟨_, rfl, cl i, _, _, _, rfl, rfl, T.x_c i hi, hdS _ (Same.refl _), .own _, T.x_k i hi 0 (by decide), _, rfl, cl i, _, _, _, rfl, rfl, T.x_c i hi, hdS _ (Same.refl _), .own _, T.x_k i hi 1 (by decide), _, rfl, cl i, _, _, _, rfl, rfl, T.x_c i hi, hdS _ (Same.refl _), .own _, T.x_k i hi 2 (by decide), _, rfl, cl i, _, _, _, rfl, rfl, T.x_c i hi, hdS _ (Same.refl _), .own _, T.x_k i hi 3 (by decide), (by show 4 ≤ sizeLine; decide), fun L hL => ?_⟩
      have nL : Hx L = none := hL
      have g0 : Same Hx (upd Hx L (.lst ((flagV i).take 4))) := same_new _ hL
      have e0 : (upd Hx L (.lst ((flagV i).take 4))) L = some (.lst ((flagV i).take 4)) := upd_same
      have z0 : upd Hx L (.lst [.bl (decide (0 = i)), .bl (decide (1 = i)), .bl (decide (2 = i)), .bl (decide (3 = i))]) = upd Hx L (.lst ((flagV i).take 4)) := rfl
      rw [z0]
      clear z0
      generalize upd Hx L (.lst ((flagV i).take 4)) = G0 at *
      refine ⟨_, rfl, .inl ⟨rfl, _, .inl (.inl e0)⟩, _, rfl, cl i, _, _, _, rfl, rfl, T.x_c i hi, hdS _ g0, .own _, T.x_k i hi 4 (by decide), _, rfl, cl i, _, _, _, rfl, rfl, T.x_c i hi, hdS _ g0, .own _, T.x_k i hi 5 (by decide), _, rfl, cl i, _, _, _, rfl, rfl, T.x_c i hi, hdS _ g0, .own _, T.x_k i hi 6 (by decide), (by show 3 ≤ sizeLine; decide), fun M0 hM0 => ?_⟩
      obtain ⟨g1, x0, _⟩ := ext_step (ys := [.bl (decide (4 = i)), .bl (decide (5 = i)), .bl (decide (6 = i))]) g0 e0 nL hM0
      refine ⟨L, M0, _, _, rfl, rfl, x0, upd_same, (by show 7 ≤ sizeLine; decide), ?_⟩
      have e1 : (upd (upd G0 M0 (.lst [.bl (decide (4 = i)), .bl (decide (5 = i)), .bl (decide (6 = i))])) L (.lst ((flagV i).take 4 ++ [.bl (decide (4 = i)), .bl (decide (5 = i)), .bl (decide (6 = i))]))) L = some (.lst ((flagV i).take 7)) := by rw [upd_same]; rfl
      generalize upd (upd G0 M0 (.lst [.bl (decide (4 = i)), .bl (decide (5 = i)), .bl (decide (6 = i))])) L (.lst ((flagV i).take 4 ++ [.bl (decide (4 = i)), .bl (decide (5 = i)), .bl (decide (6 = i))])) = G1 at *
      refine ⟨_, rfl, .inl ⟨rfl, _, .inl (.inl e1)⟩, _, rfl, cl i, _, _, _, rfl, rfl, T.x_c i hi, hdS _ g1, .own _, T.x_k i hi 7 (by decide), _, rfl, cl i, _, _, _, rfl, rfl, T.x_c i hi, hdS _ g1, .own _, T.x_k i hi 8 (by decide), _, rfl, cl i, _, _, _, rfl, rfl, T.x_c i hi, hdS _ g1, .own _, T.x_k i hi 9 (by decide), (by show 3 ≤ sizeLine; decide), fun M1 hM1 => ?_⟩
      obtain ⟨g2, x1, _⟩ := ext_step (ys := [.bl (decide (7 = i)), .bl (decide (8 = i)), .bl (decide (9 = i))]) g1 e1 nL hM1
      refine ⟨L, M1, _, _, rfl, rfl, x1, upd_same, (by show 10 ≤ sizeLine; decide), ?_⟩
      have e2 : (upd (upd G1 M1 (.lst [.bl (decide (7 = i)), .bl (decide (8 = i)), .bl (decide (9 = i))])) L (.lst ((flagV i).take 7 ++ [.bl (decide (7 = i)), .bl (decide (8 = i)), .bl (decide (9 = i))]))) L = some (.lst ((flagV i).take 10)) := by rw [upd_same]; rfl
      generalize upd (upd G1 M1 (.lst [.bl (decide (7 = i)), .bl (decide (8 = i)), .bl (decide (9 = i))])) L (.lst ((flagV i).take 7 ++ [.bl (decide (7 = i)), .bl (decide (8 = i)), .bl (decide (9 = i))])) = G2 at *
      refine ⟨_, rfl, .inl ⟨rfl, _, .inl (.inl e2)⟩, _, rfl, cl i, _, _, _, rfl, rfl, T.x_c i hi, hdS _ g2, .own _, T.x_k i hi 10 (by decide), _, rfl, cl i, _, _, _, rfl, rfl, T.x_c i hi, hdS _ g2, .own _, T.x_k i hi 11 (by decide), _, rfl, cl i, _, _, _, rfl, rfl, T.x_c i hi, hdS _ g2, .own _, T.x_k i hi 12 (by decide), (by show 3 ≤ sizeLine; decide), fun M2 hM2 => ?_⟩
      obtain ⟨g3, x2, _⟩ := ext_step (ys := [.bl (decide (10 = i)), .bl (decide (11 = i)), .bl (decide (12 = i))]) g2 e2 nL hM2
      refine ⟨L, M2, _, _, rfl, rfl, x2, upd_same, (by show 13 ≤ sizeLine; decide), ?_⟩
      have e3 : (upd (upd G2 M2 (.lst [.bl (decide (10 = i)), .bl (decide (11 = i)), .bl (decide (12 = i))])) L (.lst ((flagV i).take 10 ++ [.bl (decide (10 = i)), .bl (decide (11 = i)), .bl (decide (12 = i))]))) L = some (.lst ((flagV i).take 13)) := by rw [upd_same]; rfl
      generalize upd (upd G2 M2 (.lst [.bl (decide (10 = i)), .bl (decide (11 = i)), .bl (decide (12 = i))])) L (.lst ((flagV i).take 10 ++ [.bl (decide (10 = i)), .bl (decide (11 = i)), .bl (decide (12 = i))])) = G3 at *
      refine ⟨_, rfl, .inl ⟨rfl, _, .inl (.inl e3)⟩, _, rfl, cl i, _, _, _, rfl, rfl, T.x_c i hi, hdS _ g3, .own _, T.x_k i hi 13 (by decide), _, rfl, cl i, _, _, _, rfl, rfl, T.x_c i hi, hdS _ g3, .own _, T.x_k i hi 14 (by decide), _, rfl, cl i, _, _, _, rfl, rfl, T.x_c i hi, hdS _ g3, .own _, T.x_k i hi 15 (by decide), (by show 3 ≤ sizeLine; decide), fun M3 hM3 => ?_⟩
      obtain ⟨g4, x3, _⟩ := ext_step (ys := [.bl (decide (13 = i)), .bl (decide (14 = i)), .bl (decide (15 = i))]) g3 e3 nL hM3
      refine ⟨L, M3, _, _, rfl, rfl, x3, upd_same, (by show 16 ≤ sizeLine; decide), ?_⟩
      have e4 : (upd (upd G3 M3 (.lst [.bl (decide (13 = i)), .bl (decide (14 = i)), .bl (decide (15 = i))])) L (.lst ((flagV i).take 13 ++ [.bl (decide (13 = i)), .bl (decide (14 = i)), .bl (decide (15 = i))]))) L = some (.lst ((flagV i).take 16)) := by rw [upd_same]; rfl
      generalize upd (upd G3 M3 (.lst [.bl (decide (13 = i)), .bl (decide (14 = i)), .bl (decide (15 = i))])) L (.lst ((flagV i).take 13 ++ [.bl (decide (13 = i)), .bl (decide (14 = i)), .bl (decide (15 = i))])) = G4 at *
      refine ⟨_, rfl, .inl ⟨rfl, _, .inl (.inl e4)⟩, _, rfl, cl i, _, _, _, rfl, rfl, T.x_c i hi, hdS _ g4, .own _, T.x_k i hi 16 (by decide), _, rfl, cl i, _, _, _, rfl, rfl, T.x_c i hi, hdS _ g4, .own _, T.x_k i hi 17 (by decide), _, rfl, cl i, _, _, _, rfl, rfl, T.x_c i hi, hdS _ g4, .own _, T.x_k i hi 18 (by decide), (by show 3 ≤ sizeLine; decide), fun M4 hM4 => ?_⟩
      obtain ⟨g5, x4, _⟩ := ext_step (ys := [.bl (decide (16 = i)), .bl (decide (17 = i)), .bl (decide (18 = i))]) g4 e4 nL hM4
      refine ⟨L, M4, _, _, rfl, rfl, x4, upd_same, (by show 19 ≤ sizeLine; decide), ?_⟩
      have e5 : (upd (upd G4 M4 (.lst [.bl (decide (16 = i)), .bl (decide (17 = i)), .bl (decide (18 = i))])) L (.lst ((flagV i).take 16 ++ [.bl (decide (16 = i)), .bl (decide (17 = i)), .bl (decide (18 = i))]))) L = some (.lst ((flagV i).take 19)) := by rw [upd_same]; rfl
      generalize upd (upd G4 M4 (.lst [.bl (decide (16 = i)), .bl (decide (17 = i)), .bl (decide (18 = i))])) L (.lst ((flagV i).take 16 ++ [.bl (decide (16 = i)), .bl (decide (17 = i)), .bl (decide (18 = i))])) = G5 at *
      refine ⟨_, rfl, .inl ⟨rfl, _, .inl (.inl e5)⟩, _, rfl, cl i, _, _, _, rfl, rfl, T.x_c i hi, hdS _ g5, .own _, T.x_k i hi 19 (by decide), L, _, _, rfl, rfl, e5, (by show 19 < sizeLine; decide), ?_⟩
      have g6 : Same Hx (upd G5 L (.lst ((flagV i).take 19 ++ [.bl (decide (19 = i))]))) := same_put g5 _ nL
      have e6 : (upd G5 L (.lst ((flagV i).take 19 ++ [.bl (decide (19 = i))]))) L = some (.lst (flagV i)) := by rw [upd_same]; rfl
      generalize upd G5 L (.lst ((flagV i).take 19 ++ [.bl (decide (19 = i))])) = G6 at *
      -- the others
      refine ⟨_, rfl, cl i, _, _, _, rfl, rfl, T.x_c i hi, hdS _ g6, .ty _, T.x_b i hi "KeyError" (by decide), _, rfl, cl i, _, _, _, rfl, rfl, T.x_c i hi, hdS _ g6, .ty _, T.x_b i hi "IndexError" (by decide), _, rfl, cl i, _, _, _, rfl, rfl, T.x_c i hi, hdS _ g6, .ty _, T.x_b i hi "TypeError" (by decide), (by show 3 ≤ sizeLine; decide), fun R hR => ?_⟩
      have nR : Hx R = none := g6.free hR
      have nLR : L ≠ R := ne_of_none e6 hR
      have g7 : Same Hx (upd G6 R (.lst [.bl false, .bl false, .bl false])) := g6.trans (same_new _ hR)
      have e7 : (upd G6 R (.lst [.bl false, .bl false, .bl false])) R = some (.lst [.bl false, .bl false, .bl false]) := upd_same
      have l7 : (upd G6 R (.lst [.bl false, .bl false, .bl false])) L = some (.lst (flagV i)) := by rw [upd_ne nLR]; exact e6
      generalize upd G6 R (.lst [.bl false, .bl false, .bl false]) = G7 at *
      refine ⟨_, rfl, .inl ⟨rfl, _, .inl (.inl e7)⟩, _, rfl, cl i, _, _, _, rfl, rfl, T.x_c i hi, hdS _ g7, .ty _, T.x_b i hi "ArithmeticError" (by decide), _, rfl, cl i, _, _, _, rfl, rfl, T.x_c i hi, hdS _ g7, .ty _, T.x_b i hi "RuntimeError" (by decide), _, rfl, cl i, _, _, _, rfl, rfl, T.x_c i hi, hdS _ g7, .ty _, T.x_v i hi, _, rfl, (by show 3 ≤ sizeLine; decide), fun M hM => ?_⟩
      obtain ⟨g8, x8, n8⟩ := ext_step (ys := [.bl false, .bl false, .bl (!true)]) g7 e7 nR hM
      refine ⟨R, M, _, _, rfl, rfl, x8, upd_same, (by show 6 ≤ sizeLine; decide), ?_⟩
      have e8 : (upd (upd G7 M (.lst [.bl false, .bl false, .bl (!true)])) R (.lst ([.bl false, .bl false, .bl false] ++ [.bl false, .bl false, .bl (!true)]))) R = some (.lst othV) := by rw [upd_same]; rfl
      have l8 := (n8 L nLR (ne_of_none l7 hM)).trans l7
      generalize upd (upd G7 M (.lst [.bl false, .bl false, .bl (!true)])) R (.lst ([.bl false, .bl false, .bl false] ++ [.bl false, .bl false, .bl (!true)])) = G8 at *
      -- its field
      refine ⟨_, rfl, (by show 6 ≤ sizeLine; decide), fun t ht => ?_⟩
      have g9 : Same Hx (upd G8 t (.tup [.int 0, .int 5, .int 7, .int 10, .int 14, .int 15])) := g8.trans (same_new _ ht)
      have e9 := (same_new (.tup [.int 0, .int 5, .int 7, .int 10, .int 14, .int 15]) ht) _ _ e8
      have l9 := (same_new (.tup [.int 0, .int 5, .int 7, .int 10, .int 14, .int 15]) ht) _ _ l8
      have t9 : (upd G8 t (.tup [.int 0, .int 5, .int 7, .int 10, .int 14, .int 15])) t = some (.tup [.int 0, .int 5, .int 7, .int 10, .int 14, .int 15]) := upd_same
      generalize upd G8 t (.tup [.int 0, .int 5, .int 7, .int 10, .int 14, .int 15]) = G9 at *
      refine ⟨t, _, rfl, .inr (.inl (.inl t9)), rfl, rfl, _, rfl, ?_⟩
      have sz : Same H G9 := s0.trans (sx.trans g9)
      show (if (inV (.int (i : Int)) [.int 0, .int 5, .int 7, .int 10, .int 14, .int 15]) = true then _ else _)
      by_cases hm : inV (.int (i : Int)) [.int 0, .int 5, .int 7, .int 10, .int 14, .int 15] = true
      · rw [if_pos hm]
        obtain ⟨h17, hf⟩ := in_at i hi hm
        obtain ⟨dx, rfl, hx⟩ := hfS h17
        obtain ⟨xf, nf⟩ := T.x_f i h17
        rw [hf] at nf hx
        exact ⟨_, rfl, rfl, cl i, dx, _, v, rfl, xf, nf, rfl, g9 _ _ hx, rfl, L, R, rfl, sz, l9, e9⟩
      · rw [if_neg hm]
        have hm2 : inV (.int (i : Int)) [.int 0, .int 5, .int 7, .int 10, .int 14, .int 15] = false := by simpa using hm
        refine ⟨_, rfl, _, _, rfl, rfl, _, rfl, ifd (fun h => ?_) fun h => ?_⟩
        · have h17 : i < 17 := by omega
          have hf := in_val i h17 hm2
          obtain ⟨dx, rfl, hx⟩ := hfS h17
          obtain ⟨xf, nf⟩ := T.x_f i h17
          rw [hf] at nf hx
          exact ⟨_, rfl, rfl, cl i, dx, _, v, rfl, xf, nf, rfl, g9 _ _ hx, rfl, L, R, rfl, sz, l9, e9⟩
        · have h17 : 17 ≤ i := by omega
          obtain rfl := hv h17
          exact ⟨L, R, rfl, sz, l9, e9⟩
    · rintro σ' H' ⟨fl, ol, rfl, s, e1, e2⟩
      exact ⟨_, rfl, _, rfl, _, rfl, (by show 3 ≤ sizeLine; decide), fun t ht => k t fl ol _ (s.trans (same_new _ ht)) upd_same (same_new _ ht _ _ e1) (same_new _ ht _ _ e2)⟩
end
end Fm

/-! ## K00F -/
set_option Elab.async false
set_option maxRecDepth 100000
set_option maxHeartbeats 8000000
namespace Fm
open PySem L2
section
variable {K : PySem.W.Frag} {H : Hp}
def flagD (i : Nat) : PyData := .list ((List.range 20).map fun j => PyData.bool (decide (j = i)))
theorem flag_ok : ∀ i : Nat, i < 21 → SeqAt.shaped (flagD i) = true ∧ PyData.eqv (flagD i) (flagD i) = true := by decide +kernel
theorem dpA_bl : ∀ bs : List Bool, DpAll K H (bs.map V.bl) (bs.map PyData.bool)
  | [] => .nil
  | b :: bs => .cons (.bl b) (dpA_bl bs)
theorem dp_flag {a : Addr} {i : Nat} (h : H a = some (.lst (flagV i))) : Dp K H (.ref a) (flagD i) := .lst (.inl (.inl h)) (dpA_bl (K := K) (H := H) ((List.range 20).map fun j => decide (j = i)))
def othD : PyData := .list [.bool false, .bool false, .bool false, .bool false, .bool false, .bool false]
theorem dp_oth {a : Addr} (h : H a = some (.lst othV)) : Dp K H (.ref a) othD := .lst (.inl (.inl h)) (dpA_bl (K := K) (H := H) [false, false, false, false, false, false])
theorem oth_ok : SeqAt.shaped othD = true ∧ PyData.eqv othD othD = true := by decide +kernel
theorem flag_at {i j : Nat} (h : j < 20) : (flagV i).take j ++ [V.bl (decide (V.int ((j : Nat) : Int) = V.int ((i : Nat) : Int)))] = (flagV i).take (j + 1) := by
  have e : (flagV i)[j]? = some (V.bl (decide (j = i))) := by
    unfold flagV
    rw [List.getElem?_map, List.getElem?_range h]
    rfl
  have q : decide (V.int ((j : Nat) : Int) = V.int ((i : Nat) : Int)) = decide (j = i) := by
    by_cases z : j = i
    · rw [z, decide_eq_true rfl, decide_eq_true rfl]
    · rw [decide_eq_false z, decide_eq_false fun y => z (int_at y)]
  rw [q, List.take_succ, e]
  rfl
end
section
variable {P : Program} {w : World} {K : PySem.W.Frag} {mg : Str → Option Value} {base : Heap} {cl : Nat → Addr}
def spLaw (K : PySem.W.Frag) : Sp := fun vs H Q _ => ∃ (a : Addr) (ns : List Int), vs = [.ref a] ∧ SqL K H a (ns.map V.int) ∧ ns.length ≤ 63 ∧ ∀ H', Q (.bl true) H'
abbrev s_law : Stmt := topS 30
abbrev sc_lawN : List Str := ["_law_script", "_law_bag_here", "_law_which", "_law_named", "_law_thing", "_law_flags", "_law_others", "_law_kept", "_law_k"]
abbrev ps_law : List Str := ["_law_script"]
theorem sc_law : FnScope sc_lawN ps_law (defScope s_law) := ⟨rfl, rfl, rfl, by decide +kernel, rfl, by decide +kernel, by decide +kernel⟩
theorem ok_law {f : Addr} {fd : FuncData} (F : Fun K "law" "law" s_law f fd) (T : Txt K mg cl) (D_l_bag : Df P w K mg base "_law_bag" 1 ps_l_bag (spBag K)) (D_l_odd : Df P w K mg base "_law_odd" 2 ps_l_odd (spOdd K)) (D_l_caught : Df P w K mg base "_law_caught" 4 ps_l_caught spCaught)
    (D_l_alike : Df P w K mg base "_law_alike" 3 ps_l_alike (spAlike K 3)) : FnOk P w K mg base CX0 6 f fd ps_law (spLaw K) := by
  refine F.ok sc_law (fun vs H Q E h => ?_) (fun cdv A outer s H vs Q E hr h => ?_)
  · obtain ⟨_, _, rfl, _⟩ := h
    rfl
  · obtain ⟨a, ns, rfl, hs, len, k⟩ := h
    refine ⟨_, (pss_cons (ps_set (i := 1) sc_law.nd rfl (Or.inl rfl) (pe_d D_l_bag (hr.mono (by decide)) (pa_cons (pv 0) pa_nil)))
  (pss_cons (ps_for PassesOwn.never rfl (pi_range1 (by rfl) T.n_range (pa_cons pe_int pa_nil)) (pg_name (i := 2) sc_law.nd rfl (Or.inr rfl))
    (pss_one (ps_for PassesOwn.never rfl (pi_range1 (by rfl) T.n_range (pa_cons pe_int pa_nil)) (pg_name (i := 3) sc_law.nd rfl (Or.inl rfl))
      (pss_cons (ps_set (i := 4) sc_law.nd rfl (Or.inl rfl) (pe_d D_l_odd (hr.mono (by decide)) (pa_cons (pv 1) pa_nil)))
      (Evl.pss_cut (ps_if (pt_cmpR op_gt (pv 2) pe_int (nomark _))
        (pss_one (ps_set (i := 4) sc_law.nd rfl (Or.inl rfl) pe_non))
        pss_nil)
      (pss_cons (ps_asg (pe_d D_l_caught (hr.mono (by decide)) (pa_cons (pv 2) (pa_cons (pv 4) (pa_cons (pe_and (pe_cmpR op_eq (pv 3) pe_int (nomark _)) (pe_one (pe_cmpR op_lt (pv 2) pe_int (nomark _)))) pa_nil)))) (pg_tup (by rfl) (pgs_cons (pg_name (i := 5) sc_law.nd rfl (Or.inl rfl)) (pgs_cons (pg_name (i := 6) sc_law.nd rfl (Or.inl rfl)) (pgs_cons (pg_name (i := 7) sc_law.nd rfl (Or.inl rfl)) pgs_nil)))))
      (pss_cons (ps_if (pt_cmpR (op_neD hr.units) (pv 5) (pe_lc (own := [("_law_k", 8)]) (g := gName 8) (tt := tYes) (by rfl) sc_law.nd (pi_range1 (by rfl) T.n_range (pa_cons pe_int pa_nil)) (blkOk_by (own := [("_law_k", 8)]) (N := sc_lawN) (sc := defScope s_law) (by decide +kernel)) (fun _ _ _ _ _ => pg_name (i := 8) sc_law.nd rfl (Or.inl rfl)) (fun _ _ _ _ _ => pts_nil) (fun _ _ _ _ _ => (pe_cmpR op_eq (pv 8) (pv 2) (nomark _)))) (nomark _))
        (pss_one (ps_ret pe_bl))
        pss_nil)
      (pss_one (ps_if (PW.pt (pw_or (pt_cmpR (op_neD hr.units) (pv 6) (pe_lst (pa_cons pe_bl (pa_cons pe_bl (pa_cons pe_bl (pa_cons pe_bl (pa_cons pe_bl (pa_cons pe_bl pa_nil))))))) (nomark _)) (pw_or1 (pt_not (pt_val (pe_d D_l_alike (hr.mono (by decide)) (pa_cons (pv 7) (pa_cons (pv 4) pa_nil))))))))
        (pss_one (ps_ret pe_bl))
        pss_nil)))))))))
  (pss_one (ps_ret pe_bl)))), ?_⟩
    refine ⟨_, rfl, a, ns, rfl, hs, len, fun b H1 B1 => ?_⟩
    refine ⟨_, rfl, by decide, by decide, for_range (lo := 0) (n := 21) (fun i σ H' => ∃ (F : Hp) (v2 v3 v4 v5 v6 v7 v8 : Option V), σ = [some (.ref a), some (.ref b), v2, v3, v4, v5, v6, v7, v8] ∧ Bag F H' b) ⟨_, _, _, _, _, _, _, _, rfl, B1⟩ ?_ ?_⟩
    · rintro i σ H2 hi ⟨F2, v2, v3, v4, v5, v6, v7, v8, rfl, B2⟩
      rw [Int.zero_add]
      refine ⟨_, rfl, by decide, by decide, for_range (lo := 0) (n := 2) (fun j σ H' => ∃ (F : Hp) (v3 v4 v5 v6 v7 v8 : Option V), σ = [some (.ref a), some (.ref b), some (.int (i : Nat)), v3, v4, v5, v6, v7, v8] ∧ Bag F H' b) ⟨_, _, _, _, _, _, _, rfl, B2⟩ ?_ ?_⟩
      · rintro j σ H3 hj ⟨F3, v3, v4, v5, v6, v7, v8, rfl, B3⟩
        rw [Int.zero_add]
        refine ⟨_, rfl, F3, b, rfl, B3, fun u0 F4 H4 B4 s4 od0 => ?_⟩
        refine ⟨fun σ' H' => ∃ u, σ' = [some (.ref a), some (.ref b), some (.int (i : Nat)), some (.int (j : Nat)), some u, v5, v6, v7, v8] ∧ H4 = H' ∧ Od K F4 u ∧ (17 ≤ i → u = .non), ?_, ?_⟩
        · refine ⟨_, rfl, _, _, rfl, rfl, _, rfl, ifd (fun h => ?_) fun h => ?_⟩
          · exact ⟨.non, rfl, rfl, od_flat rfl, fun _ => rfl⟩
          · exact ⟨u0, rfl, rfl, od0, fun h2 => absurd h2 (by omega)⟩
        rintro σ' H' ⟨u, rfl, rfl, od, hu⟩
        refine ⟨_, rfl, _, rfl, _, rfl, rfl, _, rfl, ifd (fun h => ⟨_, rfl, _, _, rfl, rfl, ?_⟩) fun h => ?_⟩
        all_goals
          refine ⟨i, u, _, rfl, hi, (by first | (intro z; cases z; done) | (intro z; have y := of_decide_eq_true z; omega)), hu, fun t fl ol H5 s5 e1 e2 e3 => ?_⟩
          have B5 := bag_same B4 s5
          refine ⟨t, _, rfl, .inl (.inl e1), by rfl, _, _, rfl, _, _, rfl, _, _, rfl, rfl, ?_⟩
          -- the flags
          refine ⟨_, rfl, _, rfl, by decide, by decide, fun D hD => ?_⟩
          refine lc_range (lo := 0) (n := 20) (fun m H' => Same H5 H' ∧ H' D = some (.lst ((flagV i).take m))) ⟨same_new _ hD, by rw [upd_same]; rfl⟩ ?_ ?_
          · rintro m H6 hm ⟨s6, d6⟩
            rw [Int.zero_add]
            refine ⟨rfl, _, rfl, _, rfl, rfl, _, d6, by rw [List.length_take]; exact Nat.lt_of_le_of_lt (Nat.min_le_left _ _) (Nat.lt_of_lt_of_le hm (by decide)), same_put s6 _ hD, ?_⟩
            rw [upd_same, flag_at hm]
          · rintro H6 ⟨s6, d6⟩
            have f6 := dp_flag (K := K) (s6 _ _ e2)
            have g6 : Dp K H6 (.ref D) (flagD i) := dp_flag d6
            have ok1 := flag_ok i hi
            refine ⟨flagD i, flagD i, f6, g6, ok1.1, ok1.1, _, rfl, ifF (by rw [ok1.2]; rfl) ?_⟩
            refine ⟨_, rfl, by decide, fun D2 hD2 => ?_⟩
            have s7 : Same H5 (upd H6 D2 (.lst othV)) := s6.trans (same_new _ hD2)
            have o7 : Dp K (upd H6 D2 (.lst othV)) (.ref D2) othD := dp_oth upd_same
            have B7 := bag_same B5 s7
            show rNeD _ _ _ (upd H6 D2 (.lst othV)) _
            generalize upd H6 D2 (.lst othV) = H7 at *
            refine ⟨othD, othD, dp_oth (s7 _ _ e3), o7, oth_ok.1, oth_ok.1, _, rfl, ifF (by rw [oth_ok.2]; rfl) ?_⟩
            have od7 := od.same B7.fh
            refine ⟨_, rfl, _, rfl, ⟨?_, fun H8 s8 => ⟨_, rfl, iteF ⟨F4, _, _, _, _, _, _, rfl, bag_same B7 s8⟩⟩⟩⟩
            rcases od7 with ⟨d, q1, q2⟩ | ⟨a7, rfl, q1⟩
            · exact .inl ⟨_, _, d, rfl, q1, q1, q2⟩
            · exact .inr ⟨a7, 2, rfl, rfl, q1⟩
      · rintro σ H3 ⟨F3, v3, v4, v5, v6, v7, v8, rfl, B3⟩
        exact ⟨F3, _, _, _, _, _, _, _, rfl, B3⟩
    · rintro σ H2 ⟨F2, v2, v3, v4, v5, v6, v7, v8, rfl, B2⟩
      exact k _
end
end Fm

/-! ## K00M -/
set_option Elab.async false
set_option maxRecDepth 100000
set_option maxHeartbeats 16000000
namespace Fm
open PySem L2
/-! ### what the top has written, the head -/
def veC : List Value := [.type "ValueError", .type "Exception", .type "BaseException", .type "object"]
/-- what an error's class says of itself -/
def exB (K : PySem.W.Frag) (C : Addr) : Bool :=
  decide (PySem.W.findIn K (.ref C) "__getattribute__" = some (some (.builtin "BaseException.__getattribute__"))) && decide (PySem.W.findIn K (.ref C) "__getattr__" = some none) && decide (PySem.W.subIn K (.ref C) (.type "BaseException") = some true) && PySem.W.hasDictIn K C &&
  decide (PySem.W.findIn K (.ref C) "__class__" = some (some (.builtin "object.__class__"))) && decide (PySem.W.mroIn K C (.type "object") = some true) && decide (PySem.W.typeIn K (.ref C) = some (.type "type")) && PySem.W.keepIn K (.ref C) &&
  decide (PySem.W.findIn K (.ref C) "__setattr__" = some (some (.builtin "object.__setattr__")))
structure ExF (K : PySem.W.Frag) (C : Addr) : Prop where
  ga : PySem.W.findIn K (.ref C) "__getattribute__" = some (some (.builtin "BaseException.__getattribute__"))
  gg : PySem.W.findIn K (.ref C) "__getattr__" = some none
  sb : PySem.W.subIn K (.ref C) (.type "BaseException") = some true
  hd : PySem.W.hasDictIn K C = true
  cc : PySem.W.findIn K (.ref C) "__class__" = some (some (.builtin "object.__class__"))
  mo : PySem.W.mroIn K C (.type "object") = some true
  ty : PySem.W.typeIn K (.ref C) = some (.type "type")
  kp : PySem.W.keepIn K (.ref C) = true
  sa : PySem.W.findIn K (.ref C) "__setattr__" = some (some (.builtin "object.__setattr__"))
theorem exB_ok {K : PySem.W.Frag} {C : Addr} (h : exB K C = true) : ExF K C := by
  simp only [exB, Bool.and_eq_true, decide_eq_true_eq] at h
  obtain ⟨⟨⟨⟨⟨⟨⟨⟨h1, h2⟩, h3⟩, h4⟩, h5⟩, h6⟩, h7⟩, h8⟩, h9⟩ := h
  exact ⟨h1, h2, h3, h4, h5, h6, h7, h8, h9⟩
/-- which error is which -/
def kitsB (K : PySem.W.Frag) (cs : List Addr) : Bool :=
  ((List.range 21).all fun i => exB K (cs.getD i 0) && decide (PySem.W.subIn K (.ref (cs.getD i 0)) (.ref (cs.getD 20 0)) = some true) && ((List.range 20).all fun j => decide (PySem.W.kitOne K (.ref (cs.getD i 0)) (.ref (cs.getD j 0)) = some (decide (j = i)))) &&
    (["KeyError", "IndexError", "TypeError", "ArithmeticError", "RuntimeError"].all fun n => decide (PySem.W.kitOne K (.ref (cs.getD i 0)) (.type n) = some false)) && decide (PySem.W.kitOne K (.ref (cs.getD i 0)) (.type "ValueError") = some true)) &&
  ((List.range 17).all fun i => decide (PySem.W.findIn K (.ref (cs.getD i 0)) (fld i) = some none)) && ((List.range 4).all fun i => PySem.W.excIn K (cs.getD (17 + i) 0) veC "ValueError.__new__") &&
  decide (PySem.W.specialIn K (.builtin "object.__class__") "__get__" = some (some (.builtin "getset_descriptor.__get__"))) && decide (PySem.W.takesIn K (.builtin "object.__class__") = some true)
structure KitsF (K : PySem.W.Frag) (cl : Nat → Addr) : Prop where
  e : ∀ i, i < 21 → ExF K (cl i) ∧ PySem.W.subIn K (.ref (cl i)) (.ref (cl 20)) = some true ∧ (∀ j, j < 20 → PySem.W.kitOne K (.ref (cl i)) (.ref (cl j)) = some (decide (j = i))) ∧
    (∀ n ∈ ["KeyError", "IndexError", "TypeError", "ArithmeticError", "RuntimeError"], PySem.W.kitOne K (.ref (cl i)) (.type n) = some false) ∧ PySem.W.kitOne K (.ref (cl i)) (.type "ValueError") = some true
  f : ∀ i, i < 17 → PySem.W.findIn K (.ref (cl i)) (fld i) = some none
  x : ∀ i, i < 4 → PySem.W.excIn K (cl (17 + i)) veC "ValueError.__new__" = true
  g : PySem.W.specialIn K (.builtin "object.__class__") "__get__" = some (some (.builtin "getset_descriptor.__get__"))
  t : PySem.W.takesIn K (.builtin "object.__class__") = some true
theorem kitsB_ok {K : PySem.W.Frag} {cs : List Addr} (h : kitsB K cs = true) : KitsF K (fun i => cs.getD i 0) := by
  simp only [kitsB, Bool.and_eq_true, decide_eq_true_eq, List.all_eq_true, List.mem_range] at h
  obtain ⟨⟨⟨⟨h1, h2⟩, h3⟩, h4⟩, h5⟩ := h
  exact ⟨fun i hi => by
    obtain ⟨⟨⟨⟨a1, a2⟩, a3⟩, a4⟩, a5⟩ := h1 i hi
    exact ⟨exB_ok a1, a2, a3, a4, a5⟩, h2, h3, h4, h5⟩
theorem kbn_one {K : PySem.W.Frag} {fd : FuncData} {f : Str} (h : ∀ u w : Value, bindArgs fd ⟨[u], [(f, w)]⟩ = pure [(("self" : Str), u), (f, w)]) : KBn K fd ["self", f] 1 [f] (fun us ws => us ++ ws) (fun vs zs => vs ++ zs) :=
  ⟨fun s us ws _ l1 l2 => match us, ws, l1, l2 with | [u], [w], _, _ => .of_eq (h u w), fun r1 r2 => r1.append r2⟩
theorem all_mk {l : PySem.W.OpenLaw} {w : World} {K : PySem.W.Frag} {h : Heap} {mg : Str → Option Value} {fa C0 C1 C2 C3 C4 C5 C6 C7 C8 C9 C10 C11 C12 C13 C14 C15 C16 C17 C18 C19 C20 f0 f1 f2 f3 f4 f5 f6 f7 f8 f9 f10 f11 f12 f13 f14 f15 f16 f17 f18 f19 f20 f21 f22 f23 f24 : Addr} (X : K.In h) (G : h.Ns mainGlobals mg) (hfa : mg "law" = some (.ref fa))
    {od0 an0 od1 an1 od2 an2 od3 an3 od4 an4 od5 an5 od6 an6 od7 an7 od8 an8 od9 an9 od10 an10 od11 an11 od12 an12 od13 an13 od14 an14 od15 an15 od16 an16 od17 an17 od18 an18 od19 an19 od20 an20 od21 an21 od22 an22 od23 an23 od24 an24 : Option Addr}
    {sl0 sl1 sl2 sl3 sl4 sl5 sl6 sl7 sl8 sl9 sl10 sl11 sl12 sl13 sl14 sl15 sl16 sl17 sl18 sl19 sl20 sl21 sl22 sl23 sl24 : Array (Option Value)}
    {oc0 kV0 dc0 pm0 cd0 ct0 oc1 kV1 dc1 pm1 cd1 ct1 oc2 kV2 dc2 pm2 cd2 ct2 oc3 kV3 dc3 pm3 cd3 ct3 oc4 kV4 dc4 pm4 cd4 ct4 oc5 kV5 dc5 pm5 cd5 ct5 oc6 kV6 dc6 pm6 cd6 ct6 oc7 kV7 dc7 pm7 cd7 ct7 oc8 kV8 dc8 pm8 cd8 ct8 oc9 kV9 dc9 pm9 cd9 ct9 oc10 kV10 dc10 pm10 cd10 ct10 oc11 kV11 dc11 pm11 cd11 ct11 oc12 kV12 dc12 pm12 cd12 ct12 oc13 kV13 dc13 pm13 cd13 ct13 oc14 kV14 dc14 pm14 cd14 ct14 oc15 kV15 dc15 pm15 cd15 ct15 oc16 kV16 dc16 pm16 cd16 ct16 oc17 kV17 dc17 pm17 cd17 ct17 oc18 kV18 dc18 pm18 cd18 ct18 oc19 kV19 dc19 pm19 cd19 ct19 oc20 kV20 dc20 pm20 cd20 ct20 oc21 kV21 dc21 pm21 cd21 ct21 oc22 kV22 dc22 pm22 cd22 ct22 oc23 kV23 dc23 pm23 cd23 ct23 oc24 kV24 dc24 pm24 cd24 ct24 : Value}
    {nm0 qn0 : Str} {N0 : Addr} {bs0 : List Value} {sn0 : List Str} {sub0 : List Value} {ab0 : Bool} {col0 : Option Bool} {dd0 : Option Addr} {m00_ m10_ m20_ m30_ m50_ : Option Value}
    {nm1 qn1 : Str} {N1 : Addr} {bs1 : List Value} {sn1 : List Str} {sub1 : List Value} {ab1 : Bool} {col1 : Option Bool} {dd1 : Option Addr} {m01_ m11_ m21_ m31_ m51_ : Option Value}
    {nm2 qn2 : Str} {N2 : Addr} {bs2 : List Value} {sn2 : List Str} {sub2 : List Value} {ab2 : Bool} {col2 : Option Bool} {dd2 : Option Addr} {m02_ m12_ m22_ m32_ m52_ : Option Value}
    {nm3 qn3 : Str} {N3 : Addr} {bs3 : List Value} {sn3 : List Str} {sub3 : List Value} {ab3 : Bool} {col3 : Option Bool} {dd3 : Option Addr} {m03_ m13_ m23_ m33_ m53_ : Option Value}
    {nm4 qn4 : Str} {N4 : Addr} {bs4 : List Value} {sn4 : List Str} {sub4 : List Value} {ab4 : Bool} {col4 : Option Bool} {dd4 : Option Addr} {m04_ m14_ m24_ m34_ m54_ : Option Value}
    {nm5 qn5 : Str} {N5 : Addr} {bs5 : List Value} {sn5 : List Str} {sub5 : List Value} {ab5 : Bool} {col5 : Option Bool} {dd5 : Option Addr} {m05_ m15_ m25_ m35_ m55_ : Option Value}
    {nm6 qn6 : Str} {N6 : Addr} {bs6 : List Value} {sn6 : List Str} {sub6 : List Value} {ab6 : Bool} {col6 : Option Bool} {dd6 : Option Addr} {m06_ m16_ m26_ m36_ m56_ : Option Value}
    {nm7 qn7 : Str} {N7 : Addr} {bs7 : List Value} {sn7 : List Str} {sub7 : List Value} {ab7 : Bool} {col7 : Option Bool} {dd7 : Option Addr} {m07_ m17_ m27_ m37_ m57_ : Option Value}
    {nm8 qn8 : Str} {N8 : Addr} {bs8 : List Value} {sn8 : List Str} {sub8 : List Value} {ab8 : Bool} {col8 : Option Bool} {dd8 : Option Addr} {m08_ m18_ m28_ m38_ m58_ : Option Value}
    {nm9 qn9 : Str} {N9 : Addr} {bs9 : List Value} {sn9 : List Str} {sub9 : List Value} {ab9 : Bool} {col9 : Option Bool} {dd9 : Option Addr} {m09_ m19_ m29_ m39_ m59_ : Option Value}
    {nm10 qn10 : Str} {N10 : Addr} {bs10 : List Value} {sn10 : List Str} {sub10 : List Value} {ab10 : Bool} {col10 : Option Bool} {dd10 : Option Addr} {m010_ m110_ m210_ m310_ m510_ : Option Value}
    {nm11 qn11 : Str} {N11 : Addr} {bs11 : List Value} {sn11 : List Str} {sub11 : List Value} {ab11 : Bool} {col11 : Option Bool} {dd11 : Option Addr} {m011_ m111_ m211_ m311_ m511_ : Option Value}
    {nm12 qn12 : Str} {N12 : Addr} {bs12 : List Value} {sn12 : List Str} {sub12 : List Value} {ab12 : Bool} {col12 : Option Bool} {dd12 : Option Addr} {m012_ m112_ m212_ m312_ m512_ : Option Value}
    {nm13 qn13 : Str} {N13 : Addr} {bs13 : List Value} {sn13 : List Str} {sub13 : List Value} {ab13 : Bool} {col13 : Option Bool} {dd13 : Option Addr} {m013_ m113_ m213_ m313_ m513_ : Option Value}
    {nm14 qn14 : Str} {N14 : Addr} {bs14 : List Value} {sn14 : List Str} {sub14 : List Value} {ab14 : Bool} {col14 : Option Bool} {dd14 : Option Addr} {m014_ m114_ m214_ m314_ m514_ : Option Value}
    {nm15 qn15 : Str} {N15 : Addr} {bs15 : List Value} {sn15 : List Str} {sub15 : List Value} {ab15 : Bool} {col15 : Option Bool} {dd15 : Option Addr} {m015_ m115_ m215_ m315_ m515_ : Option Value}
    {nm16 qn16 : Str} {N16 : Addr} {bs16 : List Value} {sn16 : List Str} {sub16 : List Value} {ab16 : Bool} {col16 : Option Bool} {dd16 : Option Addr} {m016_ m116_ m216_ m316_ m516_ : Option Value}
    (aC0 : PySem.W.nsIn K mainGlobals "BadShape" = some (some (.ref C0)))
    (aC1 : PySem.W.nsIn K mainGlobals "BadName" = some (some (.ref C1)))
    (aC2 : PySem.W.nsIn K mainGlobals "BadStore" = some (some (.ref C2)))
    (aC3 : PySem.W.nsIn K mainGlobals "BadRows" = some (some (.ref C3)))
    (aC4 : PySem.W.nsIn K mainGlobals "BadIndex" = some (some (.ref C4)))
    (aC5 : PySem.W.nsIn K mainGlobals "BadBlock" = some (some (.ref C5)))
    (aC6 : PySem.W.nsIn K mainGlobals "BadProgram" = some (some (.ref C6)))
    (aC7 : PySem.W.nsIn K mainGlobals "BadPattern" = some (some (.ref C7)))
    (aC8 : PySem.W.nsIn K mainGlobals "BadPair" = some (some (.ref C8)))
    (aC9 : PySem.W.nsIn K mainGlobals "BadMove" = some (some (.ref C9)))
    (aC10 : PySem.W.nsIn K mainGlobals "BadAsk" = some (some (.ref C10)))
    (aC11 : PySem.W.nsIn K mainGlobals "BadAsks" = some (some (.ref C11)))
    (aC12 : PySem.W.nsIn K mainGlobals "BadPlan" = some (some (.ref C12)))
    (aC13 : PySem.W.nsIn K mainGlobals "BadCount" = some (some (.ref C13)))
    (aC14 : PySem.W.nsIn K mainGlobals "BadText" = some (some (.ref C14)))
    (aC15 : PySem.W.nsIn K mainGlobals "NotPlain" = some (some (.ref C15)))
    (aC16 : PySem.W.nsIn K mainGlobals "Unlike" = some (some (.ref C16)))
    (aC17 : PySem.W.nsIn K mainGlobals "NothingDone" = some (some (.ref C17)))
    (aC18 : PySem.W.nsIn K mainGlobals "TooMany" = some (some (.ref C18)))
    (aC19 : PySem.W.nsIn K mainGlobals "TooLong" = some (some (.ref C19)))
    (aC20 : PySem.W.nsIn K mainGlobals "MetError" = some (some (.ref C20)))
    (xL0 : K.lookup C0 = some (excClassObj nm0 qn0 C0 N0 bs0 [.ref C20, .type "ValueError", .type "Exception", .type "BaseException", .type "object"] true sn0 sub0 ab0 col0 dd0 m00_ m10_ m20_ m30_ m50_ "ValueError.__new__"))
    (a0 : PySem.W.findIn K (.ref C0) "__init__" = some (some (.ref f0)))
    (t0 : PySem.W.typeIn K (.ref f0) = some (.type "function"))
    (l0 : K.lookup f0 = some ⟨oc0, od0, .func (PySem.W.fnOf "__init__" "BadShape.__init__" (defArgs s_BadShape_init) (defBody s_BadShape_init) (defScope s_BadShape_init) .none kV0 dc0 pm0 an0 cd0 ct0), sl0⟩)
    (c0 : PySem.W.codeIn K cd0 "BadShape.__init__" = true)
    (k0 : PySem.W.keepIn K (.ref f0) = true)
    (xL1 : K.lookup C1 = some (excClassObj nm1 qn1 C1 N1 bs1 [.ref C20, .type "ValueError", .type "Exception", .type "BaseException", .type "object"] true sn1 sub1 ab1 col1 dd1 m01_ m11_ m21_ m31_ m51_ "ValueError.__new__"))
    (a1 : PySem.W.findIn K (.ref C1) "__init__" = some (some (.ref f1)))
    (t1 : PySem.W.typeIn K (.ref f1) = some (.type "function"))
    (l1 : K.lookup f1 = some ⟨oc1, od1, .func (PySem.W.fnOf "__init__" "BadName.__init__" (defArgs s_BadName_init) (defBody s_BadName_init) (defScope s_BadName_init) .none kV1 dc1 pm1 an1 cd1 ct1), sl1⟩)
    (c1 : PySem.W.codeIn K cd1 "BadName.__init__" = true)
    (k1 : PySem.W.keepIn K (.ref f1) = true)
    (xL2 : K.lookup C2 = some (excClassObj nm2 qn2 C2 N2 bs2 [.ref C20, .type "ValueError", .type "Exception", .type "BaseException", .type "object"] true sn2 sub2 ab2 col2 dd2 m02_ m12_ m22_ m32_ m52_ "ValueError.__new__"))
    (a2 : PySem.W.findIn K (.ref C2) "__init__" = some (some (.ref f2)))
    (t2 : PySem.W.typeIn K (.ref f2) = some (.type "function"))
    (l2 : K.lookup f2 = some ⟨oc2, od2, .func (PySem.W.fnOf "__init__" "BadStore.__init__" (defArgs s_BadStore_init) (defBody s_BadStore_init) (defScope s_BadStore_init) .none kV2 dc2 pm2 an2 cd2 ct2), sl2⟩)
    (c2 : PySem.W.codeIn K cd2 "BadStore.__init__" = true)
    (k2 : PySem.W.keepIn K (.ref f2) = true)
    (xL3 : K.lookup C3 = some (excClassObj nm3 qn3 C3 N3 bs3 [.ref C20, .type "ValueError", .type "Exception", .type "BaseException", .type "object"] true sn3 sub3 ab3 col3 dd3 m03_ m13_ m23_ m33_ m53_ "ValueError.__new__"))
    (a3 : PySem.W.findIn K (.ref C3) "__init__" = some (some (.ref f3)))
    (t3 : PySem.W.typeIn K (.ref f3) = some (.type "function"))
    (l3 : K.lookup f3 = some ⟨oc3, od3, .func (PySem.W.fnOf "__init__" "BadRows.__init__" (defArgs s_BadRows_init) (defBody s_BadRows_init) (defScope s_BadRows_init) .none kV3 dc3 pm3 an3 cd3 ct3), sl3⟩)
    (c3 : PySem.W.codeIn K cd3 "BadRows.__init__" = true)
    (k3 : PySem.W.keepIn K (.ref f3) = true)
    (xL4 : K.lookup C4 = some (excClassObj nm4 qn4 C4 N4 bs4 [.ref C20, .type "ValueError", .type "Exception", .type "BaseException", .type "object"] true sn4 sub4 ab4 col4 dd4 m04_ m14_ m24_ m34_ m54_ "ValueError.__new__"))
    (a4 : PySem.W.findIn K (.ref C4) "__init__" = some (some (.ref f4)))
    (t4 : PySem.W.typeIn K (.ref f4) = some (.type "function"))
    (l4 : K.lookup f4 = some ⟨oc4, od4, .func (PySem.W.fnOf "__init__" "BadIndex.__init__" (defArgs s_BadIndex_init) (defBody s_BadIndex_init) (defScope s_BadIndex_init) .none kV4 dc4 pm4 an4 cd4 ct4), sl4⟩)
    (c4 : PySem.W.codeIn K cd4 "BadIndex.__init__" = true)
    (k4 : PySem.W.keepIn K (.ref f4) = true)
    (xL5 : K.lookup C5 = some (excClassObj nm5 qn5 C5 N5 bs5 [.ref C20, .type "ValueError", .type "Exception", .type "BaseException", .type "object"] true sn5 sub5 ab5 col5 dd5 m05_ m15_ m25_ m35_ m55_ "ValueError.__new__"))
    (a5 : PySem.W.findIn K (.ref C5) "__init__" = some (some (.ref f5)))
    (t5 : PySem.W.typeIn K (.ref f5) = some (.type "function"))
    (l5 : K.lookup f5 = some ⟨oc5, od5, .func (PySem.W.fnOf "__init__" "BadBlock.__init__" (defArgs s_BadBlock_init) (defBody s_BadBlock_init) (defScope s_BadBlock_init) .none kV5 dc5 pm5 an5 cd5 ct5), sl5⟩)
    (c5 : PySem.W.codeIn K cd5 "BadBlock.__init__" = true)
    (k5 : PySem.W.keepIn K (.ref f5) = true)
    (xL6 : K.lookup C6 = some (excClassObj nm6 qn6 C6 N6 bs6 [.ref C20, .type "ValueError", .type "Exception", .type "BaseException", .type "object"] true sn6 sub6 ab6 col6 dd6 m06_ m16_ m26_ m36_ m56_ "ValueError.__new__"))
    (a6 : PySem.W.findIn K (.ref C6) "__init__" = some (some (.ref f6)))
    (t6 : PySem.W.typeIn K (.ref f6) = some (.type "function"))
    (l6 : K.lookup f6 = some ⟨oc6, od6, .func (PySem.W.fnOf "__init__" "BadProgram.__init__" (defArgs s_BadProgram_init) (defBody s_BadProgram_init) (defScope s_BadProgram_init) .none kV6 dc6 pm6 an6 cd6 ct6), sl6⟩)
    (c6 : PySem.W.codeIn K cd6 "BadProgram.__init__" = true)
    (k6 : PySem.W.keepIn K (.ref f6) = true)
    (xL7 : K.lookup C7 = some (excClassObj nm7 qn7 C7 N7 bs7 [.ref C20, .type "ValueError", .type "Exception", .type "BaseException", .type "object"] true sn7 sub7 ab7 col7 dd7 m07_ m17_ m27_ m37_ m57_ "ValueError.__new__"))
    (a7 : PySem.W.findIn K (.ref C7) "__init__" = some (some (.ref f7)))
    (t7 : PySem.W.typeIn K (.ref f7) = some (.type "function"))
    (l7 : K.lookup f7 = some ⟨oc7, od7, .func (PySem.W.fnOf "__init__" "BadPattern.__init__" (defArgs s_BadPattern_init) (defBody s_BadPattern_init) (defScope s_BadPattern_init) .none kV7 dc7 pm7 an7 cd7 ct7), sl7⟩)
    (c7 : PySem.W.codeIn K cd7 "BadPattern.__init__" = true)
    (k7 : PySem.W.keepIn K (.ref f7) = true)
    (xL8 : K.lookup C8 = some (excClassObj nm8 qn8 C8 N8 bs8 [.ref C20, .type "ValueError", .type "Exception", .type "BaseException", .type "object"] true sn8 sub8 ab8 col8 dd8 m08_ m18_ m28_ m38_ m58_ "ValueError.__new__"))
    (a8 : PySem.W.findIn K (.ref C8) "__init__" = some (some (.ref f8)))
    (t8 : PySem.W.typeIn K (.ref f8) = some (.type "function"))
    (l8 : K.lookup f8 = some ⟨oc8, od8, .func (PySem.W.fnOf "__init__" "BadPair.__init__" (defArgs s_BadPair_init) (defBody s_BadPair_init) (defScope s_BadPair_init) .none kV8 dc8 pm8 an8 cd8 ct8), sl8⟩)
    (c8 : PySem.W.codeIn K cd8 "BadPair.__init__" = true)
    (k8 : PySem.W.keepIn K (.ref f8) = true)
    (xL9 : K.lookup C9 = some (excClassObj nm9 qn9 C9 N9 bs9 [.ref C20, .type "ValueError", .type "Exception", .type "BaseException", .type "object"] true sn9 sub9 ab9 col9 dd9 m09_ m19_ m29_ m39_ m59_ "ValueError.__new__"))
    (a9 : PySem.W.findIn K (.ref C9) "__init__" = some (some (.ref f9)))
    (t9 : PySem.W.typeIn K (.ref f9) = some (.type "function"))
    (l9 : K.lookup f9 = some ⟨oc9, od9, .func (PySem.W.fnOf "__init__" "BadMove.__init__" (defArgs s_BadMove_init) (defBody s_BadMove_init) (defScope s_BadMove_init) .none kV9 dc9 pm9 an9 cd9 ct9), sl9⟩)
    (c9 : PySem.W.codeIn K cd9 "BadMove.__init__" = true)
    (k9 : PySem.W.keepIn K (.ref f9) = true)
    (xL10 : K.lookup C10 = some (excClassObj nm10 qn10 C10 N10 bs10 [.ref C20, .type "ValueError", .type "Exception", .type "BaseException", .type "object"] true sn10 sub10 ab10 col10 dd10 m010_ m110_ m210_ m310_ m510_ "ValueError.__new__"))
    (a10 : PySem.W.findIn K (.ref C10) "__init__" = some (some (.ref f10)))
    (t10 : PySem.W.typeIn K (.ref f10) = some (.type "function"))
    (l10 : K.lookup f10 = some ⟨oc10, od10, .func (PySem.W.fnOf "__init__" "BadAsk.__init__" (defArgs s_BadAsk_init) (defBody s_BadAsk_init) (defScope s_BadAsk_init) .none kV10 dc10 pm10 an10 cd10 ct10), sl10⟩)
    (c10 : PySem.W.codeIn K cd10 "BadAsk.__init__" = true)
    (k10 : PySem.W.keepIn K (.ref f10) = true)
    (xL11 : K.lookup C11 = some (excClassObj nm11 qn11 C11 N11 bs11 [.ref C20, .type "ValueError", .type "Exception", .type "BaseException", .type "object"] true sn11 sub11 ab11 col11 dd11 m011_ m111_ m211_ m311_ m511_ "ValueError.__new__"))
    (a11 : PySem.W.findIn K (.ref C11) "__init__" = some (some (.ref f11)))
    (t11 : PySem.W.typeIn K (.ref f11) = some (.type "function"))
    (l11 : K.lookup f11 = some ⟨oc11, od11, .func (PySem.W.fnOf "__init__" "BadAsks.__init__" (defArgs s_BadAsks_init) (defBody s_BadAsks_init) (defScope s_BadAsks_init) .none kV11 dc11 pm11 an11 cd11 ct11), sl11⟩)
    (c11 : PySem.W.codeIn K cd11 "BadAsks.__init__" = true)
    (k11 : PySem.W.keepIn K (.ref f11) = true)
    (xL12 : K.lookup C12 = some (excClassObj nm12 qn12 C12 N12 bs12 [.ref C20, .type "ValueError", .type "Exception", .type "BaseException", .type "object"] true sn12 sub12 ab12 col12 dd12 m012_ m112_ m212_ m312_ m512_ "ValueError.__new__"))
    (a12 : PySem.W.findIn K (.ref C12) "__init__" = some (some (.ref f12)))
    (t12 : PySem.W.typeIn K (.ref f12) = some (.type "function"))
    (l12 : K.lookup f12 = some ⟨oc12, od12, .func (PySem.W.fnOf "__init__" "BadPlan.__init__" (defArgs s_BadPlan_init) (defBody s_BadPlan_init) (defScope s_BadPlan_init) .none kV12 dc12 pm12 an12 cd12 ct12), sl12⟩)
    (c12 : PySem.W.codeIn K cd12 "BadPlan.__init__" = true)
    (k12 : PySem.W.keepIn K (.ref f12) = true)
    (xL13 : K.lookup C13 = some (excClassObj nm13 qn13 C13 N13 bs13 [.ref C20, .type "ValueError", .type "Exception", .type "BaseException", .type "object"] true sn13 sub13 ab13 col13 dd13 m013_ m113_ m213_ m313_ m513_ "ValueError.__new__"))
    (a13 : PySem.W.findIn K (.ref C13) "__init__" = some (some (.ref f13)))
    (t13 : PySem.W.typeIn K (.ref f13) = some (.type "function"))
    (l13 : K.lookup f13 = some ⟨oc13, od13, .func (PySem.W.fnOf "__init__" "BadCount.__init__" (defArgs s_BadCount_init) (defBody s_BadCount_init) (defScope s_BadCount_init) .none kV13 dc13 pm13 an13 cd13 ct13), sl13⟩)
    (c13 : PySem.W.codeIn K cd13 "BadCount.__init__" = true)
    (k13 : PySem.W.keepIn K (.ref f13) = true)
    (xL14 : K.lookup C14 = some (excClassObj nm14 qn14 C14 N14 bs14 [.ref C20, .type "ValueError", .type "Exception", .type "BaseException", .type "object"] true sn14 sub14 ab14 col14 dd14 m014_ m114_ m214_ m314_ m514_ "ValueError.__new__"))
    (a14 : PySem.W.findIn K (.ref C14) "__init__" = some (some (.ref f14)))
    (t14 : PySem.W.typeIn K (.ref f14) = some (.type "function"))
    (l14 : K.lookup f14 = some ⟨oc14, od14, .func (PySem.W.fnOf "__init__" "BadText.__init__" (defArgs s_BadText_init) (defBody s_BadText_init) (defScope s_BadText_init) .none kV14 dc14 pm14 an14 cd14 ct14), sl14⟩)
    (c14 : PySem.W.codeIn K cd14 "BadText.__init__" = true)
    (k14 : PySem.W.keepIn K (.ref f14) = true)
    (xL15 : K.lookup C15 = some (excClassObj nm15 qn15 C15 N15 bs15 [.ref C20, .type "ValueError", .type "Exception", .type "BaseException", .type "object"] true sn15 sub15 ab15 col15 dd15 m015_ m115_ m215_ m315_ m515_ "ValueError.__new__"))
    (a15 : PySem.W.findIn K (.ref C15) "__init__" = some (some (.ref f15)))
    (t15 : PySem.W.typeIn K (.ref f15) = some (.type "function"))
    (l15 : K.lookup f15 = some ⟨oc15, od15, .func (PySem.W.fnOf "__init__" "NotPlain.__init__" (defArgs s_NotPlain_init) (defBody s_NotPlain_init) (defScope s_NotPlain_init) .none kV15 dc15 pm15 an15 cd15 ct15), sl15⟩)
    (c15 : PySem.W.codeIn K cd15 "NotPlain.__init__" = true)
    (k15 : PySem.W.keepIn K (.ref f15) = true)
    (xL16 : K.lookup C16 = some (excClassObj nm16 qn16 C16 N16 bs16 [.ref C20, .type "ValueError", .type "Exception", .type "BaseException", .type "object"] true sn16 sub16 ab16 col16 dd16 m016_ m116_ m216_ m316_ m516_ "ValueError.__new__"))
    (a16 : PySem.W.findIn K (.ref C16) "__init__" = some (some (.ref f16)))
    (t16 : PySem.W.typeIn K (.ref f16) = some (.type "function"))
    (l16 : K.lookup f16 = some ⟨oc16, od16, .func (PySem.W.fnOf "__init__" "Unlike.__init__" (defArgs s_Unlike_init) (defBody s_Unlike_init) (defScope s_Unlike_init) .none kV16 dc16 pm16 an16 cd16 ct16), sl16⟩)
    (c16 : PySem.W.codeIn K cd16 "Unlike.__init__" = true)
    (k16 : PySem.W.keepIn K (.ref f16) = true)
    (a17 : PySem.W.nsIn K mainGlobals "_law_bag" = some (some (.ref f17)))
    (l17 : K.lookup f17 = some ⟨oc17, od17, .func (PySem.W.fnOf "_law_bag" "_law_bag" (defArgs s_l_bag) (defBody s_l_bag) (defScope s_l_bag) .none kV17 dc17 pm17 an17 cd17 ct17), sl17⟩)
    (c17 : PySem.W.codeIn K cd17 "_law_bag" = true)
    (k17 : PySem.W.keepIn K (.ref f17) = true)
    (a18 : PySem.W.nsIn K mainGlobals "_law_pick" = some (some (.ref f18)))
    (l18 : K.lookup f18 = some ⟨oc18, od18, .func (PySem.W.fnOf "_law_pick" "_law_pick" (defArgs s_l_pick) (defBody s_l_pick) (defScope s_l_pick) .none kV18 dc18 pm18 an18 cd18 ct18), sl18⟩)
    (c18 : PySem.W.codeIn K cd18 "_law_pick" = true)
    (k18 : PySem.W.keepIn K (.ref f18) = true)
    (a19 : PySem.W.nsIn K mainGlobals "_law_alike" = some (some (.ref f19)))
    (l19 : K.lookup f19 = some ⟨oc19, od19, .func (PySem.W.fnOf "_law_alike" "_law_alike" (defArgs s_l_alike) (defBody s_l_alike) (defScope s_l_alike) .none kV19 dc19 pm19 an19 cd19 ct19), sl19⟩)
    (c19 : PySem.W.codeIn K cd19 "_law_alike" = true)
    (k19 : PySem.W.keepIn K (.ref f19) = true)
    (a20 : PySem.W.nsIn K mainGlobals "_law_odd" = some (some (.ref f20)))
    (l20 : K.lookup f20 = some ⟨oc20, od20, .func (PySem.W.fnOf "_law_odd" "_law_odd" (defArgs s_l_odd) (defBody s_l_odd) (defScope s_l_odd) .none kV20 dc20 pm20 an20 cd20 ct20), sl20⟩)
    (c20 : PySem.W.codeIn K cd20 "_law_odd" = true)
    (k20 : PySem.W.keepIn K (.ref f20) = true)
    (a21 : PySem.W.nsIn K mainGlobals "_law_raise" = some (some (.ref f21)))
    (l21 : K.lookup f21 = some ⟨oc21, od21, .func (PySem.W.fnOf "_law_raise" "_law_raise" (defArgs s_l_raise) (defBody s_l_raise) (defScope s_l_raise) .none kV21 dc21 pm21 an21 cd21 ct21), sl21⟩)
    (c21 : PySem.W.codeIn K cd21 "_law_raise" = true)
    (k21 : PySem.W.keepIn K (.ref f21) = true)
    (a22 : PySem.W.nsIn K mainGlobals "_law_raise_named" = some (some (.ref f22)))
    (l22 : K.lookup f22 = some ⟨oc22, od22, .func (PySem.W.fnOf "_law_raise_named" "_law_raise_named" (defArgs s_l_raise_named) (defBody s_l_raise_named) (defScope s_l_raise_named) .none kV22 dc22 pm22 an22 cd22 ct22), sl22⟩)
    (c22 : PySem.W.codeIn K cd22 "_law_raise_named" = true)
    (k22 : PySem.W.keepIn K (.ref f22) = true)
    (a23 : PySem.W.nsIn K mainGlobals "_law_caught" = some (some (.ref f23)))
    (l23 : K.lookup f23 = some ⟨oc23, od23, .func (PySem.W.fnOf "_law_caught" "_law_caught" (defArgs s_l_caught) (defBody s_l_caught) (defScope s_l_caught) .none kV23 dc23 pm23 an23 cd23 ct23), sl23⟩)
    (c23 : PySem.W.codeIn K cd23 "_law_caught" = true)
    (k23 : PySem.W.keepIn K (.ref f23) = true)
    (a24 : PySem.W.nsIn K mainGlobals "law" = some (some (.ref f24)))
    (l24 : K.lookup f24 = some ⟨oc24, od24, .func (PySem.W.fnOf "law" "law" (defArgs s_law) (defBody s_law) (defScope s_law) .none kV24 dc24 pm24 an24 cd24 ct24), sl24⟩)
    (c24 : PySem.W.codeIn K cd24 "law" = true)
    (k24 : PySem.W.keepIn K (.ref f24) = true)
    (z_len : PySem.W.nsIn K mainGlobals "len" = some none)
    (z_list : PySem.W.nsIn K mainGlobals "list" = some none)
    (z_tuple : PySem.W.nsIn K mainGlobals "tuple" = some none)
    (z_isinstance : PySem.W.nsIn K mainGlobals "isinstance" = some none)
    (z_dict : PySem.W.nsIn K mainGlobals "dict" = some none)
    (z_bool : PySem.W.nsIn K mainGlobals "bool" = some none)
    (z_int : PySem.W.nsIn K mainGlobals "int" = some none)
    (z_max : PySem.W.nsIn K mainGlobals "max" = some none)
    (z_all : PySem.W.nsIn K mainGlobals "all" = some none)
    (z_range : PySem.W.nsIn K mainGlobals "range" = some none)
    (z_KeyError : PySem.W.nsIn K mainGlobals "KeyError" = some none)
    (z_IndexError : PySem.W.nsIn K mainGlobals "IndexError" = some none)
    (z_TypeError : PySem.W.nsIn K mainGlobals "TypeError" = some none)
    (z_ArithmeticError : PySem.W.nsIn K mainGlobals "ArithmeticError" = some none)
    (z_RuntimeError : PySem.W.nsIn K mainGlobals "RuntimeError" = some none)
    (z_ValueError : PySem.W.nsIn K mainGlobals "ValueError" = some none)
    (kits : kitsB K [C0, C1, C2, C3, C4, C5, C6, C7, C8, C9, C10, C11, C12, C13, C14, C15, C16, C17, C18, C19, C20] = true) :
    ∃ fd : FuncData, (∀ (s : Shared) (v : Value), BindsTo s fd ⟨[v], []⟩ [("_law_script", v)]) ∧ ∀ base : Heap, K.In base → base.Ns mainGlobals mg → FnOk l.prog w K mg base CX0 6 fa fd ["_law_script"] (spLaw K) := by
  have e := hfa.symm.trans (PySem.W.mg_of X G a24)
  cases e
  have KF := kitsB_ok kits
  obtain ⟨cl, hcl⟩ : ∃ cl : Nat → Addr, cl = fun i => [C0, C1, C2, C3, C4, C5, C6, C7, C8, C9, C10, C11, C12, C13, C14, C15, C16, C17, C18, C19, C20].getD i 0 := ⟨_, rfl⟩
  rw [← hcl] at KF
  have q0 : cl 0 = C0 := by rw [hcl]; rfl
  have q1 : cl 1 = C1 := by rw [hcl]; rfl
  have q2 : cl 2 = C2 := by rw [hcl]; rfl
  have q3 : cl 3 = C3 := by rw [hcl]; rfl
  have q4 : cl 4 = C4 := by rw [hcl]; rfl
  have q5 : cl 5 = C5 := by rw [hcl]; rfl
  have q6 : cl 6 = C6 := by rw [hcl]; rfl
  have q7 : cl 7 = C7 := by rw [hcl]; rfl
  have q8 : cl 8 = C8 := by rw [hcl]; rfl
  have q9 : cl 9 = C9 := by rw [hcl]; rfl
  have q10 : cl 10 = C10 := by rw [hcl]; rfl
  have q11 : cl 11 = C11 := by rw [hcl]; rfl
  have q12 : cl 12 = C12 := by rw [hcl]; rfl
  have q13 : cl 13 = C13 := by rw [hcl]; rfl
  have q14 : cl 14 = C14 := by rw [hcl]; rfl
  have q15 : cl 15 = C15 := by rw [hcl]; rfl
  have q16 : cl 16 = C16 := by rw [hcl]; rfl
  have q17 : cl 17 = C17 := by rw [hcl]; rfl
  have q18 : cl 18 = C18 := by rw [hcl]; rfl
  have q19 : cl 19 = C19 := by rw [hcl]; rfl
  have q20 : cl 20 = C20 := by rw [hcl]; rfl
  have T : Txt K mg cl := ⟨PySem.W.mg_none_of X G z_len, PySem.W.mg_none_of X G z_list, PySem.W.mg_none_of X G z_tuple, PySem.W.mg_none_of X G z_isinstance, PySem.W.mg_none_of X G z_dict, PySem.W.mg_none_of X G z_bool, PySem.W.mg_none_of X G z_int, PySem.W.mg_none_of X G z_max, PySem.W.mg_none_of X G z_all, PySem.W.mg_none_of X G z_range, PySem.W.mg_none_of X G z_KeyError, PySem.W.mg_none_of X G z_IndexError, PySem.W.mg_none_of X G z_TypeError, PySem.W.mg_none_of X G z_ArithmeticError, PySem.W.mg_none_of X G z_RuntimeError, PySem.W.mg_none_of X G z_ValueError,
    by rw [q0]; exact PySem.W.mg_of X G aC0, by rw [q1]; exact PySem.W.mg_of X G aC1, by rw [q2]; exact PySem.W.mg_of X G aC2, by rw [q3]; exact PySem.W.mg_of X G aC3, by rw [q4]; exact PySem.W.mg_of X G aC4, by rw [q5]; exact PySem.W.mg_of X G aC5, by rw [q6]; exact PySem.W.mg_of X G aC6, by rw [q7]; exact PySem.W.mg_of X G aC7, by rw [q8]; exact PySem.W.mg_of X G aC8, by rw [q9]; exact PySem.W.mg_of X G aC9, by rw [q10]; exact PySem.W.mg_of X G aC10, by rw [q11]; exact PySem.W.mg_of X G aC11, by rw [q12]; exact PySem.W.mg_of X G aC12, by rw [q13]; exact PySem.W.mg_of X G aC13, by rw [q14]; exact PySem.W.mg_of X G aC14, by rw [q15]; exact PySem.W.mg_of X G aC15, by rw [q16]; exact PySem.W.mg_of X G aC16, by rw [q17]; exact PySem.W.mg_of X G aC17, by rw [q18]; exact PySem.W.mg_of X G aC18, by rw [q19]; exact PySem.W.mg_of X G aC19, by rw [q20]; exact PySem.W.mg_of X G aC20,
    fun i hi => ⟨(KF.e i hi).1.ga, (KF.e i hi).1.gg, (KF.e i hi).1.sb, (KF.e i hi).1.hd, (KF.e i hi).1.cc, KF.g, KF.t, (KF.e i hi).1.mo⟩,
    fun i hi => ⟨⟨(KF.e i (by omega)).1.ga, (KF.e i (by omega)).1.gg, (KF.e i (by omega)).1.sb, (KF.e i (by omega)).1.hd⟩, KF.f i hi⟩,
    fun i hi => PySem.W.exm_ref (KF.e 20 (by decide)).1.sb (KF.e 20 (by decide)).1.hd (KF.e 20 (by decide)).1.ty (KF.e i hi).2.1,
    fun i hi j hj => (KF.e i hi).2.2.1 j hj, fun i hi n hn => (KF.e i hi).2.2.2.1 n hn, fun i hi => (KF.e i hi).2.2.2.2⟩
  refine ⟨PySem.W.fnOf "law" "law" (defArgs s_law) (defBody s_law) (defScope s_law) .none kV24 dc24 pm24 an24 cd24 ct24, fun s v => .of_eq rfl, fun base _ _ => ?_⟩
  have F0 := fun_mk (st := s_BadShape_init) l0 c0 k0
  have b0 := F0.binds (ps := ps_BadShape_init) fun _ _ _ _ _ _ us hl => match us, hl with | [_, _], _ => rfl
  have E0 := (KF.e 0 (by decide)).1
  have X_BadShape : Xf l.prog w K mg base "BadShape" (cl 0) "at" := by
    have nf := KF.f 0 (by decide)
    rw [q0] at E0 nf ⊢
    exact ⟨f0, _, ⟨⟨_, _, _, _, _, _, _, _, _, _, _, _, _, _, _, xL0, rfl⟩, E0.sa, E0.sb, E0.ty, E0.kp⟩, a0, t0, ok_BadShape F0, PySem.W.mg_of X G aC0, b0, kbn_one fun _ _ => rfl, nf⟩
  have F1 := fun_mk (st := s_BadName_init) l1 c1 k1
  have b1 := F1.binds (ps := ps_BadName_init) fun _ _ _ _ _ _ us hl => match us, hl with | [_, _], _ => rfl
  have E1 := (KF.e 1 (by decide)).1
  have X_BadName : Xf l.prog w K mg base "BadName" (cl 1) "value" := by
    have nf := KF.f 1 (by decide)
    rw [q1] at E1 nf ⊢
    exact ⟨f1, _, ⟨⟨_, _, _, _, _, _, _, _, _, _, _, _, _, _, _, xL1, rfl⟩, E1.sa, E1.sb, E1.ty, E1.kp⟩, a1, t1, ok_BadName F1, PySem.W.mg_of X G aC1, b1, kbn_one fun _ _ => rfl, nf⟩
  have F2 := fun_mk (st := s_BadStore_init) l2 c2 k2
  have b2 := F2.binds (ps := ps_BadStore_init) fun _ _ _ _ _ _ us hl => match us, hl with | [_, _], _ => rfl
  have E2 := (KF.e 2 (by decide)).1
  have X_BadStore : Xf l.prog w K mg base "BadStore" (cl 2) "value" := by
    have nf := KF.f 2 (by decide)
    rw [q2] at E2 nf ⊢
    exact ⟨f2, _, ⟨⟨_, _, _, _, _, _, _, _, _, _, _, _, _, _, _, xL2, rfl⟩, E2.sa, E2.sb, E2.ty, E2.kp⟩, a2, t2, ok_BadStore F2, PySem.W.mg_of X G aC2, b2, kbn_one fun _ _ => rfl, nf⟩
  have F3 := fun_mk (st := s_BadRows_init) l3 c3 k3
  have b3 := F3.binds (ps := ps_BadRows_init) fun _ _ _ _ _ _ us hl => match us, hl with | [_, _], _ => rfl
  have E3 := (KF.e 3 (by decide)).1
  have X_BadRows : Xf l.prog w K mg base "BadRows" (cl 3) "value" := by
    have nf := KF.f 3 (by decide)
    rw [q3] at E3 nf ⊢
    exact ⟨f3, _, ⟨⟨_, _, _, _, _, _, _, _, _, _, _, _, _, _, _, xL3, rfl⟩, E3.sa, E3.sb, E3.ty, E3.kp⟩, a3, t3, ok_BadRows F3, PySem.W.mg_of X G aC3, b3, kbn_one fun _ _ => rfl, nf⟩
  have F4 := fun_mk (st := s_BadIndex_init) l4 c4 k4
  have b4 := F4.binds (ps := ps_BadIndex_init) fun _ _ _ _ _ _ us hl => match us, hl with | [_, _], _ => rfl
  have E4 := (KF.e 4 (by decide)).1
  have X_BadIndex : Xf l.prog w K mg base "BadIndex" (cl 4) "value" := by
    have nf := KF.f 4 (by decide)
    rw [q4] at E4 nf ⊢
    exact ⟨f4, _, ⟨⟨_, _, _, _, _, _, _, _, _, _, _, _, _, _, _, xL4, rfl⟩, E4.sa, E4.sb, E4.ty, E4.kp⟩, a4, t4, ok_BadIndex F4, PySem.W.mg_of X G aC4, b4, kbn_one fun _ _ => rfl, nf⟩
  have F5 := fun_mk (st := s_BadBlock_init) l5 c5 k5
  have b5 := F5.binds (ps := ps_BadBlock_init) fun _ _ _ _ _ _ us hl => match us, hl with | [_, _], _ => rfl
  have E5 := (KF.e 5 (by decide)).1
  have X_BadBlock : Xf l.prog w K mg base "BadBlock" (cl 5) "at" := by
    have nf := KF.f 5 (by decide)
    rw [q5] at E5 nf ⊢
    exact ⟨f5, _, ⟨⟨_, _, _, _, _, _, _, _, _, _, _, _, _, _, _, xL5, rfl⟩, E5.sa, E5.sb, E5.ty, E5.kp⟩, a5, t5, ok_BadBlock F5, PySem.W.mg_of X G aC5, b5, kbn_one fun _ _ => rfl, nf⟩
  have F6 := fun_mk (st := s_BadProgram_init) l6 c6 k6
  have b6 := F6.binds (ps := ps_BadProgram_init) fun _ _ _ _ _ _ us hl => match us, hl with | [_, _], _ => rfl
  have E6 := (KF.e 6 (by decide)).1
  have X_BadProgram : Xf l.prog w K mg base "BadProgram" (cl 6) "value" := by
    have nf := KF.f 6 (by decide)
    rw [q6] at E6 nf ⊢
    exact ⟨f6, _, ⟨⟨_, _, _, _, _, _, _, _, _, _, _, _, _, _, _, xL6, rfl⟩, E6.sa, E6.sb, E6.ty, E6.kp⟩, a6, t6, ok_BadProgram F6, PySem.W.mg_of X G aC6, b6, kbn_one fun _ _ => rfl, nf⟩
  have F7 := fun_mk (st := s_BadPattern_init) l7 c7 k7
  have b7 := F7.binds (ps := ps_BadPattern_init) fun _ _ _ _ _ _ us hl => match us, hl with | [_, _], _ => rfl
  have E7 := (KF.e 7 (by decide)).1
  have X_BadPattern : Xf l.prog w K mg base "BadPattern" (cl 7) "at" := by
    have nf := KF.f 7 (by decide)
    rw [q7] at E7 nf ⊢
    exact ⟨f7, _, ⟨⟨_, _, _, _, _, _, _, _, _, _, _, _, _, _, _, xL7, rfl⟩, E7.sa, E7.sb, E7.ty, E7.kp⟩, a7, t7, ok_BadPattern F7, PySem.W.mg_of X G aC7, b7, kbn_one fun _ _ => rfl, nf⟩
  have F8 := fun_mk (st := s_BadPair_init) l8 c8 k8
  have b8 := F8.binds (ps := ps_BadPair_init) fun _ _ _ _ _ _ us hl => match us, hl with | [_, _], _ => rfl
  have E8 := (KF.e 8 (by decide)).1
  have X_BadPair : Xf l.prog w K mg base "BadPair" (cl 8) "value" := by
    have nf := KF.f 8 (by decide)
    rw [q8] at E8 nf ⊢
    exact ⟨f8, _, ⟨⟨_, _, _, _, _, _, _, _, _, _, _, _, _, _, _, xL8, rfl⟩, E8.sa, E8.sb, E8.ty, E8.kp⟩, a8, t8, ok_BadPair F8, PySem.W.mg_of X G aC8, b8, kbn_one fun _ _ => rfl, nf⟩
  have F9 := fun_mk (st := s_BadMove_init) l9 c9 k9
  have b9 := F9.binds (ps := ps_BadMove_init) fun _ _ _ _ _ _ us hl => match us, hl with | [_, _], _ => rfl
  have E9 := (KF.e 9 (by decide)).1
  have X_BadMove : Xf l.prog w K mg base "BadMove" (cl 9) "value" := by
    have nf := KF.f 9 (by decide)
    rw [q9] at E9 nf ⊢
    exact ⟨f9, _, ⟨⟨_, _, _, _, _, _, _, _, _, _, _, _, _, _, _, xL9, rfl⟩, E9.sa, E9.sb, E9.ty, E9.kp⟩, a9, t9, ok_BadMove F9, PySem.W.mg_of X G aC9, b9, kbn_one fun _ _ => rfl, nf⟩
  have F10 := fun_mk (st := s_BadAsk_init) l10 c10 k10
  have b10 := F10.binds (ps := ps_BadAsk_init) fun _ _ _ _ _ _ us hl => match us, hl with | [_, _], _ => rfl
  have E10 := (KF.e 10 (by decide)).1
  have X_BadAsk : Xf l.prog w K mg base "BadAsk" (cl 10) "at" := by
    have nf := KF.f 10 (by decide)
    rw [q10] at E10 nf ⊢
    exact ⟨f10, _, ⟨⟨_, _, _, _, _, _, _, _, _, _, _, _, _, _, _, xL10, rfl⟩, E10.sa, E10.sb, E10.ty, E10.kp⟩, a10, t10, ok_BadAsk F10, PySem.W.mg_of X G aC10, b10, kbn_one fun _ _ => rfl, nf⟩
  have F11 := fun_mk (st := s_BadAsks_init) l11 c11 k11
  have b11 := F11.binds (ps := ps_BadAsks_init) fun _ _ _ _ _ _ us hl => match us, hl with | [_, _], _ => rfl
  have E11 := (KF.e 11 (by decide)).1
  have X_BadAsks : Xf l.prog w K mg base "BadAsks" (cl 11) "value" := by
    have nf := KF.f 11 (by decide)
    rw [q11] at E11 nf ⊢
    exact ⟨f11, _, ⟨⟨_, _, _, _, _, _, _, _, _, _, _, _, _, _, _, xL11, rfl⟩, E11.sa, E11.sb, E11.ty, E11.kp⟩, a11, t11, ok_BadAsks F11, PySem.W.mg_of X G aC11, b11, kbn_one fun _ _ => rfl, nf⟩
  have F12 := fun_mk (st := s_BadPlan_init) l12 c12 k12
  have b12 := F12.binds (ps := ps_BadPlan_init) fun _ _ _ _ _ _ us hl => match us, hl with | [_, _], _ => rfl
  have E12 := (KF.e 12 (by decide)).1
  have X_BadPlan : Xf l.prog w K mg base "BadPlan" (cl 12) "value" := by
    have nf := KF.f 12 (by decide)
    rw [q12] at E12 nf ⊢
    exact ⟨f12, _, ⟨⟨_, _, _, _, _, _, _, _, _, _, _, _, _, _, _, xL12, rfl⟩, E12.sa, E12.sb, E12.ty, E12.kp⟩, a12, t12, ok_BadPlan F12, PySem.W.mg_of X G aC12, b12, kbn_one fun _ _ => rfl, nf⟩
  have F13 := fun_mk (st := s_BadCount_init) l13 c13 k13
  have b13 := F13.binds (ps := ps_BadCount_init) fun _ _ _ _ _ _ us hl => match us, hl with | [_, _], _ => rfl
  have E13 := (KF.e 13 (by decide)).1
  have X_BadCount : Xf l.prog w K mg base "BadCount" (cl 13) "value" := by
    have nf := KF.f 13 (by decide)
    rw [q13] at E13 nf ⊢
    exact ⟨f13, _, ⟨⟨_, _, _, _, _, _, _, _, _, _, _, _, _, _, _, xL13, rfl⟩, E13.sa, E13.sb, E13.ty, E13.kp⟩, a13, t13, ok_BadCount F13, PySem.W.mg_of X G aC13, b13, kbn_one fun _ _ => rfl, nf⟩
  have F14 := fun_mk (st := s_BadText_init) l14 c14 k14
  have b14 := F14.binds (ps := ps_BadText_init) fun _ _ _ _ _ _ us hl => match us, hl with | [_, _], _ => rfl
  have E14 := (KF.e 14 (by decide)).1
  have X_BadText : Xf l.prog w K mg base "BadText" (cl 14) "at" := by
    have nf := KF.f 14 (by decide)
    rw [q14] at E14 nf ⊢
    exact ⟨f14, _, ⟨⟨_, _, _, _, _, _, _, _, _, _, _, _, _, _, _, xL14, rfl⟩, E14.sa, E14.sb, E14.ty, E14.kp⟩, a14, t14, ok_BadText F14, PySem.W.mg_of X G aC14, b14, kbn_one fun _ _ => rfl, nf⟩
  have F15 := fun_mk (st := s_NotPlain_init) l15 c15 k15
  have b15 := F15.binds (ps := ps_NotPlain_init) fun _ _ _ _ _ _ us hl => match us, hl with | [_, _], _ => rfl
  have E15 := (KF.e 15 (by decide)).1
  have X_NotPlain : Xf l.prog w K mg base "NotPlain" (cl 15) "at" := by
    have nf := KF.f 15 (by decide)
    rw [q15] at E15 nf ⊢
    exact ⟨f15, _, ⟨⟨_, _, _, _, _, _, _, _, _, _, _, _, _, _, _, xL15, rfl⟩, E15.sa, E15.sb, E15.ty, E15.kp⟩, a15, t15, ok_NotPlain F15, PySem.W.mg_of X G aC15, b15, kbn_one fun _ _ => rfl, nf⟩
  have F16 := fun_mk (st := s_Unlike_init) l16 c16 k16
  have b16 := F16.binds (ps := ps_Unlike_init) fun _ _ _ _ _ _ us hl => match us, hl with | [_, _], _ => rfl
  have E16 := (KF.e 16 (by decide)).1
  have X_Unlike : Xf l.prog w K mg base "Unlike" (cl 16) "value" := by
    have nf := KF.f 16 (by decide)
    rw [q16] at E16 nf ⊢
    exact ⟨f16, _, ⟨⟨_, _, _, _, _, _, _, _, _, _, _, _, _, _, _, xL16, rfl⟩, E16.sa, E16.sb, E16.ty, E16.kp⟩, a16, t16, ok_Unlike F16, PySem.W.mg_of X G aC16, b16, kbn_one fun _ _ => rfl, nf⟩
  have X_NothingDone : X0 K mg "NothingDone" (cl 17) := by
    have xx := KF.x 0 (by decide)
    have ee := (KF.e 17 (by decide)).1
    have xx2 : PySem.W.excIn K (cl 17) veC "ValueError.__new__" = true := xx
    rw [q17] at xx2 ee ⊢
    exact ⟨_, _, _, _, PySem.F.excBase_ValueError, xx2, PySem.W.mg_of X G aC17, ee.kp, ee.sb, ee.ty⟩
  have X_TooMany : X0 K mg "TooMany" (cl 18) := by
    have xx := KF.x 1 (by decide)
    have ee := (KF.e 18 (by decide)).1
    have xx2 : PySem.W.excIn K (cl 18) veC "ValueError.__new__" = true := xx
    rw [q18] at xx2 ee ⊢
    exact ⟨_, _, _, _, PySem.F.excBase_ValueError, xx2, PySem.W.mg_of X G aC18, ee.kp, ee.sb, ee.ty⟩
  have X_TooLong : X0 K mg "TooLong" (cl 19) := by
    have xx := KF.x 2 (by decide)
    have ee := (KF.e 19 (by decide)).1
    have xx2 : PySem.W.excIn K (cl 19) veC "ValueError.__new__" = true := xx
    rw [q19] at xx2 ee ⊢
    exact ⟨_, _, _, _, PySem.F.excBase_ValueError, xx2, PySem.W.mg_of X G aC19, ee.kp, ee.sb, ee.ty⟩
  have X_MetError : X0 K mg "MetError" (cl 20) := by
    have xx := KF.x 3 (by decide)
    have ee := (KF.e 20 (by decide)).1
    have xx2 : PySem.W.excIn K (cl 20) veC "ValueError.__new__" = true := xx
    rw [q20] at xx2 ee ⊢
    exact ⟨_, _, _, _, PySem.F.excBase_ValueError, xx2, PySem.W.mg_of X G aC20, ee.kp, ee.sb, ee.ty⟩
  have F17 := fun_mk (st := s_l_bag) l17 c17 k17
  have b17 := F17.binds (ps := ps_l_bag) fun _ _ _ _ _ _ us hl => match us, hl with | [_], _ => rfl
  have F18 := fun_mk (st := s_l_pick) l18 c18 k18
  have b18 := F18.binds (ps := ps_l_pick) fun _ _ _ _ _ _ us hl => match us, hl with | [_, _], _ => rfl
  have F19 := fun_mk (st := s_l_alike) l19 c19 k19
  have b19 := F19.binds (ps := ps_l_alike) fun _ _ _ _ _ _ us hl => match us, hl with | [_, _], _ => rfl
  have F20 := fun_mk (st := s_l_odd) l20 c20 k20
  have b20 := F20.binds (ps := ps_l_odd) fun _ _ _ _ _ _ us hl => match us, hl with | [_], _ => rfl
  have F21 := fun_mk (st := s_l_raise) l21 c21 k21
  have b21 := F21.binds (ps := ps_l_raise) fun _ _ _ _ _ _ us hl => match us, hl with | [_, _], _ => rfl
  have F22 := fun_mk (st := s_l_raise_named) l22 c22 k22
  have b22 := F22.binds (ps := ps_l_raise_named) fun _ _ _ _ _ _ us hl => match us, hl with | [_, _], _ => rfl
  have F23 := fun_mk (st := s_l_caught) l23 c23 k23
  have b23 := F23.binds (ps := ps_l_caught) fun _ _ _ _ _ _ us hl => match us, hl with | [_, _, _], _ => rfl
  have F24 := fun_mk (st := s_law) l24 c24 k24
  have b24 := F24.binds (ps := ps_law) fun _ _ _ _ _ _ us hl => match us, hl with | [_], _ => rfl
  have D_l_bag : Df l.prog w K mg base "_law_bag" 1 ps_l_bag (spBag K) := ⟨f17, _, ok_l_bag F17 T, PySem.W.mg_of X G a17, k17, b17⟩
  have D_l_pick : Df l.prog w K mg base "_law_pick" 1 ps_l_pick spPick := ⟨f18, _, ok_l_pick F18 T, PySem.W.mg_of X G a18, k18, b18⟩
  have D_l_alike : Df l.prog w K mg base "_law_alike" 3 ps_l_alike (spAlike K 3) := ⟨f19, _, ok_l_alike F19 T (PySem.W.mg_of X G a19) b19 3, PySem.W.mg_of X G a19, k19, b19⟩
  have D_l_odd : Df l.prog w K mg base "_law_odd" 2 ps_l_odd (spOdd K) := ⟨f20, _, ok_l_odd F20 T D_l_pick, PySem.W.mg_of X G a20, k20, b20⟩
  have D_l_raise : DfX l.prog w K mg base "_law_raise" 3 ps_l_raise (spRaise cl) := ⟨f21, _, ok_l_raise F21 X_BadShape X_BadName X_BadStore X_BadRows X_BadIndex X_BadBlock X_BadProgram X_BadPattern X_BadPair X_BadMove X_BadAsk X_BadAsks X_BadPlan X_BadCount X_BadText X_NotPlain X_Unlike X_NothingDone X_TooMany X_TooLong X_MetError, PySem.W.mg_of X G a21, k21, b21⟩
  have D_l_raise_named : DfX l.prog w K mg base "_law_raise_named" 3 ps_l_raise_named (spNamed cl) := ⟨f22, _, ok_l_raise_named F22 X_BadShape X_BadName X_BadStore X_BadRows X_BadIndex X_BadBlock X_BadProgram X_BadPattern X_BadPair X_BadMove X_BadAsk X_BadAsks X_BadPlan X_BadCount X_BadText X_NotPlain X_Unlike, PySem.W.mg_of X G a22, k22, b22⟩
  have D_l_caught : Df l.prog w K mg base "_law_caught" 4 ps_l_caught spCaught := ⟨f23, _, ok_l_caught F23 T D_l_raise D_l_raise_named, PySem.W.mg_of X G a23, k23, b23⟩
  exact ok_law F24 T D_l_bag D_l_odd D_l_caught D_l_alike
theorem walk {l : PySem.W.OpenLaw} {q : Program} {loose : List Str} {XP : (Str → Option Value) → Heap → Prop} {YP : World → Heap → Prop} {d : DefRec} {K : Params → PySem.W.Frag} (hn : l.most = some 63) (hdf : d.params.defaults = [])
    (hY : ∀ (w : World) (h : Heap), YP w h → (K w.params).In h)
    (F : ∀ (w : World) (mg : Str → Option Value) (fa : Addr) (h : Heap), (K w.params).In h → h.Ns mainGlobals mg → mg d.name = some (.ref fa) →
      ∃ fd : FuncData, (∀ (s : Shared) (u : Value), BindsTo s fd ⟨[u], []⟩ [("_law_script", u)]) ∧ ∀ base : Heap, (K w.params).In base → base.Ns mainGlobals mg → FnOk l.prog w (K w.params) mg base CX0 6 fa fd ["_law_script"] (spLaw (K w.params))) :
    PySem.W.WalkO q loose XP YP l.row.toRowW d [] (fun f vs => PySem.call f vs) :=
  L2.walk_of (n := 63) (k := 6) (x := "_law_script") (CX := fun _ => CX0) (sp := fun w => spLaw (K w.params)) hn (by decide) hdf ⟨rfl, by decide, by decide⟩ hY F (fun _ _ a ns hl _ hS => ⟨a, ns, rfl, hS, hl, fun _ => rfl⟩) fun _ _ _ _ _ z => z
end Fm

/-! ## K00N -/
set_option Elab.async false
set_option maxRecDepth 100000
open PySem PySem.W PyProof.Rows in
set_option maxRecDepth 100000 in
set_option maxHeartbeats 0 in
theorem PySem.Challenge.cw_firstmet_k00_errors_holds : PySem.Challenge.rw_firstmet_k00_errors.Holds := by
  w_on; o_law; k_head; (case hw => w_witness2)
  k_fill
  refine Fm.walk (l := PySem.Challenge.rw_firstmet_k00_errors) rfl rfl (fun w h Y => PySem.W.kIn_of Y) ?F
  case F =>
    intro w mg fa h KX G hmg
    refine' Fm.all_mk KX G hmg ?aC0 ?aC1 ?aC2 ?aC3 ?aC4 ?aC5 ?aC6 ?aC7 ?aC8 ?aC9 ?aC10 ?aC11 ?aC12 ?aC13 ?aC14 ?aC15 ?aC16 ?aC17 ?aC18 ?aC19 ?aC20 ?xL0 ?a0 ?t0 ?l0 ?c0 ?k0 ?xL1 ?a1 ?t1 ?l1 ?c1 ?k1 ?xL2 ?a2 ?t2 ?l2 ?c2 ?k2 ?xL3 ?a3 ?t3 ?l3 ?c3 ?k3 ?xL4 ?a4 ?t4 ?l4 ?c4 ?k4 ?xL5 ?a5 ?t5 ?l5 ?c5 ?k5 ?xL6 ?a6 ?t6 ?l6 ?c6 ?k6 ?xL7 ?a7 ?t7 ?l7 ?c7 ?k7 ?xL8 ?a8 ?t8 ?l8 ?c8 ?k8 ?xL9 ?a9 ?t9 ?l9 ?c9 ?k9 ?xL10 ?a10 ?t10 ?l10 ?c10 ?k10 ?xL11 ?a11 ?t11 ?l11 ?c11 ?k11 ?xL12 ?a12 ?t12 ?l12 ?c12 ?k12 ?xL13 ?a13 ?t13 ?l13 ?c13 ?k13 ?xL14 ?a14 ?t14 ?l14 ?c14 ?k14 ?xL15 ?a15 ?t15 ?l15 ?c15 ?k15 ?xL16 ?a16 ?t16 ?l16 ?c16 ?k16 ?a17 ?l17 ?c17 ?k17 ?a18 ?l18 ?c18 ?k18 ?a19 ?l19 ?c19 ?k19 ?a20 ?l20 ?c20 ?k20 ?a21 ?l21 ?c21 ?k21 ?a22 ?l22 ?c22 ?k22 ?a23 ?l23 ?c23 ?k23 ?a24 ?l24 ?c24 ?k24 ?z_len ?z_list ?z_tuple ?z_isinstance ?z_dict ?z_bool ?z_int ?z_max ?z_all ?z_range ?z_KeyError ?z_IndexError ?z_TypeError ?z_ArithmeticError ?z_RuntimeError ?z_ValueError ?kits
    (case aC0 => k_is)
    (case aC1 => k_is)
    (case aC2 => k_is)
    (case aC3 => k_is)
    (case aC4 => k_is)
    (case aC5 => k_is)
    (case aC6 => k_is)
    (case aC7 => k_is)
    (case aC8 => k_is)
    (case aC9 => k_is)
    (case aC10 => k_is)
    (case aC11 => k_is)
    (case aC12 => k_is)
    (case aC13 => k_is)
    (case aC14 => k_is)
    (case aC15 => k_is)
    (case aC16 => k_is)
    (case aC17 => k_is)
    (case aC18 => k_is)
    (case aC19 => k_is)
    (case aC20 => k_is)
    (case xL0 => k_is)
    (case a0 => k_is)
    (case t0 => k_is)
    (case l0 => k_is)
    (case c0 => k_is)
    (case k0 => k_is)
    (case xL1 => k_is)
    (case a1 => k_is)
    (case t1 => k_is)
    (case l1 => k_is)
    (case c1 => k_is)
    (case k1 => k_is)
    (case xL2 => k_is)
    (case a2 => k_is)
    (case t2 => k_is)
    (case l2 => k_is)
    (case c2 => k_is)
    (case k2 => k_is)
    (case xL3 => k_is)
    (case a3 => k_is)
    (case t3 => k_is)
    (case l3 => k_is)
    (case c3 => k_is)
    (case k3 => k_is)
    (case xL4 => k_is)
    (case a4 => k_is)
    (case t4 => k_is)
    (case l4 => k_is)
    (case c4 => k_is)
    (case k4 => k_is)
    (case xL5 => k_is)
    (case a5 => k_is)
    (case t5 => k_is)
    (case l5 => k_is)
    (case c5 => k_is)
    (case k5 => k_is)
    (case xL6 => k_is)
    (case a6 => k_is)
    (case t6 => k_is)
    (case l6 => k_is)
    (case c6 => k_is)
    (case k6 => k_is)
    (case xL7 => k_is)
    (case a7 => k_is)
    (case t7 => k_is)
    (case l7 => k_is)
    (case c7 => k_is)
    (case k7 => k_is)
    (case xL8 => k_is)
    (case a8 => k_is)
    (case t8 => k_is)
    (case l8 => k_is)
    (case c8 => k_is)
    (case k8 => k_is)
    (case xL9 => k_is)
    (case a9 => k_is)
    (case t9 => k_is)
    (case l9 => k_is)
    (case c9 => k_is)
    (case k9 => k_is)
    (case xL10 => k_is)
    (case a10 => k_is)
    (case t10 => k_is)
    (case l10 => k_is)
    (case c10 => k_is)
    (case k10 => k_is)
    (case xL11 => k_is)
    (case a11 => k_is)
    (case t11 => k_is)
    (case l11 => k_is)
    (case c11 => k_is)
    (case k11 => k_is)
    (case xL12 => k_is)
    (case a12 => k_is)
    (case t12 => k_is)
    (case l12 => k_is)
    (case c12 => k_is)
    (case k12 => k_is)
    (case xL13 => k_is)
    (case a13 => k_is)
    (case t13 => k_is)
    (case l13 => k_is)
    (case c13 => k_is)
    (case k13 => k_is)
    (case xL14 => k_is)
    (case a14 => k_is)
    (case t14 => k_is)
    (case l14 => k_is)
    (case c14 => k_is)
    (case k14 => k_is)
    (case xL15 => k_is)
    (case a15 => k_is)
    (case t15 => k_is)
    (case l15 => k_is)
    (case c15 => k_is)
    (case k15 => k_is)
    (case xL16 => k_is)
    (case a16 => k_is)
    (case t16 => k_is)
    (case l16 => k_is)
    (case c16 => k_is)
    (case k16 => k_is)
    (case a17 => k_is)
    (case l17 => k_is)
    (case c17 => k_is)
    (case k17 => k_is)
    (case a18 => k_is)
    (case l18 => k_is)
    (case c18 => k_is)
    (case k18 => k_is)
    (case a19 => k_is)
    (case l19 => k_is)
    (case c19 => k_is)
    (case k19 => k_is)
    (case a20 => k_is)
    (case l20 => k_is)
    (case c20 => k_is)
    (case k20 => k_is)
    (case a21 => k_is)
    (case l21 => k_is)
    (case c21 => k_is)
    (case k21 => k_is)
    (case a22 => k_is)
    (case l22 => k_is)
    (case c22 => k_is)
    (case k22 => k_is)
    (case a23 => k_is)
    (case l23 => k_is)
    (case c23 => k_is)
    (case k23 => k_is)
    (case a24 => k_is)
    (case l24 => k_is)
    (case c24 => k_is)
    (case k24 => k_is)
    (case z_len => k_is)
    (case z_list => k_is)
    (case z_tuple => k_is)
    (case z_isinstance => k_is)
    (case z_dict => k_is)
    (case z_bool => k_is)
    (case z_int => k_is)
    (case z_max => k_is)
    (case z_all => k_is)
    (case z_range => k_is)
    (case z_KeyError => k_is)
    (case z_IndexError => k_is)
    (case z_TypeError => k_is)
    (case z_ArithmeticError => k_is)
    (case z_RuntimeError => k_is)
    (case z_ValueError => k_is)
    (case kits => kernel_rfl)
