import PyProof.Rows.All
import Wide.All
import OpenK.AllK
import Wide.FinOn
import HandS.ForMost
import HandS.IsInst
import HandS.TupAny
import HandS.Conv
import PyProof.EnumMake
import PyProof.Draws
import KE.GoesMore
import HandS.Walk
import HandS.TupMul
import PySem.Challenge.RW_lazytags_k01_answers_of_machines
set_option Elab.async false
set_option linter.all false
set_option maxRecDepth 100000
set_option maxHeartbeats 4000000
namespace LT
open PySem PySem.Spec PyProof.Rows L2
/-! ## 1. a def that is called by its name -/
structure Cal (P : Program) (w : World) (K : PySem.W.Frag) (mg : Str → Option Value) (base : Heap) (CX : CXT) (x : Str) (k : Nat) (ps : List Str) (sp : Sp) : Prop where
  ex : ∃ f fd, FnOk P w K mg base CX k f fd ps sp ∧ mg x = some (.ref f) ∧ PySem.W.keepIn K (.ref f) = true ∧ Binds K fd ps []
/-- .. by keywords alone, named ks, which g puts in the parameters' order -/
structure CalK (P : Program) (w : World) (K : PySem.W.Frag) (mg : Str → Option Value) (base : Heap) (CX : CXT) (x : Str) (k : Nat) (ps ks : List Str) (gV : List V → List V) (sp : Sp) : Prop where
  ex : ∃ (f : Addr) (fd : FuncData) (g : List Value → List Value → List Value) (gW : List V → List V → List V), FnOk P w K mg base CX k f fd ps sp ∧ mg x = some (.ref f) ∧ PySem.W.keepIn K (.ref f) = true ∧ KBinds K fd ps ks g gW ∧ ∀ zs, gW [] zs = gV zs
section
variable {X : Cx} {CX : CXT} {k j : Nat} {x : Str} {ps ks : List Str} {sp : Sp} {p pos : Pos} {e : Expr} {es : List Expr} {kws : List Keyword} {t tk : TA} {E : XK} {gV : List V → List V}
theorem pe_cal (c : Cal X.prog X.w X.K X.mg X.base CX x k ps sp) (hr : Room j X.A) (hg : Gl X x) (hx : Passes CX X E) (ha : PA X (e :: es) t) (hj : k ≤ j := by decide)
    (hdb : (x == ("__debug__" : Str)) = false := by decide) (he : starEach (e :: es) X.env = (false, eval e X.env) :: starEach es X.env := by rfl)
    (hpl : (backTo pos (starEach es X.env)).any (·.1) = false := by rfl) : PE X (.Call (.Name x p) (e :: es) [] pos) (tCall sp [] E t) := by
  obtain ⟨f, fd, F, hm, hk, hb⟩ := c.ex
  exact pe_call F (hr.mono hj) hg hm hk hb .nil hx ha hdb he hpl
theorem pe_cal0 (c : Cal X.prog X.w X.K X.mg X.base CX x k ps sp) (hr : Room j X.A) (hg : Gl X x) (hx : Passes CX X E) (hj : k ≤ j := by decide)
    (hdb : (x == ("__debug__" : Str)) = false := by decide) : PE X (.Call (.Name x p) [] [] pos) (tCall sp [] E tNil) := by
  obtain ⟨f, fd, F, hm, hk, hb⟩ := c.ex
  exact pe_call0 F (hr.mono hj) hg hm hk hb .nil hx hdb
def tCalK0 (sp : Sp) (gV : List V → List V) (E : XK) (tk : TA) : TE := fun σ H Q => tk σ H fun zs H2 => sp (gV zs) H2 Q E
theorem pe_calK0 (c : CalK X.prog X.w X.K X.mg X.base CX x k ps ks gV sp) (hr : Room j X.A) (hg : Gl X x) (hx : Passes CX X E) (hkw : PK X kws tk) (hj : k ≤ j := by decide)
    (hall : (backToKw pos (keywordEach kws X.env)).all (·.1.isSome) = true := by rfl) (hks : (backToKw pos (keywordEach kws X.env)).filterMap (·.1) = ks := by rfl)
    (hdb : (x == ("__debug__" : Str)) = false := by decide)
    (hpl : ((backTo pos (starEach [] X.env)).any (·.1) || (backToKw pos (keywordEach kws X.env)).any (·.1.isNone)) = false := by rfl) :
    PE X (.Call (.Name x p) [] kws pos) (tCalK0 sp gV E tk) := by
  obtain ⟨f, fd, g, gW, F, hm, hk, hb, he⟩ := c.ex
  constructor
  intro pins s σ H Q I h
  apply wpAny_Call_Name_kw
  apply ld_glob I hg hm _ hdb
  apply PySem.W.callWith_KW0 (h₀ := X.base) I.ok.mod.kin hk hall _ hpl
  refine thn (hkw.run pos pins s σ H _ I h) ?_
  rintro ws s2 ⟨zs, H2, I2, rz, q2⟩
  refine And.intro I2.kIn ?_
  rw [hks]
  exact run_fnk (us := []) (vs := []) F (hr.mono hj) hb hx I2 .nil rz (by rw [he]; exact q2)
end
section
variable {P : Program} {w : World} {K : PySem.W.Frag} {mg : Str → Option Value} {base : Heap} {CX : CXT} {k : Nat} {x : Str} {f : Addr} {fd : FuncData} {ps ks : List Str} {sp : Sp}
theorem vals_rev : ∀ {zs : List V} {ws : List Value}, Vals zs ws → Vals zs.reverse ws.reverse
  | _, _, .nil => .nil
  | _, _, .cons a r => by
    rw [List.reverse_cons, List.reverse_cons]
    exact Vals.append (vals_rev r) (.cons a .nil)
theorem CalK.of {g : List Value → List Value} {gV : List V → List V} (F : FnOk P w K mg base CX k f fd ps sp) (hm : mg x = some (.ref f)) (hk : PySem.W.keepIn K (.ref f) = true) (ne : ps ≠ [])
    (to : ∀ (s : Shared) (ws : List Value), (g ws).length = ps.length → BindsTo s fd ⟨[], ks.zip ws⟩ (ps.zip (g ws)))
    (rel : ∀ (zs : List V) (ws : List Value), Vals zs ws → Vals (gV zs) (g ws)) : CalK P w K mg base CX x k ps ks gV sp := by
  refine ⟨f, fd, fun us ws => match us with | [] => g ws | _ :: _ => [], fun vs zs => match vs with | [] => gV zs | _ :: _ => [], F, hm, hk, ⟨?_, ?_⟩, fun _ => rfl⟩
  · intro s us ws _ hl
    cases us with
    | nil => exact to s ws hl
    | cons a b =>
      cases ps with
      | nil => exact absurd rfl ne
      | cons c d => cases hl
  · intro vs us zs ws r rz
    cases r with
    | nil => exact rel zs ws rz
    | cons a b => exact .nil
end
/-! ## 2. numbers -/
section
variable {X : Cx}
def CPowB (i j : Int) : Prop := 0 ≤ j ∧ ((Builtin.Int.intBits i : Nat) : Int) * j ≤ 2 ^ 27
theorem op_powB : OpR X (binaryOp .Pow) (rI CPowB fun i j => .int (i ^ j.toNat)) :=
  opI fun _ _ _ _ _ _ _ c q => PyProof.Rows.pow_int c.1 c.2 q
end
/-! ## 3. data, and what stays of the heap -/
/-- data: tuples told whole, lists and dicts by their place -/
inductive D where
  | non | bl (b : Bool) | int (i : Int) | str (s : Str) | tup (ds : List D) | lst (a : Addr) | dct (a : Addr)
mutual
inductive Rp (H : Hp) : V → D → Prop
  | non : Rp H .non .non
  | bl (b : Bool) : Rp H (.bl b) (.bl b)
  | int (i : Int) : Rp H (.int i) (.int i)
  | str (x : Str) : Rp H (.str x) (.str x)
  | tup {a : Addr} {xs : List V} {ds : List D} : H a = some (.tup xs) → RpAll H xs ds → Rp H (.ref a) (.tup ds)
  | lst {a : Addr} {xs : List V} : H a = some (.lst xs) → Rp H (.ref a) (.lst a)
  | dct {a : Addr} {kvs : List (Key × V)} : H a = some (.dK kvs) → Rp H (.ref a) (.dct a)
inductive RpAll (H : Hp) : List V → List D → Prop
  | nil : RpAll H [] []
  | cons {v : V} {vs : List V} {d : D} {ds : List D} : Rp H v d → RpAll H vs ds → RpAll H (v :: vs) (d :: ds)
end
def alike : HO → HO → Prop
  | .tup xs, o => o = .tup xs
  | .lst _, o => ∃ ys, o = .lst ys
  | .dK _, o => ∃ kvs, o = .dK kvs
  | o, o' => o' = o
theorem alike_refl (o : HO) : alike o o := by
  cases o <;> first | rfl | exact ⟨_, rfl⟩
theorem alike_trans {a b c : HO} (h : alike a b) (g : alike b c) : alike a c := by
  cases a with
  | lst xs => obtain ⟨ys, rfl⟩ := h; exact g
  | dK xs => obtain ⟨ys, rfl⟩ := h; exact g
  | _ => cases h; exact g
/-- behind it all stands as it was, but what is at M; and tuples are tuples, lists are lists -/
structure Fx (M : List Addr) (H H' : Hp) : Prop where
  keep : ∀ b o, b ∉ M → H b = some o → H' b = some o
  kind : ∀ b o, H b = some o → ∃ o', H' b = some o' ∧ alike o o'
section
variable {M M' : List Addr} {H H1 H2 : Hp} {p : Addr} {o : HO} {xs ys : List V} {v : V} {d : D}
theorem Fx.refl (M : List Addr) (H : Hp) : Fx M H H := ⟨fun _ _ _ h => h, fun _ o h => ⟨o, h, alike_refl o⟩⟩
theorem Fx.trans (a : Fx M H H1) (b : Fx M H1 H2) : Fx M H H2 := by
  constructor
  · intro x o hx h
    exact b.keep x o hx (a.keep x o hx h)
  · intro x o h
    obtain ⟨o1, h1, k1⟩ := a.kind x o h
    obtain ⟨o2, h2, k2⟩ := b.kind x o1 h1
    exact ⟨o2, h2, alike_trans k1 k2⟩
theorem Fx.new (M : List Addr) (h : H p = none) : Fx M H (upd H p o) := by
  have e : ∀ b u, H b = some u → upd H p o b = some u := by
    intro b u hb
    rw [upd_ne (ne_of_none hb h)]
    exact hb
  exact ⟨fun b u _ hb => e b u hb, fun b u hb => ⟨u, e b u hb, alike_refl u⟩⟩
theorem Fx.put (hm : p ∈ M) (h : H p = some (.lst xs)) : Fx M H (upd H p (.lst ys)) := by
  constructor
  · intro b u hb q
    rw [upd_ne (by rintro rfl; exact hb hm)]
    exact q
  · intro b u q
    by_cases e : b = p
    · subst e
      rw [h] at q
      cases q
      exact ⟨_, upd_same, _, rfl⟩
    · exact ⟨u, (upd_ne e).trans q, alike_refl u⟩
theorem Fx.mono (h : Fx M H H1) (s : ∀ b, b ∈ M → b ∈ M') : Fx M' H H1 := ⟨fun b o hb => h.keep b o fun z => hb (s b z), h.kind⟩
/-- what was not there when it began may change -/
theorem Fx.drop (a : Fx [] H H1) (b : Fx [p] H1 H2) (h : H p = none) : Fx [] H H2 := by
  constructor
  · intro x o _ e
    have ne : x ≠ p := ne_of_none e h
    exact b.keep x o (by rw [List.mem_singleton]; exact ne) (a.keep x o (fun z => nomatch z) e)
  · intro x o e
    obtain ⟨o1, h1, k1⟩ := a.kind x o e
    obtain ⟨o2, h2, k2⟩ := b.kind x o1 h1
    exact ⟨o2, h2, alike_trans k1 k2⟩
theorem Fx.sql {K : PySem.W.Frag} {a : Addr} (h : Fx [] H H1) (e : SqL K H a xs) : SqL K H1 a xs := by
  have k : ∀ o, H a = some o → H1 a = some o := fun o q => h.keep a o (fun z => nomatch z) q
  rcases e with (e | ⟨o, e⟩) | e
  · exact .inl (.inl (k _ e))
  · exact .inl (.inr ⟨o, k _ e⟩)
  · exact .inr e
theorem Fx.any (h : Fx [] H H1) : Fx M H H1 := h.mono fun _ z => nomatch z
theorem Fx.tup (h : Fx M H H1) (e : H p = some (.tup xs)) : H1 p = some (.tup xs) := by
  obtain ⟨o, e1, k⟩ := h.kind p _ e
  rw [e1]
  exact congrArg some k
theorem Fx.all (h : Fx [] H H1) (e : H p = some o) : H1 p = some o := h.keep p o (fun z => nomatch z) e
theorem Fx.fresh (h : Fx M H H1) (e : H1 p = none) : H p = none := by
  cases q : H p with
  | none => rfl
  | some u =>
    obtain ⟨o1, h1, _⟩ := h.kind p u q
    rw [e] at h1
    cases h1
mutual
theorem Fx.rp (h : Fx M H H1) : ∀ {v : V} {d : D}, Rp H v d → Rp H1 v d
  | _, _, .non => .non
  | _, _, .bl b => .bl b
  | _, _, .int i => .int i
  | _, _, .str x => .str x
  | _, _, .tup e r => .tup (h.tup e) (h.rpAll r)
  | _, _, .lst e => by
    obtain ⟨o, e1, ys, k⟩ := h.kind _ _ e
    subst k
    exact .lst e1
  | _, _, .dct e => by
    obtain ⟨o, e1, ys, k⟩ := h.kind _ _ e
    subst k
    exact .dct e1
theorem Fx.rpAll (h : Fx M H H1) : ∀ {vs : List V} {ds : List D}, RpAll H vs ds → RpAll H1 vs ds
  | _, _, .nil => .nil
  | _, _, .cons a b => .cons (h.rp a) (h.rpAll b)
end
theorem RpAll.len : ∀ {vs : List V} {ds : List D}, RpAll H vs ds → vs.length = ds.length
  | _, _, .nil => rfl
  | _, _, .cons _ b => by rw [List.length_cons, List.length_cons, b.len]
theorem RpAll.at : ∀ {vs : List V} {ds : List D} {i : Nat} {v : V}, RpAll H vs ds → vs[i]? = some v → ∃ d, ds[i]? = some d ∧ Rp H v d
  | _, _, _, _, .nil, h => by simp at h
  | _, _, 0, _, .cons a _, h => ⟨_, rfl, by cases h; exact a⟩
  | _, _, i + 1, _, .cons _ b, h => RpAll.at (i := i) b h
theorem RpAll.atD : ∀ {vs : List V} {ds : List D} {i : Nat} {d : D}, RpAll H vs ds → ds[i]? = some d → ∃ v, vs[i]? = some v ∧ Rp H v d
  | _, _, _, _, .nil, h => by simp at h
  | _, _, 0, _, .cons a _, h => ⟨_, rfl, by cases h; exact a⟩
  | _, _, i + 1, _, .cons _ b, h => RpAll.atD (i := i) b h
theorem RpAll.snoc : ∀ {vs : List V} {ds : List D} {v : V} {d : D}, RpAll H vs ds → Rp H v d → RpAll H (vs ++ [v]) (ds ++ [d])
  | _, _, _, _, .nil, h => .cons h .nil
  | _, _, _, _, .cons a b, h => .cons a (b.snoc h)
theorem Rp.tup_inv {ds : List D} (h : Rp H v (.tup ds)) : ∃ a xs, v = .ref a ∧ H a = some (.tup xs) ∧ RpAll H xs ds := by
  cases h with
  | tup e r => exact ⟨_, _, rfl, e, r⟩
theorem Rp.int_inv {i : Int} (h : Rp H v (.int i)) : v = .int i := by cases h; rfl
/-- tuples of ints -/
def intsD (ns : List Int) : D := .tup (ns.map .int)
theorem RpAll.intsA : ∀ {vs : List V} {ns : List Int}, RpAll H vs (ns.map .int) → vs = ns.map V.int
  | _, [], .nil => rfl
  | _, n :: ns, .cons a b => by rw [a.int_inv, b.intsA]; rfl
theorem RpAll.of_ints (H : Hp) : ∀ (ns : List Int), RpAll H (ns.map V.int) (ns.map .int)
  | [] => .nil
  | n :: ns => .cons (.int n) (RpAll.of_ints H ns)
theorem Rp.ints_inv {ns : List Int} (h : Rp H v (intsD ns)) : ∃ a, v = .ref a ∧ H a = some (.tup (ns.map V.int)) := by
  obtain ⟨a, xs, rfl, e, r⟩ := h.tup_inv
  rw [r.intsA] at e
  exact ⟨a, rfl, e⟩
theorem Rp.of_ints {a : Addr} {ns : List Int} (h : H a = some (.tup (ns.map V.int))) : Rp H (.ref a) (intsD ns) := .tup h (RpAll.of_ints H ns)
end
/-! ## 4. isinstance -/
def D.ty : D → String
  | .non => "NoneType" | .bl _ => "bool" | .int _ => "int" | .str _ => "str" | .tup _ => "tuple" | .lst _ => "list" | .dct _ => "dict"
theorem Rp.tyx {K : PySem.W.Frag} {H : Hp} {v : V} {d : D} (h : Rp H v d) : TyX K H v (.type d.ty) := by
  cases h with
  | non => exact .base .non
  | bl b => exact .base (.bl b)
  | int i => exact .base (.int i)
  | str x => exact .base (.str x)
  | tup e r => exact .base (.tup e)
  | lst e => exact .base (.lst e)
  | dct e => exact .base (.dK e)
def isTy (n : String) (d : D) : Bool := (kitB d.ty n).getD false
theorem isi_rp {K : PySem.W.Frag} {H : Hp} {v : V} {d : D} {n : String} {Q : VK} (h : Rp H v d) (hn : n ∈ ["int", "bool", "tuple", "list", "str", "dict"]) (q : Q (.bl (isTy n d)) H) : rIsi K [v, .ty n] H Q := by
  refine ⟨v, .ty n, .type d.ty, .type n, isTy n d, rfl, .ty n, h.tyx, kit_ty ?_, q⟩
  unfold isTy
  have key : ∀ t ∈ ["NoneType", "bool", "int", "str", "tuple", "list", "dict"], ∀ n ∈ ["int", "bool", "tuple", "list", "str", "dict"], (kitB t n).isSome = true := by decide +kernel
  have s := key d.ty (by cases d <;> simp [D.ty]) n hn
  cases e : kitB d.ty n with
  | none => rw [e] at s; cases s
  | some b => rfl
end LT
/-! enumerate(t), t a tuple -/
namespace PySem
namespace LTE
open Sem (wp)
open AutoSeq1 (wpAny_loadPart')
theorem makes_enum {v : Value} {o : Obj} {G : Heap → Prop} (B : Begins v o G) :
    Meets (Builtin.«enumerate.__new__» ⟨[.type "enumerate", v], []⟩) (fun _ R s => G s.heap ∧
      R (.ok (.ret (.ref (s.heap.push o).objs.size)))
        { s with heap := (s.heap.push o).push { cls := .type "enumerate", data := .fields #[.none, .bool false, .ref s.heap.objs.size, rawInt 0, .none, .none] } }) := by
  refine .of_wp fun prog w A R s h => ?_
  rcases s with ⟨hp, g, d, tk, os⟩
  rcases h with ⟨hg, h⟩
  have hs1 := sub_enumerate
  have it : ∀ {A' : Around} {E : Value → Shared → Prop} {Q : Value → Shared → Prop}, Q (.ref hp.objs.size) ⟨hp.push o, g, d, tk, os⟩ → wpAny (model prog w) A' (pyIter v) Q E ⟨hp, g, d, tk, os⟩ :=
    fun z => B.iter prog w _ _ ⟨hp, g, d, tk, os⟩ _ hg z
  wp_walk using it
  refine wpAny_stack_any fun st => ?_
  refine wpAny_pure ?_
  split
  · rename_i c _ _ _ _ _
    cases (c == Value.type "enumerate")
    · wp_walk using it
      exact Exists.intro _ (And.intro rfl h)
    · wp_walk using it
      exact Exists.intro _ (And.intro rfl h)
  · wp_walk using it
    exact Exists.intro _ (And.intro rfl h)
theorem enum_one {prog : Program} {w : World} {A : Around} {E : Value → Shared → Prop} {s : Shared} {v : Value} {o : Obj} {G : Heap → Prop} {Q : Value → Shared → Prop} (B : Begins v o G) (hg : G s.heap)
    (h : ∀ h', IsEnum h' (s.heap.objs.size + 1) s.heap.objs.size 0 .none → h'.get? s.heap.objs.size = some o →
      (∀ b u, s.heap.get? b = some u → h'.get? b = some u) → Q (.ref (s.heap.objs.size + 1)) { s with heap := h' }) :
    wpAny (model prog w) A (call (.type "enumerate") [v]) Q E s := by
  apply callType_new F.called_enumerate (by decide) (F.typeCall_enumerate_1 _) (F.newCall_enumerate_1 _) (fun ob => F.args_object_init_2 ob _) F.entry_enumerate_new (makes_enum B)
  refine And.intro hg ?_
  have z1 : (s.heap.push o).objs.size = s.heap.objs.size + 1 := Heap.size_push ..
  show _ ∧ _
  rw [z1]
  generalize hk : (s.heap.push o).push { cls := .type "enumerate", data := .fields #[.none, .bool false, .ref s.heap.objs.size, rawInt 0, .none, .none] } = h2
  have e2 : h2.get? (s.heap.objs.size + 1) = some { cls := .type "enumerate", data := .fields #[.none, .bool false, .ref s.heap.objs.size, rawInt 0, .none, .none] } := by
    rw [← hk, ← z1]
    exact Heap.get?_push_size _ rfl
  have e1 : h2.get? s.heap.objs.size = some o := by
    rw [← hk]
    exact Heap.get?_push_of_some _ (Heap.get?_push_size _ B.free)
  refine And.intro ⟨_, e2, rfl⟩ (h h2 e2 e1 fun b u q => ?_)
  rw [← hk]
  exact Heap.get?_push_of_some _ (Heap.get?_push_of_some _ q)
end LTE
end PySem
namespace LT
open PySem PySem.Spec PyProof.Rows L2
/-- the tuple at a, each item in a new pair behind its number -/
def IteT (K : PySem.W.Frag) (a : Addr) : It where
  go := fun i H => ∃ (xs : List V) (x : V), SqT K H a xs ∧ xs[i]? = some x
  yld := fun i H v H' => ∃ T x, v = .ref T ∧ H T = none ∧ H' = upd H T (.tup [.int (i : Nat), x]) ∧ ∀ xs, SqT K H a xs → xs[i]? = some x
  stop := fun i H => ∃ xs : List V, SqT K H a xs ∧ xs.length ≤ i
theorem turn_enumT {P : Program} {w : World} {K : PySem.W.Frag} {elts : List Expr} {kk : Nat} {tpos : Pos} (a e it : Addr) (hea : e ≠ a) (hia : it ≠ a) (hne : e ≠ it) :
    Turn P w K (.Tuple elts kk tpos) (IteT K a) [e, it] e (fun i h => (∃ old, IsEnum h e it ((i : Nat) : Int) old) ∧ h.IsTupleIter it a i) where
  mem := List.mem_cons_self
  obj := by
    rintro i h ⟨⟨old, he⟩, o, ho, hc, hd⟩ b hb
    rcases List.mem_cons.mp hb with z | z
    · subst z
      exact ⟨_, he, fun v q => nomatch q⟩
    · have z' := List.mem_singleton.mp z
      subst z'
      refine ⟨o, ho, fun v q => ?_⟩
      rw [hd] at q
      cases q
  keep := by
    rintro i h h' ⟨⟨old, he⟩, hi⟩ k
    exact ⟨⟨old, k e (by simp) _ he⟩, hi.at fun o q => k it (by simp) o q⟩
  item := by
    intro X hP hw hK hc i pins s σ H E I hf st hg
    subst hP hw hK
    obtain ⟨⟨old, he⟩, hit⟩ := st
    obtain ⟨xs, x, hq, hx⟩ := hg
    obtain ⟨its, rv, tp, hz⟩ := I.tuple hq
    obtain ⟨u, hu, ru⟩ := rv.get hx
    have hi : i < its.toArray.size := by
      have := (List.getElem?_eq_some_iff.mp hu).1
      simpa using this
    have hel : e < s.heap.objs.size := Heap.lt_size he
    have hil : it < s.heap.objs.size := by
      obtain ⟨_, q, _⟩ := hit
      exact Heap.lt_size q
    have Dr : Draws X.prog X.w X.A.in1 it [it, a] its.toArray.size (fun i v => its.toArray[i]? = some v) (fun i h => h.IsTupleIter it a i ∧ h.IsTuple a its.toArray) :=
      Draws.tuple (by exact I.ok.hd hc) it a (Ne.symm hia) its.toArray
    refine wpAny_pyNext_enum_itemD Dr he ⟨hit, tp⟩ hi hne (by simp [hne, hea]) fun y h' tk hy ho hst' hT hsz hk => ?_
    have ey : y = u := by
      have : its.toArray[i]? = some u := by simpa using hu
      rw [this] at hy
      exact (Option.some.inj hy).symm
    subst ey
    refine ⟨_, rfl, ?_⟩
    refine wpAny_letOwnedTupleGo_enum (s := { s with heap := h', toks := tk + 1 }) ho fun h2 he2 sb => ?_
    have hT2 : h2.get? s.heap.objs.size = some { cls := .type "tuple", data := .seq #[.int i tk, y] } := (sb.2 _ (Nat.ne_of_gt hel)).trans hT
    have nw : ObjOk X.prog X.w (upd H s.heap.objs.size (.tup [.int (i : Nat), x])) h2 s.heap.objs.size (.tup [.int (i : Nat), x]) := by
      refine ⟨?_, [.int i tk, y], .cons ⟨_, rfl⟩ (.cons ru .nil), ⟨_, hT2, rfl, _, rfl⟩⟩
      show 2 ≤ sizeLine
      decide
    have I1 : Inv X pins σ (upd H s.heap.objs.size (.tup [.int (i : Nat), x])) { s with heap := h2, toks := tk + 1 } := by
      refine I.turnedNew (ch := [e, it]) ?_ hf (Nat.le_refl _) nw
      intro b ob hb q
      have h1 : b ≠ e := fun z => hb (by simp [z])
      have h3 : b ≠ it := fun z => hb (by simp [z])
      exact (sb.2 b h1).trans (hk b ob h1 h3 q)
    refine ⟨.ref s.heap.objs.size, _, I1, rfl, ⟨_, x, rfl, I.hok.fresh (Nat.le_refl _), rfl, ?_⟩, ⟨⟨y, ?_⟩, hst'.1.at fun o q => (sb.2 it (Ne.symm hne)).trans q⟩, ?_⟩
    · intro ys hy2
      rw [I.tuple_inj hy2 hq]
      exact hx
    · have e1 : ((i + 1 : Nat) : Int) = (i : Int) + 1 := by omega
      rw [e1]
      exact he2
    · intro b hb
      have hb2 : b < s.heap.objs.size := by
        rcases List.mem_cons.mp hb with z | z
        · rw [z]; exact hel
        · rw [List.mem_singleton.mp z]; exact hil
      rw [upd_ne (Nat.ne_of_lt hb2)]
      exact (hf b hb).1
  done := by
    intro X hP hw hK hc i pins s σ H E I hf st hg
    subst hP hw hK
    obtain ⟨⟨old, he⟩, hit⟩ := st
    obtain ⟨xs, hq, hx⟩ := hg
    obtain ⟨its, rv, tp, hz⟩ := I.tuple hq
    obtain ⟨f0, f1, f2, f3, f4, f5⟩ := hf it (by simp)
    have hl := rv.length
    have Dr2 : Draws X.prog X.w X.A.in1 it [it, a] i (fun j v => its.toArray[j]? = some v) (fun j h => j = i ∧ h.IsTupleIter it a j ∧ h.IsTuple a its.toArray) := by
      refine { live := ?_, frame := ?_, item := ?_, done := ?_ }
      · rintro j h ⟨_, ⟨o, ho, _⟩, _⟩
        exact ⟨o, ho⟩
      · rintro j h h' ⟨ej, s1, s2⟩ k
        exact ⟨ej, s1.at fun o q => k it (by simp) o q, s2.at fun o q => k a (by simp) o q⟩
      · rintro j s Q E hj ⟨ej, _⟩
        exact absurd hj (by omega)
      · rintro s Q E ⟨_, s1, s2⟩ hE
        exact wpAny_nextOf_tuple_end (by exact I.ok.hd hc) s1 s2 (by simp; omega) hE
    exact wpAny_pyNext_enum_endD Dr2 he ⟨rfl, hit, tp⟩ fun h' eb => ⟨rfl, I.turned (t' := s.toks) (fun b o hb q => eb b o hb q) f0 f1 f3 f4 f5⟩
  self := fun A i s Q E st h => let ⟨⟨_, he⟩, _⟩ := st; wpAny_pyIter_enum he h
def iEnumT (K : PySem.W.Frag) (ta : TA) : TI := fun σ H R => ta σ H fun vs H1 => ∃ a xs, vs = [.ref a] ∧ SqT K H1 a xs ∧ R (IteT K a) H1
theorem pi_enumT {X : Cx} {e : Expr} {ta : TA} {p pos tpos : Pos} {elts : List Expr} {kk : Nat} (hg : Gl X "enumerate") (hm : X.mg "enumerate" = none) (ha : PA X [e] ta)
    (hs : starEach [e] X.env = [(false, eval e X.env)] := by rfl) : PI X (.Tuple elts kk tpos) (.Call (.Name "enumerate" p) [e] [] pos) (iEnumT X.K ta) := by
  constructor
  intro pins s σ H R I h
  refine Call_ (ld_blt I hg hm boot_enumerate ?_)
  refine PyProof.Rows.callWith_type1 (thn (ha.run pos pins s σ H _ I h) ?_) hs rfl
  rintro us s1 ⟨vs, H1, I1, r1, a, xs, ex, hq, q⟩
  subst ex
  cases r1 with
  | cons r rr =>
    cases rr
    cases r
    obtain ⟨its, rv, tp, hz⟩ := I1.tuple hq
    have hal : a < s1.heap.objs.size := tp.lt
    refine PySem.LTE.enum_one (begins_tuple a its.toArray) tp fun h' he hit hk => ?_
    refine wpAny_pyIter_enum he ?_
    have I2 : Inv X pins σ H1 { s1 with heap := h' } := I1.kept (t' := s1.toks) hk
    refine ⟨s1.heap.objs.size + 1, [s1.heap.objs.size + 1, s1.heap.objs.size], _, _, H1, rfl, I2, turn_enumT a (s1.heap.objs.size + 1) s1.heap.objs.size (Nat.ne_of_gt (Nat.lt_succ_of_lt hal)) (Nat.ne_of_gt hal) (Nat.succ_ne_self _), ⟨⟨.none, he⟩, ⟨_, hit, rfl, rfl⟩⟩, ?_, q⟩
    intro b hb
    have hle : s1.heap.objs.size ≤ b := by
      rcases List.mem_cons.mp hb with z | z
      · rw [z]; exact Nat.le_add_right _ _
      · rw [List.mem_singleton.mp z]; exact Nat.le_refl _
    exact I1.fpOk hle (I1.hok.fresh hle)
/-- a for over enumerate(t) -/
theorem walk_enumT {K : PySem.W.Frag} {a : Addr} {xs : List V} : Walk (IteT K a) xs.length (fun H => H a = some (.tup xs)) (YPair (fun i => some (.int (i : Nat))) (fun i => xs[i]?)) where
  goes := fun i H hi h => ⟨xs, xs[i], SqT.of h, List.getElem?_eq_getElem hi⟩
  stops := fun H h => ⟨xs, SqT.of h, Nat.le_refl _⟩
  yields := by
    rintro i H x H' hi h ⟨T, y, e1, e2, e3, e4⟩
    exact ⟨T, _, y, e1, e2, e3, rfl, e4 xs (SqT.of h)⟩
end LT
namespace LT
open PySem PySem.Spec PyProof.Rows L2
section
variable {X : Cx}
/-- int(n) of an int -/
theorem call_intI : CallR X (.type "int") (fun xs H Q => ∃ i, xs = [V.int i] ∧ Q (.int i) H) := fun pins s σ H xs us Q I r h =>
  call_int1 pins s σ H xs us Q I r (Or.inl h)
/-- a, b, .. = a tracked tuple of n items -/
def gTupT (n : Nat) (t : TGs) : TG := fun v σ H Q => ∃ a xs, v = .ref a ∧ H a = some (.tup xs) ∧ xs.length = n ∧ t xs σ H Q
theorem pg_tT (n : Nat) {es : List Expr} {k : Nat} {t : TGs} {pos : Pos} (hc : X.calm = true) (h : PGs X es t) (hn : (assignEach es X.env).length = n := by rfl)
    (hst : (assignEach es X.env).findIdx? (·.1) = none := by rfl) : PG X (.Tuple es k pos) (gTupT n t) := by
  constructor
  rintro pins s σ H v u Q I r ⟨a, xs, e, e1, e2, q⟩
  exact (pg_tup (k := k) (pos := pos) hc h hn hst).run pins s σ H v u Q I r ⟨a, xs, e, SqT.of e1, e2, q⟩
/-- isinstance, with the written part named (so that it may stand within a comprehension) -/
theorem call_isiE (K : PySem.W.Frag) (h : X.K = K) : CallR X (.builtin "isinstance") (rIsi K) := by
  subst h
  exact call_isi
/-- xs[i] of a tracked list, of a tracked tuple -/
def rIxl : R2 := fun x y H Q => ∃ p xs i v, x = .ref p ∧ y = .int i ∧ H p = some (.lst xs) ∧ atI xs i = some v ∧ Q v H
def rIxt : R2 := fun x y H Q => ∃ p xs i v, x = .ref p ∧ y = .int i ∧ H p = some (.tup xs) ∧ atI xs i = some v ∧ Q v H
theorem ix_l : IxR X rIxl := by
  rintro value slice pins s σ H x y v u Q I rx ry ⟨p, xs, i, z, e1, e2, h, ha, q⟩ hs
  exact ix_list value slice pins s σ H x y v u Q I rx ry ⟨p, xs, i, z, e1, e2, SqL.of h, ha, q⟩ hs
theorem ix_t : IxR X rIxt := by
  rintro value slice pins s σ H x y v u Q I rx ry ⟨p, xs, i, z, e1, e2, h, ha, q⟩ hs
  exact ix_tup value slice pins s σ H x y v u Q I rx ry ⟨p, xs, i, z, e1, e2, SqT.of h, ha, q⟩ hs
theorem call_lenT : CallR X (.builtin "len") (fun xs H Q => ∃ p ys, xs = [V.ref p] ∧ H p = some (.tup ys) ∧ Q (.int ys.length) H) := by
  rintro pins s σ H xs us Q I r ⟨p, ys, e, h, q⟩
  exact call_len_seq pins s σ H xs us Q I r ⟨p, ys, e, .inr (SqT.of h), q⟩
theorem call_lenL : CallR X (.builtin "len") (fun xs H Q => ∃ p ys, xs = [V.ref p] ∧ H p = some (.lst ys) ∧ Q (.int ys.length) H) := by
  rintro pins s σ H xs us Q I r ⟨p, ys, e, h, q⟩
  exact call_len_seq pins s σ H xs us Q I r ⟨p, ys, e, .inl (SqL.of h), q⟩
/-- tuple(l) of a tracked list -/
theorem call_tupL : CallR X (.type "tuple") (fun xs H Q => ∃ p ys, xs = [V.ref p] ∧ H p = some (.lst ys) ∧ ∀ l, H l = none → Q (.ref l) (upd H l (.tup ys))) := by
  rintro pins s σ H xs us Q I r ⟨p, ys, e, h, q⟩
  exact call_tuple_of pins s σ H xs us Q I r ⟨p, ys, e, .inl ⟨SqL.of h, q⟩⟩
/-- t[a:b] of a tracked tuple -/
def rSlt : V → Option Int → Option Int → Hp → VK → Prop := fun x lo hi H Q => ∃ a xs, x = .ref a ∧ H a = some (.tup xs) ∧
  (HT.sIx xs.length 0 lo = 0 ∧ HT.sIx xs.length xs.length hi = xs.length → Q (.ref a) H) ∧ (¬ (HT.sIx xs.length 0 lo = 0 ∧ HT.sIx xs.length xs.length hi = xs.length) → ∀ p, H p = none → Q (.ref p) (upd H p (.tup (cutV xs lo hi))))
theorem sl_t : SlR X rSlt := by
  rintro pins s σ H x v vl vu lo hi sl Q I rx hs pl pu ⟨a, xs, e, h, q1, q2⟩
  exact sl_tupA pins s σ H x v vl vu lo hi sl Q I rx hs pl pu ⟨a, xs, e, SqT.of h, q1, q2⟩
end
/-! ## purses -/
def Pu (N : Nat) (H : Hp) (p : Addr) : Prop := ∃ a b c : Int, H p = some (.lst [.int a, .int b, .int c]) ∧ 0 ≤ b ∧ b < 2147483647 ∧ 0 ≤ c ∧ c ≤ N

theorem Pu.mono {N M : Nat} {H : Hp} {p : Addr} (h : Pu N H p) (le : N ≤ M) : Pu M H p := by
  obtain ⟨a, b, c, e, b0, b1, c0, c1⟩ := h
  exact ⟨a, b, c, e, b0, b1, c0, by omega⟩
theorem Pu.fx {N : Nat} {H H' : Hp} {p : Addr} {M : List Addr} (h : Pu N H p) (f : Fx M H H') (hp : p ∉ M) : Pu N H' p := by
  obtain ⟨a, b, c, e, r⟩ := h
  exact ⟨a, b, c, f.keep p _ hp e, r⟩
theorem Pu.at {N : Nat} {H : Hp} {p : Addr} (h : Pu N H p) : H p ≠ none := by
  obtain ⟨a, b, c, e, r⟩ := h
  rw [e]
  exact fun z => nomatch z
/-! ## comprehensions and loops -/
section
variable {J : It} {n : Nat} {G : Hp → Prop} {Y : Nat → Hp → V → Hp → Prop} {g : TG} {tt : TT} {te : TE} {tb : TS} {vs : List Nat} {σ : L2.St} {H1 H : Hp} {D : Addr} {Qd : Hp → Prop} {Q : VK} {wi : TI} {Dn : Ends} {M : List Addr}
def LcGo (J : It) (g : TG) (tt : TT) (te : TE) (vs : List Nat) (σ : L2.St) (H1 : Hp) (D : Addr) (Qd : Hp → Prop) : Prop :=
  ∃ W : Nat → Nat → Hp → Prop, (∃ m, W 0 m (upd H1 D (.lst []))) ∧ ∀ i m H, W i m H →
    (J.stop i H ∧ Qd H) ∨ (J.go i H ∧ ∃ Nx : Hp → Prop, (∀ H', Nx H' → ∃ m', m' < m ∧ W (i + 1) m' H') ∧ ∀ x H', J.yld i H x H' →
      g x (wipe σ vs) H' fun σ2 H2 => wipe σ2 vs = wipe σ vs ∧ tt σ2 H2 fun b H3 => if b = true then te σ2 H3 fun y H4 => ∃ acc, H4 D = some (.lst acc) ∧ acc.length < sizeLine ∧ Nx (upd H4 D (.lst (acc ++ [y]))) else Nx H3)
theorem tLc_eq : tLc wi g tt te vs σ H Q = wi σ H fun J H1 => ∀ D, H1 D = none → LcGo J g tt te vs σ H1 D (fun H => Q (.ref D) H) := rfl
def ForGo (J : It) (g : TG) (tb : TS) (Dn : Ends) (σ : L2.St) (H : Hp) : Prop :=
  ∃ W : Nat → Nat → L2.St → Hp → Prop, (∃ m, W 0 m σ H) ∧ ∀ i m σ H, W i m σ H →
    (J.stop i H ∧ Dn.nx σ H) ∨ (J.go i H ∧ ∃ N : L2.St → Hp → Prop, (∀ σ' H', N σ' H' → ∃ m', m' < m ∧ W (i + 1) m' σ' H') ∧ ∀ x H', J.yld i H x H' → g x σ H' fun σ2 H2 => tb { Dn with nx := N, ct := N, bk := Dn.nx } σ2 H2)
theorem tFor_eq : tFor wi g tb Dn σ H = wi σ H fun J H1 => ForGo J g tb Dn σ H1 := rfl
theorem Fx.putNew {H4 : Hp} {zs ws : List V} (f : Fx M H1 H4) (hD : H1 D = none) (h : H4 D = some (.lst zs)) : Fx M H1 (upd H4 D (.lst ws)) := by
  have ne : ∀ b o, H1 b = some o → b ≠ D := fun b o e => ne_of_none e hD
  constructor
  · intro b o hb e
    rw [upd_ne (ne b o e)]
    exact f.keep b o hb e
  · intro b o e
    obtain ⟨o', e1, k⟩ := f.kind b o e
    exact ⟨o', by rw [upd_ne (ne b o e)]; exact e1, k⟩
theorem small_line {k : Nat} (h : k ≤ 1000000) : k < sizeLine := Nat.lt_of_le_of_lt h (by decide)
/-- a comprehension: R tells of the turn, the heap and what was made so far -/
theorem lc_new (w : Walk J n G Y) (hn : n ≤ 1000000) (hD : H1 D = none) (hM : ∀ b, b ∈ M → H1 b ≠ none) (R : Nat → Hp → List V → Prop)
    (hR : ∀ i H H' ys, Fx M H1 H → Fx [D] H H' → R i H ys → R i H' ys) (h0 : R 0 H1 [])
    (hG : ∀ i H ys, i ≤ n → Fx M H1 H → R i H ys → G H)
    (hs : ∀ i x H H' ys (N : V → Hp → Prop) (N' : Hp → Prop), i < n → Fx M H1 H → R i H ys → Y i H x H' →
      (∀ y H4, Fx M H H4 → R (i + 1) H4 (ys ++ [y]) → N y H4) → (∀ H4, Fx M H H4 → R (i + 1) H4 ys → N' H4) →
      g x (wipe σ vs) H' fun σ2 H2 => wipe σ2 vs = wipe σ vs ∧ tt σ2 H2 fun b H3 => if b = true then te σ2 H3 N else N' H3)
    (hd : ∀ H ys, Fx M H1 H → R n H ys → H D = some (.lst ys) → Qd H) : LcGo J g tt te vs σ H1 D Qd := by
  have hDM : D ∉ M := fun z => hM D z hD
  refine lc_it w (fun i H => ∃ ys, ys.length ≤ i ∧ H D = some (.lst ys) ∧ Fx M H1 H ∧ R i H ys) ?_ ?_ ?_ ?_
  · refine ⟨[], Nat.le_refl _, upd_same, Fx.new M hD, ?_⟩
    have f : Fx [D] (upd H1 D (.lst [])) (upd H1 D (.lst [])) := Fx.refl _ _
    refine hR 0 H1 _ [] (Fx.refl _ _) ?_ h0
    exact Fx.new [D] hD
  · rintro i H hi ⟨ys, _, _, f, r⟩
    exact hG i H ys hi f r
  · rintro i x H H' hi ⟨ys, hl, hy, f, r⟩ hY
    refine hs i x H H' ys _ _ hi f r hY ?_ ?_
    · intro y H4 f4 r4
      have e4 : H4 D = some (.lst ys) := f4.keep D _ hDM hy
      refine ⟨ys, e4, small_line (by omega), ys ++ [y], ?_, upd_same, (f.trans f4).putNew hD e4, ?_⟩
      · rw [List.length_append, List.length_singleton]
        omega
      · exact hR _ H4 _ _ (f.trans f4) (Fx.put List.mem_cons_self e4) r4
    · intro H4 f4 r4
      exact ⟨ys, Nat.le_succ_of_le hl, f4.keep D _ hDM hy, f.trans f4, r4⟩
  · rintro H ⟨ys, _, hy, f, r⟩
    exact hd H ys f r hy
theorem for_go (w : Walk J n G Y) (Pv : Nat → L2.St → Hp → Prop) (h0 : Pv 0 σ H) (hG : ∀ i σ H, i ≤ n → Pv i σ H → G H)
    (hs : ∀ i x σ H H', i < n → Pv i σ H → Y i H x H' → g x σ H' fun σ2 H2 => tb { Dn with nx := Pv (i + 1), ct := Pv (i + 1), bk := Dn.nx } σ2 H2)
    (hd : ∀ σ H, Pv n σ H → Dn.nx σ H) : ForGo J g tb Dn σ H := for_it w Pv h0 hG hs hd
end
/-! ## machines -/
structure Mac where
  start : Int
  steps : List (List Int)
  answers : List Int
def macD (m : Mac) : D := .tup [.int m.start, .tup (m.steps.map intsD), intsD m.answers]
/-- a machine of a size -/
structure MacOk (m : Mac) (wd : Nat) : Prop where
  pos : 0 < m.steps.length
  few : m.steps.length ≤ 1000
  row : ∀ r, r ∈ m.steps → r.length = wd ∧ ∀ x, x ∈ r → 0 ≤ x ∧ x < (m.steps.length : Int)
  ans : m.answers.length = m.steps.length
  told : ∀ x, x ∈ m.answers → 0 ≤ x ∧ x ≤ 99
  st0 : 0 ≤ m.start
  st1 : m.start < (m.steps.length : Int)
def readM (m : Mac) (s : Int) (row : List Int) : Int := row.foldl (fun s v => (m.steps.getD s.toNat []).getD v.toNat 0) s
def ansM (m : Mac) (row : List Int) : Int := m.answers.getD (readM m m.start row).toNat 0
theorem getD_mem {α : Type} {l : List α} {i : Nat} {d : α} (h : i < l.length) : l.getD i d ∈ l := by
  rw [List.getD_eq_getElem?_getD, List.getElem?_eq_getElem h]
  exact List.getElem_mem h
theorem MacOk.step {m : Mac} {wd : Nat} (h : MacOk m wd) {s v : Int} (s0 : 0 ≤ s) (s1 : s < (m.steps.length : Int)) (v0 : 0 ≤ v) (v1 : v < (wd : Int)) :
    0 ≤ (m.steps.getD s.toNat []).getD v.toNat 0 ∧ (m.steps.getD s.toNat []).getD v.toNat 0 < (m.steps.length : Int) := by
  have hm : m.steps.getD s.toNat [] ∈ m.steps := getD_mem (by omega)
  obtain ⟨hl, hx⟩ := h.row _ hm
  exact hx _ (getD_mem (by omega))
theorem MacOk.read {m : Mac} {wd : Nat} (h : MacOk m wd) : ∀ (row : List Int) (s : Int), 0 ≤ s → s < (m.steps.length : Int) → (∀ x ∈ row, 0 ≤ x ∧ x < (wd : Int)) → 0 ≤ readM m s row ∧ readM m s row < (m.steps.length : Int)
  | [], s, s0, s1, _ => ⟨s0, s1⟩
  | v :: r, s, s0, s1, hr => by
    have hv := hr v List.mem_cons_self
    obtain ⟨t0, t1⟩ := h.step s0 s1 hv.1 hv.2
    exact h.read r _ t0 t1 fun x hx => hr x (List.mem_cons_of_mem _ hx)
theorem MacOk.answer {m : Mac} {wd : Nat} (h : MacOk m wd) {row : List Int} (hr : ∀ x ∈ row, 0 ≤ x ∧ x < (wd : Int)) : 0 ≤ ansM m row ∧ ansM m row ≤ 99 := by
  obtain ⟨t0, t1⟩ := h.read row m.start h.st0 h.st1 hr
  exact h.told _ (getD_mem (by rw [h.ans]; omega))
/-- the parts of a machine in memory -/
theorem Rp.mac {H : Hp} {v : V} {m : Mac} (h : Rp H v (macD m)) : ∃ a b c xs, v = .ref a ∧ H a = some (.tup [.int m.start, .ref b, .ref c]) ∧ H b = some (.tup xs) ∧ RpAll H xs (m.steps.map intsD) ∧ H c = some (.tup (m.answers.map V.int)) := by
  obtain ⟨a, xs, rfl, e, r⟩ := h.tup_inv
  cases r with
  | cons r1 r =>
    cases r with
    | cons r2 r =>
      cases r with
      | cons r3 r =>
        cases r
        have := r1.int_inv
        subst this
        obtain ⟨b, ys, rfl, e2, r2'⟩ := r2.tup_inv
        obtain ⟨c, rfl, e3⟩ := r3.ints_inv
        exact ⟨a, b, c, ys, rfl, e, e2, r2', e3⟩
theorem RpAll.rowAt {H : Hp} {xs : List V} {rows : List (List Int)} (r : RpAll H xs (rows.map intsD)) {i : Nat} (h : i < rows.length) : ∃ a, xs[i]? = some (.ref a) ∧ H a = some (.tup ((rows.getD i []).map V.int)) := by
  obtain ⟨v, hv, rv⟩ := r.atD (i := i) (d := intsD (rows.getD i [])) (by
    rw [List.getElem?_map, List.getElem?_eq_getElem h, List.getD_eq_getElem?_getD, List.getElem?_eq_getElem h]
    rfl)
  obtain ⟨a, rfl, e⟩ := rv.ints_inv
  exact ⟨a, hv, e⟩
theorem atI_ints {ns : List Int} {i : Int} (h0 : 0 ≤ i) (h1 : i < (ns.length : Int)) : atI (ns.map V.int) i = some (.int (ns.getD i.toNat 0)) := by
  have hi : i.toNat < ns.length := by omega
  have e : i = ((i.toNat : Nat) : Int) := by omega
  have g : (ns.map V.int)[i.toNat]? = some (.int (ns.getD i.toNat 0)) := by
    rw [List.getElem?_map, List.getD_eq_getElem?_getD, List.getElem?_eq_getElem hi]
    rfl
  have := atI_nat g
  rw [← e] at this
  exact this
theorem atI_of {xs : List V} {i : Int} {v : V} (h0 : 0 ≤ i) (h : xs[i.toNat]? = some v) : atI xs i = some v := by
  have e : i = ((i.toNat : Nat) : Int) := by omega
  have := atI_nat h
  rw [← e] at this
  exact this
theorem readM_take {m : Mac} {s : Int} {row : List Int} {i : Nat} (h : i < row.length) : readM m s (row.take (i + 1)) = (m.steps.getD (readM m s (row.take i)).toNat []).getD (row.getD i 0).toNat 0 := by
  unfold readM
  rw [List.take_add_one, List.getElem?_eq_getElem h, List.foldl_append, List.getD_eq_getElem?_getD (l := row), List.getElem?_eq_getElem h]
  rfl
/-! ## the draws of a law -/
def spMixed : Sp := fun vs H Q _ => ∃ c k : Int, vs = [.int c, .int k] ∧ 0 ≤ c ∧ c < 2147483647 ∧ 0 ≤ k ∧ k ≤ 1000000000001 ∧ ∀ r, 0 ≤ r → r < 1000000000 → Q (.int r) H
def spDraw : Sp := fun vs H Q _ => ∃ (p : Addr) (n : Int) (N : Nat), vs = [.ref p, .int n] ∧ 0 < n ∧ n < 1073741824 ∧ Pu N H p ∧ N ≤ 1000000000000 ∧
  ∀ (d : Int) (H' : Hp), 0 ≤ d → d < n → Fx [p] H H' → Pu (N + 1) H' p → Q (.int d) H'
def spPurse (K : PySem.W.Frag) : Sp := fun vs H Q _ => ∃ (a : Addr) (ns : List Int) (i : Nat), vs = [.ref a, .int i] ∧ SqL K H a (ns.map V.int) ∧ i ≤ 100 ∧
  ∀ (p : Addr) (H' : Hp), H p = none → Fx [] H H' → Pu (1000 * i) H' p → Q (.ref p) H'
/-- a row of values below wide, at most most of them -/
def spRow : Sp := fun vs H Q _ => ∃ (p : Addr) (wide : Int) (most N : Nat), vs = [.ref p, .int wide, .int most] ∧ 0 < wide ∧ wide ≤ 4 ∧ most ≤ 100 ∧ Pu N H p ∧ N ≤ 900000000000 ∧
  ∀ (v : V) (H' : Hp) (row : List Int), row.length ≤ most → (∀ x ∈ row, 0 ≤ x ∧ x < wide) → Fx [p] H H' → Pu (N + 101) H' p → Rp H' v (intsD row) → Q v H'
def spMachine : Sp := fun vs H Q _ => ∃ (p : Addr) (wide most N : Nat), vs = [.ref p, .int wide, .int most] ∧ 0 < wide ∧ wide ≤ 4 ∧ 0 < most ∧ most ≤ 30 ∧ Pu N H p ∧ N ≤ 900000000000 ∧
  ∀ (v : V) (H' : Hp) (m : Mac), MacOk m wide → m.steps.length ≤ most → Fx [p] H H' → Pu (N + 200) H' p → Rp H' v (macD m) → Q v H'
theorem lc_draws {p D : Addr} {n N : Nat} {u : Int} {H1 : Hp} {g : TG} {tt : TT} {te : TE} {vs : List Nat} {σ : L2.St} {Qd : Hp → Prop} (hn : n ≤ 1000) (u0 : 0 < u) (u1 : u < 1073741824) (pu : Pu N H1 p) (hN : N + n ≤ 1000000000000) (hD : H1 D = none)
    (hb : ∀ x H (N1 : V → Hp → Prop) (N2 : Hp → Prop), spDraw [.ref p, .int u] H N1 E0 → g x (wipe σ vs) H fun σ2 H2 => wipe σ2 vs = wipe σ vs ∧ tt σ2 H2 fun b H3 => if b = true then te σ2 H3 N1 else N2 H3)
    (hd : ∀ H (ns : List Int), ns.length = n → (∀ x ∈ ns, 0 ≤ x ∧ x < u) → Fx [p] H1 H → Pu (N + n) H p → H D = some (.lst (ns.map V.int)) → Qd H) : LcGo (Itr 0 n) g tt te vs σ H1 D Qd := by
  refine lc_new (M := [p]) walk_range (by omega) hD (by simp; exact pu.at) (fun i H ys => Pu (N + i) H p ∧ ∃ ns : List Int, ys = ns.map V.int ∧ ns.length = i ∧ ∀ x ∈ ns, 0 ≤ x ∧ x < u) ?_ ?_ ?_ ?_ ?_
  · rintro i H2 H3 ys _ f ⟨pu2, r⟩
    refine ⟨pu2.fx f ?_, r⟩
    rintro z2
    rw [List.mem_singleton] at z2
    subst z2
    exact pu.at hD
  · exact ⟨pu, [], rfl, rfl, fun x hx => nomatch hx⟩
  · intros; trivial
  · rintro i x H2 H3 ys N1 N2 hi f ⟨pu2, ns, rfl, hl, hx⟩ ⟨rfl, rfl⟩ hN1 hN2
    refine hb _ _ _ _ ⟨p, u, _, rfl, u0, u1, pu2, by omega, fun d H4 d0 d1 f4 pu4 => hN1 _ _ f4 ⟨pu4, ns ++ [d], ?_, ?_, ?_⟩⟩
    · rw [List.map_append]; rfl
    · rw [List.length_append, hl]; rfl
    · intro x hx2
      rcases List.mem_append.mp hx2 with hx2 | hx2
      · exact hx x hx2
      · rw [List.mem_singleton.mp hx2]; exact ⟨d0, d1⟩
  · rintro H2 ys f ⟨pu2, ns, rfl, hl, hx⟩ hys
    exact hd H2 ns hl hx f pu2 hys
/-! ## checks -/
def isInteger (d : D) (lo hi : Int) : Bool := match d with
  | .int i => decide (lo ≤ i) && decide (i ≤ hi)
  | _ => false
def isRow (d : D) (n : Int) : Bool := match d with
  | .tup ds => ds.all fun x => isInteger x 0 (n - 1)
  | _ => false
/-- no tuple longer than that at the first level -/
def short (d : D) : Prop := match d with
  | .tup ds => ds.length ≤ 1000000
  | _ => True
def spIsInteger : Sp := fun vs H Q _ => ∃ v d lo hi, vs = [v, .int lo, .int hi] ∧ Rp H v d ∧ Q (.bl (isInteger d lo hi)) H
def spIsSize : Sp := fun vs H Q _ => ∃ v d, vs = [v] ∧ Rp H v d ∧ Q (.bl (isInteger d 1 4)) H
def spIsRow : Sp := fun vs H Q _ => ∃ v d n, vs = [v, .int n] ∧ Rp H v d ∧ short d ∧ ∀ H', Fx [] H H' → Q (.bl (isRow d n)) H'
theorem isTy_ne {n : String} {d : D} (h : isTy n d = true) (n' : String) (hn : n = n') : isTy n' d = true := hn ▸ h
theorem isTy_int (d : D) : isTy "int" d = match d with | .int _ => true | .bl _ => true | _ => false := by
  cases d <;> rfl
theorem isTy_bool (d : D) : isTy "bool" d = match d with | .bl _ => true | _ => false := by
  cases d <;> rfl
theorem isTy_tuple (d : D) : isTy "tuple" d = match d with | .tup _ => true | _ => false := by
  cases d <;> rfl
/-- all([test(x) for x in t]) over a tuple: bools, the heap but grows -/
theorem lc_bools {K : PySem.W.Frag} {a D0 : Addr} {xs : List V} {ds : List D} {H1 : Hp} {g : TG} {tt : TT} {te : TE} {vs : List Nat} {σ : L2.St} {Qd : Hp → Prop} (f : D → Bool) (ha : H1 a = some (.tup xs)) (hr : RpAll H1 xs ds) (hn : xs.length ≤ 1000000) (hD : H1 D0 = none)
    (hb : ∀ x d H (N1 : V → Hp → Prop) (N2 : Hp → Prop), d ∈ ds → Rp H x d → (∀ H4, Fx [] H H4 → N1 (.bl (f d)) H4) → g x (wipe σ vs) H fun σ2 H2 => wipe σ2 vs = wipe σ vs ∧ tt σ2 H2 fun b H3 => if b = true then te σ2 H3 N1 else N2 H3)
    (hd : ∀ H, Fx [] H1 H → H D0 = some (.lst ((ds.map f).map V.bl)) → Qd H) : LcGo (Itt K a) g tt te vs σ H1 D0 Qd := by
  have hl := hr.len
  refine lc_new (M := []) (walk_tup (xs := xs)) hn hD (fun b z => nomatch z) (fun i H ys => ys = ((ds.take i).map f).map V.bl) ?_ ?_ ?_ ?_ ?_
  · intro i H H' ys _ _ e
    exact e
  · rfl
  · rintro i H ys _ fx _
    exact SqT.of (fx.tup ha)
  · rintro i x H H' ys N1 N2 hi fx rfl ⟨rfl, hx⟩ hN1 hN2
    obtain ⟨d, hd1, rd1⟩ := hr.at hx
    refine hb x d _ N1 N2 (List.mem_of_getElem? hd1) (fx.rp rd1) fun H4 f4 => hN1 _ _ f4 ?_
    rw [List.take_add_one, hd1, List.map_append, List.map_append]
    rfl
  · intro H ys fx e hy
    refine hd H fx ?_
    rw [hy, e, hl, List.take_length]
end LT
namespace K01
open PySem PySem.Spec PyProof.Rows L2 LT
def topS (i : Nat) : Stmt := PySem.Challenge.pw_lazytags_k01_answers_of_machines.main.body.getD i (.Pass ⟨0, 0, 0, 0⟩)
abbrev s_is_integer : Stmt := topS 1
theorem sc_is_integer : FnScope ["thing", "low", "high"] ["thing", "low", "high"] (defScope s_is_integer) := ⟨rfl, rfl, rfl, by decide +kernel, rfl, by decide +kernel, by decide +kernel⟩
abbrev s_is_size : Stmt := topS 2
theorem sc_is_size : FnScope ["thing"] ["thing"] (defScope s_is_size) := ⟨rfl, rfl, rfl, by decide +kernel, rfl, by decide +kernel, by decide +kernel⟩
abbrev s_is_row : Stmt := topS 3
theorem sc_is_row : FnScope ["thing", "size", "value"] ["thing", "size"] (defScope s_is_row) := ⟨rfl, rfl, rfl, by decide +kernel, rfl, by decide +kernel, by decide +kernel⟩
abbrev s_is_line : Stmt := topS 4
theorem sc_is_line : FnScope ["thing", "many", "bound"] ["thing", "many", "bound"] (defScope s_is_line) := ⟨rfl, rfl, rfl, by decide +kernel, rfl, by decide +kernel, by decide +kernel⟩
abbrev s_InvalidSize___init__ : Stmt := inClass (topS 7) 0
theorem sc_InvalidSize___init__ : FnScope ["self", "size"] ["self", "size"] (defScope s_InvalidSize___init__) := ⟨rfl, rfl, rfl, by decide +kernel, rfl, by decide +kernel, by decide +kernel⟩
abbrev s_InvalidMachine___init__ : Stmt := inClass (topS 8) 0
theorem sc_InvalidMachine___init__ : FnScope ["self", "thing"] ["self", "thing"] (defScope s_InvalidMachine___init__) := ⟨rfl, rfl, rfl, by decide +kernel, rfl, by decide +kernel, by decide +kernel⟩
abbrev s_InvalidRow___init__ : Stmt := inClass (topS 9) 0
theorem sc_InvalidRow___init__ : FnScope ["self", "thing"] ["self", "thing"] (defScope s_InvalidRow___init__) := ⟨rfl, rfl, rfl, by decide +kernel, rfl, by decide +kernel, by decide +kernel⟩
abbrev s_check_machine : Stmt := topS 11
theorem sc_check_machine : FnScope ["thing", "size", "start", "steps", "answers", "state", "line", "told"] ["thing", "size"] (defScope s_check_machine) := ⟨rfl, rfl, rfl, by decide +kernel, rfl, by decide +kernel, by decide +kernel⟩
abbrev s_has_machine_form : Stmt := topS 12
theorem sc_has_machine_form : FnScope ["thing", "part"] ["thing"] (defScope s_has_machine_form) := ⟨rfl, rfl, rfl, by decide +kernel, rfl, by decide +kernel, by decide +kernel⟩
abbrev s_machine_size : Stmt := topS 13
theorem sc_machine_size : FnScope ["machine", "size"] ["machine"] (defScope s_machine_size) := ⟨rfl, rfl, rfl, by decide +kernel, rfl, by decide +kernel, by decide +kernel⟩
abbrev s_answer : Stmt := topS 14
theorem sc_answer : FnScope ["machine", "row"] ["machine", "row"] (defScope s_answer) := ⟨rfl, rfl, rfl, by decide +kernel, rfl, by decide +kernel, by decide +kernel⟩
abbrev s_answer_on : Stmt := topS 15
theorem sc_answer_on : FnScope ["machine", "row", "start", "steps", "answers"] ["machine", "row"] (defScope s_answer_on) := ⟨rfl, rfl, rfl, by decide +kernel, rfl, by decide +kernel, by decide +kernel⟩
abbrev s_state_after : Stmt := topS 16
theorem sc_state_after : FnScope ["steps", "state", "row", "value"] ["steps", "state", "row"] (defScope s_state_after) := ⟨rfl, rfl, rfl, by decide +kernel, rfl, by decide +kernel, by decide +kernel⟩
abbrev s__law_mixed : Stmt := topS 18
theorem sc__law_mixed : FnScope ["_law_cell", "_law_k", "_law_number"] ["_law_cell", "_law_k"] (defScope s__law_mixed) := ⟨rfl, rfl, rfl, by decide +kernel, rfl, by decide +kernel, by decide +kernel⟩
abbrev s__law_purse : Stmt := topS 19
theorem sc__law_purse : FnScope ["_law_script", "_law_at", "_law_cell"] ["_law_script", "_law_at"] (defScope s__law_purse) := ⟨rfl, rfl, rfl, by decide +kernel, rfl, by decide +kernel, by decide +kernel⟩
abbrev s__law_draw : Stmt := topS 20
theorem sc__law_draw : FnScope ["_law_purse_here", "_law_out_of", "_law_drawn"] ["_law_purse_here", "_law_out_of"] (defScope s__law_draw) := ⟨rfl, rfl, rfl, by decide +kernel, rfl, by decide +kernel, by decide +kernel⟩
abbrev s__law_machine : Stmt := topS 21
theorem sc__law_machine : FnScope ["_law_purse_here", "_law_wide", "_law_most", "_law_many", "_law_steps", "_law_few", "_law_state", "_law_value"] ["_law_purse_here", "_law_wide", "_law_most"] (defScope s__law_machine) := ⟨rfl, rfl, rfl, by decide +kernel, rfl, by decide +kernel, by decide +kernel⟩
abbrev s__law_read : Stmt := topS 22
theorem sc__law_read : FnScope ["_law_asker", "_law_state", "_law_line", "_law_value"] ["_law_asker", "_law_state", "_law_line"] (defScope s__law_read) := ⟨rfl, rfl, rfl, by decide +kernel, rfl, by decide +kernel, by decide +kernel⟩
abbrev s__law_answer : Stmt := topS 23
theorem sc__law_answer : FnScope ["_law_asker", "_law_line"] ["_law_asker", "_law_line"] (defScope s__law_answer) := ⟨rfl, rfl, rfl, by decide +kernel, rfl, by decide +kernel, by decide +kernel⟩
abbrev s__law_row : Stmt := topS 24
theorem sc__law_row : FnScope ["_law_purse_here", "_law_wide", "_law_most", "_law_place"] ["_law_purse_here", "_law_wide", "_law_most"] (defScope s__law_row) := ⟨rfl, rfl, rfl, by decide +kernel, rfl, by decide +kernel, by decide +kernel⟩
abbrev s_law : Stmt := topS 25
theorem sc_law : FnScope ["_law_script", "_law_at", "_law_purse_here", "_law_turn", "_law_wide", "_law_asker", "_law_line", "_law_due"] ["_law_script"] (defScope s_law) := ⟨rfl, rfl, rfl, by decide +kernel, rfl, by decide +kernel, by decide +kernel⟩
/-- built-in names that the module leaves -/
structure Z (mg : Str → Option Value) : Prop where
  int : mg "int" = none
  bool : mg "bool" = none
  tuple : mg "tuple" = none
  isinstance : mg "isinstance" = none
  len : mg "len" = none
  max : mg "max" = none
  min : mg "min" = none
  all : mg "all" = none
  range : mg "range" = none
  enumerate : mg "enumerate" = none
section
variable {P : Program} {w : World} {K : PySem.W.Frag} {mg : Str → Option Value} {base : Heap}
theorem ok_mixed (z : Z mg) {f : Addr} {fd : FuncData} (F : Fun K "_law_mixed" "_law_mixed" s__law_mixed f fd) : FnOk P w K mg base CX0 1 f fd ["_law_cell", "_law_k"] spMixed := by
  refine F.ok sc__law_mixed (fun vs H Q E h => ?_) (fun cdv A outer s H vs Q E hr h => ⟨_, (pss_cons (ps_set (i := 2) sc__law_mixed.nd rfl (.inl rfl) (pe_op op_mod (pe_callTy call_intI (by rfl) z.int (by decide +kernel) (pa_cons (pe_op op_add (pe_op op_add (pe_op op_add (pe_op op_mul (pv 0) pe_int) (pe_op op_mul (pe_op op_mul pe_int (pv 1)) (pv 1))) (pe_op op_mul pe_int (pv 1))) pe_int) pa_nil)) pe_int))
      (pss_one (ps_ret (pe_op op_fdiv (pe_op op_mod (pe_callTy call_intI (by rfl) z.int (by decide +kernel) (pa_cons (pe_op op_add (pe_op op_add (pe_op op_mul (pv 2) (pv 2)) (pe_op op_mul pe_int (pv 2))) pe_int) pa_nil)) pe_int) pe_int)))), ?_⟩)
  · obtain ⟨c, k, rfl, _⟩ := h
    rfl
  · obtain ⟨c, k, rfl, c0, c1, k0, k1, q⟩ := h
    simp only [tSeq, tAsg, tOp, tUn, tCB, tCons, tNil, tVar, tC, rI, rI0, rU, tRet, tRetN, gName, tIfS, tTest, tIf, tB, tNot, tAnd, tOr, tAndV, tOrV, tNotV, tCmp, t2I, tLst, tTup, tCall, tCalK0, tNext, tChain, tSl, tPart, tNoPart, tPar, tDrop, gSub, gTupT, gCons, gNil, rSetL, rIxl, rIxt, rSlt, rEq, rNe, L2.start, tLc_eq, tFor_eq, iTup, iList, iRng1, iRng2, iEnumT, tYes, pts_nil,
  List.map_cons, List.map_nil, List.length_cons, List.length_nil, List.replicate_succ, List.replicate_zero, Nat.reduceAdd, Nat.reduceSub, Nat.add_zero, Nat.zero_add, List.cons_append, List.nil_append, List.append_nil, List.getElem?_cons_zero, List.getElem?_cons_succ, List.set_cons_zero, List.set_cons_succ, wipe,
  Option.some.injEq, exists_eq_left', exists_eq_left, V.int.injEq, V.bl.injEq, V.str.injEq, V.ref.injEq, HO.lst.injEq, HO.tup.injEq, List.cons.injEq, and_true, true_and, reduceCtorEq, false_or, or_false, false_and, and_false, exists_false, exists_and_left, exists_eq, and_assoc, if_true, if_false, Bool.false_eq_true, decide_eq_true_eq, upd_same]
    generalize hn : (c * 2654435761 + 40503 * k * k + 97 * k + 13) % 2147483647 = n
    have n0 : 0 ≤ n ∧ n < 2147483647 := by
      rw [← hn]
      exact ⟨Int.emod_nonneg _ (by decide), Int.emod_lt_of_pos _ (by decide)⟩
    refine ⟨.inl ⟨by omega, by omega⟩, .inl ⟨by decide, by decide⟩, .inr ⟨by omega, by omega⟩, .inl ⟨by decide, by decide⟩, by decide, .inl ⟨by omega, by omega⟩, .inl ⟨by decide, by decide⟩, by decide, ⟨by decide, by decide⟩, ?_⟩
    have r0 := Int.emod_nonneg (n * n + 7 * n + 11) (show (2147483629 : Int) ≠ 0 by decide)
    have r1 := Int.emod_lt_of_pos (n * n + 7 * n + 11) (show (0 : Int) < 2147483629 by decide)
    exact q _ (by omega) (by omega)
theorem ok_draw (z : Z mg) (c__law_mixed : Cal P w K mg base CX0 "_law_mixed" 1 ["_law_cell", "_law_k"] spMixed) {f : Addr} {fd : FuncData} (F : Fun K "_law_draw" "_law_draw" s__law_draw f fd) :
    FnOk P w K mg base CX0 2 f fd ["_law_purse_here", "_law_out_of"] spDraw := by
  refine F.ok sc__law_draw (fun vs H Q E h => ?_) (fun cdv A outer s H vs Q E hr h => ⟨_, (pss_cons (ps_if (pt_cmpR op_gt (pe_ix ix_l (pv 0) pe_int (fun _ _ => rfl)) pe_int (nomark _)) (pss_cons (ps_set (i := 2) sc__law_draw.nd rfl (.inl rfl) (pe_op op_mod (pe_callTy call_intI (by rfl) z.int (by decide +kernel) (pa_cons (pe_ix ix_l (pv 0) pe_int (fun _ _ => rfl)) pa_nil)) (pv 1)))
      (pss_cons (ps_asg (pe_op op_fdiv (pe_ix ix_l (pv 0) pe_int (fun _ _ => rfl)) (pv 1)) (pg_sub (pv 0) pe_int set_list))
      (pss_one (ps_ret (pv 2))))) pss_nil)
      (pss_cons (ps_asg (pe_op op_add (pe_ix ix_l (pv 0) pe_int (fun _ _ => rfl)) pe_int) (pg_sub (pv 0) pe_int set_list))
      (pss_one (ps_ret (pe_op op_mod (pe_callTy call_intI (by rfl) z.int (by decide +kernel) (pa_cons (pe_cal c__law_mixed hr rfl pass0 (pa_cons (pe_ix ix_l (pv 0) pe_int (fun _ _ => rfl)) (pa_cons (pe_ix ix_l (pv 0) pe_int (fun _ _ => rfl)) pa_nil))) pa_nil)) (pv 1)))))), ?_⟩)
  · obtain ⟨p, n, N, rfl, _⟩ := h
    rfl
  · obtain ⟨p, n, N, rfl, n0, n1, ⟨a, b, c, hp, b0, b1, c0, c1⟩, hN, q⟩ := h
    have e0 : ∀ x y z' : V, atI [x, y, z'] (0 : Int) = some x := fun _ _ _ => rfl
    have e1 : ∀ x y z' : V, atI [x, y, z'] (1 : Int) = some y := fun _ _ _ => rfl
    have e2 : ∀ x y z' : V, atI [x, y, z'] (2 : Int) = some z' := fun _ _ _ => rfl
    have i0 : ixN 3 (0 : Int) = some 0 := rfl
    have i2 : ixN 3 (2 : Int) = some 2 := rfl
    simp only [tSeq, tAsg, tOp, tUn, tCB, tCons, tNil, tVar, tC, rI, rI0, rU, tRet, tRetN, gName, tIfS, tTest, tIf, tB, tNot, tAnd, tOr, tAndV, tOrV, tNotV, tCmp, t2I, tLst, tTup, tCall, tCalK0, tNext, tChain, tSl, tPart, tNoPart, tPar, tDrop, gSub, gTupT, gCons, gNil, rSetL, rIxl, rIxt, rSlt, rEq, rNe, L2.start, tLc_eq, tFor_eq, iTup, iList, iRng1, iRng2, iEnumT, tYes, pts_nil,
  List.map_cons, List.map_nil, List.length_cons, List.length_nil, List.replicate_succ, List.replicate_zero, Nat.reduceAdd, Nat.reduceSub, Nat.add_zero, Nat.zero_add, List.cons_append, List.nil_append, List.append_nil, List.getElem?_cons_zero, List.getElem?_cons_succ, List.set_cons_zero, List.set_cons_succ, wipe,
  Option.some.injEq, exists_eq_left', exists_eq_left, V.int.injEq, V.bl.injEq, V.str.injEq, V.ref.injEq, HO.lst.injEq, HO.tup.injEq, List.cons.injEq, and_true, true_and, reduceCtorEq, false_or, or_false, false_and, and_false, exists_false, exists_and_left, exists_eq, and_assoc, if_true, if_false, Bool.false_eq_true, decide_eq_true_eq, upd_same, hp, e0, e1, e2, i0, i2]
    by_cases ha : 0 < a
    · rw [if_pos ha]
      refine ⟨n0, ⟨n0, n1⟩, q _ _ (Int.emod_nonneg _ (by omega)) (Int.emod_lt_of_pos _ n0) (Fx.put List.mem_cons_self hp) ⟨_, _, _, upd_same, b0, b1, c0, by omega⟩⟩
    · rw [if_neg ha]
      refine ⟨b, c + 1, rfl, b0, b1, by omega, by omega, fun r r0 r1 => ⟨r, rfl, n0, ?_⟩⟩
      exact q _ _ (Int.emod_nonneg _ (by omega)) (Int.emod_lt_of_pos _ n0) (Fx.put List.mem_cons_self hp) ⟨_, _, _, upd_same, b0, b1, by omega, by omega⟩
theorem ok_purse (z : Z mg) {f : Addr} {fd : FuncData} (F : Fun K "_law_purse" "_law_purse" s__law_purse f fd) :
    FnOk P w K mg base CX0 1 f fd ["_law_script", "_law_at"] (spPurse K) := by
  refine F.ok sc__law_purse (fun vs H Q E h => ?_) (fun cdv A outer s H vs Q E hr h => ⟨_, (pss_cons (ps_set (i := 2) sc__law_purse.nd rfl (.inl rfl) pe_int)
      (pss_cons (ps_if (pt_cmpR op_lt (pv 1) (pe_callB call_len_seq (by rfl) z.len (by decide +kernel) (pa_cons (pv 0) pa_nil)) (nomark _)) (pss_one (ps_set (i := 2) sc__law_purse.nd rfl (.inl rfl) (pe_ix ix_list (pv 0) (pv 1) (fun _ _ => rfl)))) pss_nil)
      (pss_one (ps_ret (pe_lst (pa_cons (pe_op op_mod (pe_callTy call_intI (by rfl) z.int (by decide +kernel) (pa_cons (pe_callB (call_max2 rfl) (by rfl) z.max (by decide +kernel) (pa_cons (pe_op op_sub (pv 2) (pe_op op_powB pe_int pe_int)) (pa_cons pe_int pa_nil))) pa_nil)) (pe_op op_powB (pe_op op_powB pe_int pe_int) pe_int)) (pa_cons (pe_op op_mod (pe_callTy call_intI (by rfl) z.int (by decide +kernel) (pa_cons (pv 2) pa_nil)) pe_int) (pa_cons (pe_op op_mul pe_int (pv 1)) pa_nil)))))))), ?_⟩)
  · obtain ⟨p, n, N, rfl, _⟩ := h
    rfl
  · obtain ⟨a, ns, i, rfl, hS, hi, q⟩ := h
    have fin : ∀ c : Int, ∀ p, H p = none → Q (.ref p) (upd H p (.lst [.int ((if 0 > c - 10 ^ (18 : Int).toNat then 0 else c - 10 ^ (18 : Int).toNat) % (10 ^ (60 : Int).toNat) ^ (8 : Int).toNat), .int (c % 2147483647), .int (1000 * i)])) := by
      intro c p hp
      refine q p _ hp (Fx.new _ hp) ⟨_, _, _, upd_same, Int.emod_nonneg _ (by decide), Int.emod_lt_of_pos _ (by decide), by omega, by omega⟩
    simp only [tSeq, tAsg, tOp, tUn, tCB, tCons, tNil, tVar, tC, rI, rI0, rU, tRet, tRetN, gName, tIfS, tTest, tIf, tB, tNot, tAnd, tOr, tAndV, tOrV, tNotV, tCmp, t2I, tLst, tTup, tCall, tCalK0, tNext, tChain, tSl, tPart, tNoPart, tPar, tDrop, gSub, gTupT, gCons, gNil, rSetL, rIxl, rIxt, rSlt, rEq, rNe, L2.start, tLc_eq, tFor_eq, iTup, iList, iRng1, iRng2, iEnumT, tYes, pts_nil,
  List.map_cons, List.map_nil, List.length_cons, List.length_nil, List.replicate_succ, List.replicate_zero, Nat.reduceAdd, Nat.reduceSub, Nat.add_zero, Nat.zero_add, List.cons_append, List.nil_append, List.append_nil, List.getElem?_cons_zero, List.getElem?_cons_succ, List.set_cons_zero, List.set_cons_succ, wipe,
  Option.some.injEq, exists_eq_left', exists_eq_left, V.int.injEq, V.bl.injEq, V.str.injEq, V.ref.injEq, HO.lst.injEq, HO.tup.injEq, List.cons.injEq, and_true, true_and, reduceCtorEq, false_or, or_false, false_and, and_false, exists_false, exists_and_left, exists_eq, and_assoc, if_true, if_false, Bool.false_eq_true, decide_eq_true_eq, upd_same]
    have w1 : CPowB 10 18 := ⟨by decide, by decide +kernel⟩
    have w2 : CPowB 10 60 := ⟨by decide, by decide +kernel⟩
    have w3 : CPowB (10 ^ Int.toNat 60) 8 := ⟨by decide, by decide +kernel⟩
    have w4 : (0 : Int) < (10 ^ Int.toNat 60) ^ Int.toNat 8 := by decide +kernel
    have w5 : CMul 1000 (i : Int) := .inl ⟨by decide, by decide⟩
    have w6 : 3 ≤ sizeLine := by decide
    refine ⟨ns.map V.int, .inl hS, ?_⟩
    by_cases hi : (i : Int) < ((ns.map V.int).length : Int)
    · rw [if_pos hi]
      have hi' : i < ns.length := by rw [List.length_map] at hi; omega
      refine ⟨a, _, i, .int ns[i], rfl, rfl, hS, atI_nat (by rw [List.getElem?_map, List.getElem?_eq_getElem hi']; rfl), ?_⟩
      simp only [tSeq, tAsg, tOp, tUn, tCB, tCons, tNil, tVar, tC, rI, rI0, rU, tRet, tRetN, gName, tIfS, tTest, tIf, tB, tNot, tAnd, tOr, tAndV, tOrV, tNotV, tCmp, t2I, tLst, tTup, tCall, tCalK0, tNext, tChain, tSl, tPart, tNoPart, tPar, tDrop, gSub, gTupT, gCons, gNil, rSetL, rIxl, rIxt, rSlt, rEq, rNe, L2.start, tLc_eq, tFor_eq, iTup, iList, iRng1, iRng2, iEnumT, tYes, pts_nil,
  List.map_cons, List.map_nil, List.length_cons, List.length_nil, List.replicate_succ, List.replicate_zero, Nat.reduceAdd, Nat.reduceSub, Nat.add_zero, Nat.zero_add, List.cons_append, List.nil_append, List.append_nil, List.getElem?_cons_zero, List.getElem?_cons_succ, List.set_cons_zero, List.set_cons_succ, wipe,
  Option.some.injEq, exists_eq_left', exists_eq_left, V.int.injEq, V.bl.injEq, V.str.injEq, V.ref.injEq, HO.lst.injEq, HO.tup.injEq, List.cons.injEq, and_true, true_and, reduceCtorEq, false_or, or_false, false_and, and_false, exists_false, exists_and_left, exists_eq, and_assoc, if_true, if_false, Bool.false_eq_true, decide_eq_true_eq, upd_same]
      exact ⟨w1, w2, w3, w4, by decide, w5, w6, fun p hp => fin ns[i] p hp⟩
    · rw [if_neg hi]
      exact ⟨w1, w2, w3, w4, by decide, w5, w6, fun p hp => fin 0 p hp⟩
theorem ok_row (z : Z mg) (c__law_draw : Cal P w K mg base CX0 "_law_draw" 2 ["_law_purse_here", "_law_out_of"] spDraw) {f : Addr} {fd : FuncData} (F : Fun K "_law_row" "_law_row" s__law_row f fd) :
    FnOk P w K mg base CX0 3 f fd ["_law_purse_here", "_law_wide", "_law_most"] spRow := by
  refine F.ok sc__law_row (fun vs H Q E h => ?_) (fun cdv A outer s H vs Q E hr h => ⟨_, (pss_one (ps_ret (pe_callTy call_tupL (by rfl) z.tuple (by decide +kernel) (pa_cons (pe_lc (own := [("_law_place", 3)]) rfl sc__law_row.nd (pi_range1 (by rfl) z.range (pa_cons (pe_cal c__law_draw hr rfl pass0 (pa_cons (pv 0) (pa_cons (pe_op op_add (pv 2) pe_int) pa_nil))) pa_nil)) (blkOk_by (own := [("_law_place", 3)]) (N := ["_law_purse_here", "_law_wide", "_law_most", "_law_place"]) (sc := (defScope s__law_row)) (by decide +kernel)) (fun _ _ _ _ _ => (pg_name (i := 3) sc__law_row.nd rfl (.inl rfl))) (fun _ _ _ _ _ => pts_nil) (fun _ _ _ _ _ => (pe_cal c__law_draw hr rfl pass0 (pa_cons (pv 0) (pa_cons (pv 1) pa_nil))))) pa_nil)))), ?_⟩)
  · obtain ⟨p, n, m, N, rfl, _⟩ := h
    rfl
  · obtain ⟨p, wide, most, N, rfl, w0, w1, hm, pu, hN, q⟩ := h
    simp only [tSeq, tAsg, tOp, tUn, tCB, tCons, tNil, tVar, tC, rI, rI0, rU, tRet, tRetN, gName, tIfS, tTest, tIf, tB, tNot, tAnd, tOr, tAndV, tOrV, tNotV, tCmp, t2I, tLst, tTup, tCall, tCalK0, tNext, tChain, tSl, tPart, tNoPart, tPar, tDrop, gSub, gTupT, gCons, gNil, rSetL, rIxl, rIxt, rSlt, rEq, rNe, L2.start, tLc_eq, tFor_eq, iTup, iList, iRng1, iRng2, iEnumT, tYes, pts_nil,
  List.map_cons, List.map_nil, List.length_cons, List.length_nil, List.replicate_succ, List.replicate_zero, Nat.reduceAdd, Nat.reduceSub, Nat.add_zero, Nat.zero_add, List.cons_append, List.nil_append, List.append_nil, List.getElem?_cons_zero, List.getElem?_cons_succ, List.set_cons_zero, List.set_cons_succ, wipe,
  Option.some.injEq, exists_eq_left', exists_eq_left, V.int.injEq, V.bl.injEq, V.str.injEq, V.ref.injEq, HO.lst.injEq, HO.tup.injEq, List.cons.injEq, and_true, true_and, reduceCtorEq, false_or, or_false, false_and, and_false, exists_false, exists_and_left, exists_eq, and_assoc, if_true, if_false, Bool.false_eq_true, decide_eq_true_eq, upd_same]
    refine ⟨p, _, N, rfl, by omega, by omega, pu, by omega, fun n H1 n0 n1 f1 pu1 => ?_⟩
    refine ⟨n, rfl, by omega, by omega, fun D hD => ?_⟩
    refine lc_draws (by omega) w0 (by omega) pu1 (by omega) hD (fun x H N1 N2 h => ?_) fun H2 ns hl hb f pu2 hys => ?_
    · simp only [tSeq, tAsg, tOp, tUn, tCB, tCons, tNil, tVar, tC, rI, rI0, rU, tRet, tRetN, gName, tIfS, tTest, tIf, tB, tNot, tAnd, tOr, tAndV, tOrV, tNotV, tCmp, t2I, tLst, tTup, tCall, tCalK0, tNext, tChain, tSl, tPart, tNoPart, tPar, tDrop, gSub, gTupT, gCons, gNil, rSetL, rIxl, rIxt, rSlt, rEq, rNe, L2.start, tLc_eq, tFor_eq, iTup, iList, iRng1, iRng2, iEnumT, tYes, pts_nil,
  List.map_cons, List.map_nil, List.length_cons, List.length_nil, List.replicate_succ, List.replicate_zero, Nat.reduceAdd, Nat.reduceSub, Nat.add_zero, Nat.zero_add, List.cons_append, List.nil_append, List.append_nil, List.getElem?_cons_zero, List.getElem?_cons_succ, List.set_cons_zero, List.set_cons_succ, wipe,
  Option.some.injEq, exists_eq_left', exists_eq_left, V.int.injEq, V.bl.injEq, V.str.injEq, V.ref.injEq, HO.lst.injEq, HO.tup.injEq, List.cons.injEq, and_true, true_and, reduceCtorEq, false_or, or_false, false_and, and_false, exists_false, exists_and_left, exists_eq, and_assoc, if_true, if_false, Bool.false_eq_true, decide_eq_true_eq, upd_same]
      exact h
    · refine ⟨_, hys, fun l hl2 => ?_⟩
      have nlp : p ∉ ([] : List Addr) := fun z => nomatch z
      exact q (.ref l) _ ns (by omega) hb ((f1.trans f).trans (Fx.new _ hl2)) ((pu2.fx (Fx.new [] hl2) nlp).mono (by omega)) (Rp.of_ints upd_same)
theorem ok_machine (z : Z mg) (c__law_draw : Cal P w K mg base CX0 "_law_draw" 2 ["_law_purse_here", "_law_out_of"] spDraw) {f : Addr} {fd : FuncData} (F : Fun K "_law_machine" "_law_machine" s__law_machine f fd) :
    FnOk P w K mg base CX0 3 f fd ["_law_purse_here", "_law_wide", "_law_most"] spMachine := by
  refine F.ok sc__law_machine (fun vs H Q E h => ?_) (fun cdv A outer s H vs Q E hr h => ⟨_, (pss_cons (ps_set (i := 3) sc__law_machine.nd rfl (.inr rfl) (pe_op op_add pe_int (pe_cal c__law_draw hr rfl pass0 (pa_cons (pv 0) (pa_cons (pv 2) pa_nil)))))
      (pss_cons (ps_set (i := 4) sc__law_machine.nd rfl (.inl rfl) (pe_callTy call_tupL (by rfl) z.tuple (by decide +kernel) (pa_cons (pe_lc (own := [("_law_state", 6)]) rfl sc__law_machine.nd (pi_range1 (by rfl) z.range (pa_cons (pv 3) pa_nil)) (blkOk_by (own := [("_law_state", 6)]) (N := ["_law_purse_here", "_law_wide", "_law_most", "_law_many", "_law_steps", "_law_few", "_law_state", "_law_value"]) (sc := (defScope s__law_machine)) (by decide +kernel)) (fun _ _ _ _ _ => (pg_name (i := 6) sc__law_machine.nd rfl (.inl rfl))) (fun _ _ _ _ _ => pts_nil) (fun _ _ _ _ _ => (pe_callTy call_tupL (by rfl) z.tuple (by decide +kernel) (pa_cons (pe_lc (own := [("_law_value", 7)]) rfl sc__law_machine.nd (pi_range1 (by rfl) z.range (pa_cons (pv 1) pa_nil)) (blkOk_by (own := [("_law_value", 7)]) (N := ["_law_purse_here", "_law_wide", "_law_most", "_law_many", "_law_steps", "_law_few", "_law_state", "_law_value"]) (by rfl)) (fun _ _ _ _ _ => (pg_name (i := 7) sc__law_machine.nd rfl (.inl rfl))) (fun _ _ _ _ _ => pts_nil) (fun _ _ _ _ _ => (pe_cal c__law_draw hr rfl pass0 (pa_cons (pv 0) (pa_cons (pv 3) pa_nil))))) pa_nil)))) pa_nil)))
      (pss_cons (ps_set (i := 5) sc__law_machine.nd rfl (.inr rfl) (pe_ix ix_l (pe_lst (pa_cons pe_int (pa_cons pe_int (pa_cons pe_int (pa_cons pe_int pa_nil))))) (pe_cal c__law_draw hr rfl pass0 (pa_cons (pv 0) (pa_cons pe_int pa_nil))) (fun _ _ => rfl)))
      (pss_one (ps_ret (pe_tup (pa_cons (pe_cal c__law_draw hr rfl pass0 (pa_cons (pv 0) (pa_cons (pv 3) pa_nil))) (pa_cons (pv 4) (pa_cons (pe_callTy call_tupL (by rfl) z.tuple (by decide +kernel) (pa_cons (pe_lc (own := [("_law_state", 6)]) rfl sc__law_machine.nd (pi_range1 (by rfl) z.range (pa_cons (pv 3) pa_nil)) (blkOk_by (own := [("_law_state", 6)]) (N := ["_law_purse_here", "_law_wide", "_law_most", "_law_many", "_law_steps", "_law_few", "_law_state", "_law_value"]) (sc := (defScope s__law_machine)) (by decide +kernel)) (fun _ _ _ _ _ => (pg_name (i := 6) sc__law_machine.nd rfl (.inl rfl))) (fun _ _ _ _ _ => pts_nil) (fun _ _ _ _ _ => (pe_cal c__law_draw hr rfl pass0 (pa_cons (pv 0) (pa_cons (pv 5) pa_nil))))) pa_nil)) pa_nil))))))))), ?_⟩)
  · obtain ⟨p, n, m, N, rfl, _⟩ := h
    rfl
  · obtain ⟨p, wide, most, N, rfl, w0, w1, m0, m1, pu, hN, q⟩ := h
    simp only [tSeq, tAsg, tOp, tUn, tCB, tCons, tNil, tVar, tC, rI, rI0, rU, tRet, tRetN, gName, tIfS, tTest, tIf, tB, tNot, tAnd, tOr, tAndV, tOrV, tNotV, tCmp, t2I, tLst, tTup, tCall, tCalK0, tNext, tChain, tSl, tPart, tNoPart, tPar, tDrop, gSub, gTupT, gCons, gNil, rSetL, rIxl, rIxt, rSlt, rEq, rNe, L2.start, tLc_eq, tFor_eq, iTup, iList, iRng1, iRng2, iEnumT, tYes, pts_nil,
  List.map_cons, List.map_nil, List.length_cons, List.length_nil, List.replicate_succ, List.replicate_zero, Nat.reduceAdd, Nat.reduceSub, Nat.add_zero, Nat.zero_add, List.cons_append, List.nil_append, List.append_nil, List.getElem?_cons_zero, List.getElem?_cons_succ, List.set_cons_zero, List.set_cons_succ, wipe,
  Option.some.injEq, exists_eq_left', exists_eq_left, V.int.injEq, V.bl.injEq, V.str.injEq, V.ref.injEq, HO.lst.injEq, HO.tup.injEq, List.cons.injEq, and_true, true_and, reduceCtorEq, false_or, or_false, false_and, and_false, exists_false, exists_and_left, exists_eq, and_assoc, if_true, if_false, Bool.false_eq_true, decide_eq_true_eq, upd_same]
    refine ⟨p, _, N, rfl, by omega, by omega, pu, by omega, fun n H1 n0 n1 f1 pu1 => ?_⟩
    simp only [tSeq, tAsg, tOp, tUn, tCB, tCons, tNil, tVar, tC, rI, rI0, rU, tRet, tRetN, gName, tIfS, tTest, tIf, tB, tNot, tAnd, tOr, tAndV, tOrV, tNotV, tCmp, t2I, tLst, tTup, tCall, tCalK0, tNext, tChain, tSl, tPart, tNoPart, tPar, tDrop, gSub, gTupT, gCons, gNil, rSetL, rIxl, rIxt, rSlt, rEq, rNe, L2.start, tLc_eq, tFor_eq, iTup, iList, iRng1, iRng2, iEnumT, tYes, pts_nil,
  List.map_cons, List.map_nil, List.length_cons, List.length_nil, List.replicate_succ, List.replicate_zero, Nat.reduceAdd, Nat.reduceSub, Nat.add_zero, Nat.zero_add, List.cons_append, List.nil_append, List.append_nil, List.getElem?_cons_zero, List.getElem?_cons_succ, List.set_cons_zero, List.set_cons_succ, wipe,
  Option.some.injEq, exists_eq_left', exists_eq_left, V.int.injEq, V.bl.injEq, V.str.injEq, V.ref.injEq, HO.lst.injEq, HO.tup.injEq, List.cons.injEq, and_true, true_and, reduceCtorEq, false_or, or_false, false_and, and_false, exists_false, exists_and_left, exists_eq, and_assoc, if_true, if_false, Bool.false_eq_true, decide_eq_true_eq, upd_same]
    have nn : (1 + n).toNat ≤ 30 := by omega
    have nz : ((1 + n).toNat : Int) = 1 + n := by omega
    refine ⟨by omega, by omega, fun D hD => ?_⟩
    have nDp : p ≠ D := fun z => pu1.at (z ▸ hD)
    refine lc_new (M := [p]) walk_range (by omega) hD (by simp; exact pu1.at)
      (fun i H ys => Pu (N + 1 + i * wide) H p ∧ ∃ rows : List (List Int), rows.length = i ∧ RpAll H ys (rows.map intsD) ∧ ∀ r ∈ rows, r.length = wide ∧ ∀ x ∈ r, 0 ≤ x ∧ x < 1 + n) ?_ ?_ ?_ ?_ ?_
    · rintro i H2 H3 ys _ f ⟨pu2, rows, hl, ra, hb⟩
      exact ⟨pu2.fx f (by rw [List.mem_singleton]; exact nDp), rows, hl, f.rpAll ra, hb⟩
    · exact ⟨pu1.mono (by omega), [], rfl, .nil, fun x hx => nomatch hx⟩
    · intros; trivial
    · rintro i x H2 H3 ys N1 N2 hi f ⟨pu2, rows, hl, ra, hb⟩ ⟨rfl, rfl⟩ hN1 hN2
      have hw : i * wide ≤ 30 * 4 := Nat.mul_le_mul (by omega) w1
      simp only [tSeq, tAsg, tOp, tUn, tCB, tCons, tNil, tVar, tC, rI, rI0, rU, tRet, tRetN, gName, tIfS, tTest, tIf, tB, tNot, tAnd, tOr, tAndV, tOrV, tNotV, tCmp, t2I, tLst, tTup, tCall, tCalK0, tNext, tChain, tSl, tPart, tNoPart, tPar, tDrop, gSub, gTupT, gCons, gNil, rSetL, rIxl, rIxt, rSlt, rEq, rNe, L2.start, tLc_eq, tFor_eq, iTup, iList, iRng1, iRng2, iEnumT, tYes, pts_nil,
  List.map_cons, List.map_nil, List.length_cons, List.length_nil, List.replicate_succ, List.replicate_zero, Nat.reduceAdd, Nat.reduceSub, Nat.add_zero, Nat.zero_add, List.cons_append, List.nil_append, List.append_nil, List.getElem?_cons_zero, List.getElem?_cons_succ, List.set_cons_zero, List.set_cons_succ, wipe,
  Option.some.injEq, exists_eq_left', exists_eq_left, V.int.injEq, V.bl.injEq, V.str.injEq, V.ref.injEq, HO.lst.injEq, HO.tup.injEq, List.cons.injEq, and_true, true_and, reduceCtorEq, false_or, or_false, false_and, and_false, exists_false, exists_and_left, exists_eq, and_assoc, if_true, if_false, Bool.false_eq_true, decide_eq_true_eq, upd_same]
      refine ⟨by omega, by omega, fun D2 hD2 => ?_⟩
      refine lc_draws (u := 1 + n) (by omega) (by omega) (by omega) pu2 (by omega) hD2 (fun x H N1 N2 h => ?_) fun H4 ns hl4 hb4 f4 pu4 hys => ?_
      · simp only [tSeq, tAsg, tOp, tUn, tCB, tCons, tNil, tVar, tC, rI, rI0, rU, tRet, tRetN, gName, tIfS, tTest, tIf, tB, tNot, tAnd, tOr, tAndV, tOrV, tNotV, tCmp, t2I, tLst, tTup, tCall, tCalK0, tNext, tChain, tSl, tPart, tNoPart, tPar, tDrop, gSub, gTupT, gCons, gNil, rSetL, rIxl, rIxt, rSlt, rEq, rNe, L2.start, tLc_eq, tFor_eq, iTup, iList, iRng1, iRng2, iEnumT, tYes, pts_nil,
  List.map_cons, List.map_nil, List.length_cons, List.length_nil, List.replicate_succ, List.replicate_zero, Nat.reduceAdd, Nat.reduceSub, Nat.add_zero, Nat.zero_add, List.cons_append, List.nil_append, List.append_nil, List.getElem?_cons_zero, List.getElem?_cons_succ, List.set_cons_zero, List.set_cons_succ, wipe,
  Option.some.injEq, exists_eq_left', exists_eq_left, V.int.injEq, V.bl.injEq, V.str.injEq, V.ref.injEq, HO.lst.injEq, HO.tup.injEq, List.cons.injEq, and_true, true_and, reduceCtorEq, false_or, or_false, false_and, and_false, exists_false, exists_and_left, exists_eq, and_assoc, if_true, if_false, Bool.false_eq_true, decide_eq_true_eq, upd_same]
        exact h
      · refine ⟨_, hys, fun l hl2 => hN1 _ _ (f4.trans (Fx.new _ hl2)) ⟨(pu4.fx (Fx.new [] hl2) (fun z => nomatch z)).mono ?_, rows ++ [ns], ?_, ?_, ?_⟩⟩
        · rw [Nat.add_mul]; omega
        · rw [List.length_append, hl]; rfl
        · rw [List.map_append]
          exact ((f4.trans (Fx.new _ hl2)).rpAll ra).snoc (Rp.of_ints upd_same)
        · intro r hr2
          rcases List.mem_append.mp hr2 with hr2 | hr2
          · exact hb r hr2
          · rw [List.mem_singleton.mp hr2]
            exact ⟨by omega, hb4⟩
    · rintro H2 ys f ⟨pu2, rows, hl, ra, hb⟩ hys
      have hw : (1 + n).toNat * wide ≤ 30 * 4 := Nat.mul_le_mul (by omega) w1
      refine ⟨_, hys, fun l hl2 => ⟨by decide, fun p1 hp1 => ?_⟩⟩
      have f3 : Fx [p] H2 (upd (upd H2 l (.tup ys)) p1 (.lst [.int 2, .int 3, .int 1, .int 100])) := (Fx.new _ hl2).trans (Fx.new _ hp1)
      have g3 : Fx [] H2 (upd (upd H2 l (.tup ys)) p1 (.lst [.int 2, .int 3, .int 1, .int 100])) := (Fx.new _ hl2).trans (Fx.new _ hp1)
      generalize hH3 : upd (upd H2 l (.tup ys)) p1 (.lst [.int 2, .int 3, .int 1, .int 100]) = H3 at f3 g3
      have el : H3 l = some (.tup ys) := by
        rw [← hH3, upd_ne (ne_of_none upd_same hp1), upd_same]
      have ep1 : H3 p1 = some (.lst [.int 2, .int 3, .int 1, .int 100]) := by rw [← hH3, upd_same]
      have np : p ∉ ([] : List Addr) := fun z => nomatch z
      have pu3 := pu2.fx g3 np
      have npp : p1 ∉ [p] := by
        rw [List.mem_singleton]
        rintro rfl
        exact (pu2.fx (Fx.new [] hl2) np).at hp1
      refine ⟨p, 4, _, rfl, by decide, by decide, pu3, by omega, fun k H4 k0 k1 f4 pu4 => ?_⟩
      refine ⟨_, k, rfl, f4.keep p1 _ npp ep1, ?_⟩
      obtain ⟨few, hat, hf0, hf1⟩ : ∃ few : Int, atI [V.int 2, V.int 3, V.int 1, V.int 100] k = some (.int few) ∧ 0 < few ∧ few ≤ 100 := by
        have : k = 0 ∨ k = 1 ∨ k = 2 ∨ k = 3 := by omega
        rcases this with rfl | rfl | rfl | rfl
        · exact ⟨2, rfl, by decide, by decide⟩
        · exact ⟨3, rfl, by decide, by decide⟩
        · exact ⟨1, rfl, by decide, by decide⟩
        · exact ⟨100, rfl, by decide, by decide⟩
      refine ⟨_, hat, ?_⟩
      refine ⟨p, _, _, rfl, by omega, by omega, pu4, by omega, fun st H5 s0 s1 f5 pu5 => ?_⟩
      refine ⟨by omega, by omega, fun D2 hD2 => ?_⟩
      refine lc_draws (by omega) hf0 (by omega) pu5 (by omega) hD2 (fun x H N1 N2 h => ?_) fun H6 ns hl6 hb6 f6 pu6 hys6 => ?_
      · simp only [tSeq, tAsg, tOp, tUn, tCB, tCons, tNil, tVar, tC, rI, rI0, rU, tRet, tRetN, gName, tIfS, tTest, tIf, tB, tNot, tAnd, tOr, tAndV, tOrV, tNotV, tCmp, t2I, tLst, tTup, tCall, tCalK0, tNext, tChain, tSl, tPart, tNoPart, tPar, tDrop, gSub, gTupT, gCons, gNil, rSetL, rIxl, rIxt, rSlt, rEq, rNe, L2.start, tLc_eq, tFor_eq, iTup, iList, iRng1, iRng2, iEnumT, tYes, pts_nil,
  List.map_cons, List.map_nil, List.length_cons, List.length_nil, List.replicate_succ, List.replicate_zero, Nat.reduceAdd, Nat.reduceSub, Nat.add_zero, Nat.zero_add, List.cons_append, List.nil_append, List.append_nil, List.getElem?_cons_zero, List.getElem?_cons_succ, List.set_cons_zero, List.set_cons_succ, wipe,
  Option.some.injEq, exists_eq_left', exists_eq_left, V.int.injEq, V.bl.injEq, V.str.injEq, V.ref.injEq, HO.lst.injEq, HO.tup.injEq, List.cons.injEq, and_true, true_and, reduceCtorEq, false_or, or_false, false_and, and_false, exists_false, exists_and_left, exists_eq, and_assoc, if_true, if_false, Bool.false_eq_true, decide_eq_true_eq, upd_same]
        exact h
      · refine ⟨_, hys6, fun l6 hl6' => ⟨by decide, fun p7 hp7 => ?_⟩⟩
        have fa : Fx [p] H3 H6 := (f4.trans f5).trans f6
        have fb : Fx [] H6 (upd (upd H6 l6 (.tup (ns.map V.int))) p7 (.tup [.int st, .ref l, .ref l6])) := (Fx.new _ hl6').trans (Fx.new _ hp7)
        have fc : Fx [p] H3 (upd (upd H6 l6 (.tup (ns.map V.int))) p7 (.tup [.int st, .ref l, .ref l6])) := fa.trans fb.any
        refine q _ _ ⟨st, rows, ns⟩ ⟨by show 0 < rows.length; omega, by show rows.length ≤ 1000; omega, fun r hr2 => ?_, by show ns.length = rows.length; omega, fun x hx => ?_, s0, by show st < (rows.length : Int); omega⟩ (by show rows.length ≤ most; omega)
          ((f1.trans f).trans (f3.trans fc)) ((pu6.fx fb np).mono (by omega)) ?_
        · obtain ⟨h1, h2⟩ := hb r hr2
          refine ⟨h1, fun x hx => ?_⟩
          obtain ⟨x0, x1⟩ := h2 x hx
          exact ⟨x0, by show x < (rows.length : Int); omega⟩
        · obtain ⟨x0, x1⟩ := hb6 x hx
          exact ⟨x0, by omega⟩
        · refine .tup upd_same (.cons (.int st) (.cons (.tup (fc.tup el) ((f3.trans fc).rpAll ra)) (.cons (Rp.of_ints ?_) .nil)))
          rw [upd_ne (ne_of_none upd_same hp7), upd_same]
theorem ok_is_integer (z : Z mg) {f : Addr} {fd : FuncData} (F : Fun K "is_integer" "is_integer" s_is_integer f fd) : FnOk P w K mg base CX0 1 f fd ["thing", "low", "high"] spIsInteger := by
  refine F.ok sc_is_integer (fun vs H Q E h => ?_) (fun cdv A outer s H vs Q E hr h => ⟨_, (pss_one (ps_ret (pe_and (pe_callB (call_isiE K rfl) (by rfl) z.isinstance (by decide +kernel) (pa_cons (pv 0) (pa_cons (pe_bltn (v := .ty "int") (by rfl) z.int (by decide +kernel) rfl) pa_nil))) (pe_and (pe_not (pe_callB (call_isiE K rfl) (by rfl) z.isinstance (by decide +kernel) (pa_cons (pv 0) (pa_cons (pe_bltn (v := .ty "bool") (by rfl) z.bool (by decide +kernel) rfl) pa_nil)))) (pe_one (pe_chain op_le op_le (pv 1) (pv 0) (pv 2))))))), ?_⟩)
  · obtain ⟨v, d, lo, hi, rfl, _⟩ := h
    rfl
  · obtain ⟨v, d, lo, hi, rfl, rp, q⟩ := h
    simp only [tSeq, tAsg, tOp, tUn, tCB, tCons, tNil, tVar, tC, rI, rI0, rU, tRet, tRetN, gName, tIfS, tTest, tIf, tB, tNot, tAnd, tOr, tAndV, tOrV, tNotV, tCmp, t2I, tLst, tTup, tCall, tCalK0, tNext, tChain, tSl, tPart, tNoPart, tPar, tDrop, gSub, gTupT, gCons, gNil, rSetL, rIxl, rIxt, rSlt, rEq, rNe, L2.start, tLc_eq, tFor_eq, iTup, iList, iRng1, iRng2, iEnumT, tYes, pts_nil,
  List.map_cons, List.map_nil, List.length_cons, List.length_nil, List.replicate_succ, List.replicate_zero, Nat.reduceAdd, Nat.reduceSub, Nat.add_zero, Nat.zero_add, List.cons_append, List.nil_append, List.append_nil, List.getElem?_cons_zero, List.getElem?_cons_succ, List.set_cons_zero, List.set_cons_succ, wipe,
  Option.some.injEq, exists_eq_left', exists_eq_left, V.int.injEq, V.bl.injEq, V.str.injEq, V.ref.injEq, HO.lst.injEq, HO.tup.injEq, List.cons.injEq, and_true, true_and, reduceCtorEq, false_or, or_false, false_and, and_false, exists_false, exists_and_left, exists_eq, and_assoc, if_true, if_false, Bool.false_eq_true, decide_eq_true_eq, upd_same]
    refine isi_rp rp (by decide) ?_
    rw [isTy_int]
    refine ⟨_, rfl, ?_⟩
    cases d with
    | int i =>
      have := rp.int_inv
      subst this
      simp only [tSeq, tAsg, tOp, tUn, tCB, tCons, tNil, tVar, tC, rI, rI0, rU, tRet, tRetN, gName, tIfS, tTest, tIf, tB, tNot, tAnd, tOr, tAndV, tOrV, tNotV, tCmp, t2I, tLst, tTup, tCall, tCalK0, tNext, tChain, tSl, tPart, tNoPart, tPar, tDrop, gSub, gTupT, gCons, gNil, rSetL, rIxl, rIxt, rSlt, rEq, rNe, L2.start, tLc_eq, tFor_eq, iTup, iList, iRng1, iRng2, iEnumT, tYes, pts_nil,
  List.map_cons, List.map_nil, List.length_cons, List.length_nil, List.replicate_succ, List.replicate_zero, Nat.reduceAdd, Nat.reduceSub, Nat.add_zero, Nat.zero_add, List.cons_append, List.nil_append, List.append_nil, List.getElem?_cons_zero, List.getElem?_cons_succ, List.set_cons_zero, List.set_cons_succ, wipe,
  Option.some.injEq, exists_eq_left', exists_eq_left, V.int.injEq, V.bl.injEq, V.str.injEq, V.ref.injEq, HO.lst.injEq, HO.tup.injEq, List.cons.injEq, and_true, true_and, reduceCtorEq, false_or, or_false, false_and, and_false, exists_false, exists_and_left, exists_eq, and_assoc, if_true, if_false, Bool.false_eq_true, decide_eq_true_eq, upd_same]
      refine isi_rp rp (by decide) ?_
      simp only [tSeq, tAsg, tOp, tUn, tCB, tCons, tNil, tVar, tC, rI, rI0, rU, tRet, tRetN, gName, tIfS, tTest, tIf, tB, tNot, tAnd, tOr, tAndV, tOrV, tNotV, tCmp, t2I, tLst, tTup, tCall, tCalK0, tNext, tChain, tSl, tPart, tNoPart, tPar, tDrop, gSub, gTupT, gCons, gNil, rSetL, rIxl, rIxt, rSlt, rEq, rNe, L2.start, tLc_eq, tFor_eq, iTup, iList, iRng1, iRng2, iEnumT, tYes, pts_nil,
  List.map_cons, List.map_nil, List.length_cons, List.length_nil, List.replicate_succ, List.replicate_zero, Nat.reduceAdd, Nat.reduceSub, Nat.add_zero, Nat.zero_add, List.cons_append, List.nil_append, List.append_nil, List.getElem?_cons_zero, List.getElem?_cons_succ, List.set_cons_zero, List.set_cons_succ, wipe,
  Option.some.injEq, exists_eq_left', exists_eq_left, V.int.injEq, V.bl.injEq, V.str.injEq, V.ref.injEq, HO.lst.injEq, HO.tup.injEq, List.cons.injEq, and_true, true_and, reduceCtorEq, false_or, or_false, false_and, and_false, exists_false, exists_and_left, exists_eq, and_assoc, if_true, if_false, Bool.false_eq_true, decide_eq_true_eq, upd_same, isTy_bool]
      rw [if_pos (by rfl)]
      unfold isInteger at q
      by_cases h : lo ≤ i
      · rw [if_pos h]
        simpa [h] using q
      · rw [if_neg h]
        simpa [h] using q
    | bl b =>
      simp only [tSeq, tAsg, tOp, tUn, tCB, tCons, tNil, tVar, tC, rI, rI0, rU, tRet, tRetN, gName, tIfS, tTest, tIf, tB, tNot, tAnd, tOr, tAndV, tOrV, tNotV, tCmp, t2I, tLst, tTup, tCall, tCalK0, tNext, tChain, tSl, tPart, tNoPart, tPar, tDrop, gSub, gTupT, gCons, gNil, rSetL, rIxl, rIxt, rSlt, rEq, rNe, L2.start, tLc_eq, tFor_eq, iTup, iList, iRng1, iRng2, iEnumT, tYes, pts_nil,
  List.map_cons, List.map_nil, List.length_cons, List.length_nil, List.replicate_succ, List.replicate_zero, Nat.reduceAdd, Nat.reduceSub, Nat.add_zero, Nat.zero_add, List.cons_append, List.nil_append, List.append_nil, List.getElem?_cons_zero, List.getElem?_cons_succ, List.set_cons_zero, List.set_cons_succ, wipe,
  Option.some.injEq, exists_eq_left', exists_eq_left, V.int.injEq, V.bl.injEq, V.str.injEq, V.ref.injEq, HO.lst.injEq, HO.tup.injEq, List.cons.injEq, and_true, true_and, reduceCtorEq, false_or, or_false, false_and, and_false, exists_false, exists_and_left, exists_eq, and_assoc, if_true, if_false, Bool.false_eq_true, decide_eq_true_eq, upd_same]
      refine isi_rp rp (by decide) ?_
      simp only [tSeq, tAsg, tOp, tUn, tCB, tCons, tNil, tVar, tC, rI, rI0, rU, tRet, tRetN, gName, tIfS, tTest, tIf, tB, tNot, tAnd, tOr, tAndV, tOrV, tNotV, tCmp, t2I, tLst, tTup, tCall, tCalK0, tNext, tChain, tSl, tPart, tNoPart, tPar, tDrop, gSub, gTupT, gCons, gNil, rSetL, rIxl, rIxt, rSlt, rEq, rNe, L2.start, tLc_eq, tFor_eq, iTup, iList, iRng1, iRng2, iEnumT, tYes, pts_nil,
  List.map_cons, List.map_nil, List.length_cons, List.length_nil, List.replicate_succ, List.replicate_zero, Nat.reduceAdd, Nat.reduceSub, Nat.add_zero, Nat.zero_add, List.cons_append, List.nil_append, List.append_nil, List.getElem?_cons_zero, List.getElem?_cons_succ, List.set_cons_zero, List.set_cons_succ, wipe,
  Option.some.injEq, exists_eq_left', exists_eq_left, V.int.injEq, V.bl.injEq, V.str.injEq, V.ref.injEq, HO.lst.injEq, HO.tup.injEq, List.cons.injEq, and_true, true_and, reduceCtorEq, false_or, or_false, false_and, and_false, exists_false, exists_and_left, exists_eq, and_assoc, if_true, if_false, Bool.false_eq_true, decide_eq_true_eq, upd_same, isTy_bool]
      exact q
    | _ => simp only [tSeq, tAsg, tOp, tUn, tCB, tCons, tNil, tVar, tC, rI, rI0, rU, tRet, tRetN, gName, tIfS, tTest, tIf, tB, tNot, tAnd, tOr, tAndV, tOrV, tNotV, tCmp, t2I, tLst, tTup, tCall, tCalK0, tNext, tChain, tSl, tPart, tNoPart, tPar, tDrop, gSub, gTupT, gCons, gNil, rSetL, rIxl, rIxt, rSlt, rEq, rNe, L2.start, tLc_eq, tFor_eq, iTup, iList, iRng1, iRng2, iEnumT, tYes, pts_nil,
  List.map_cons, List.map_nil, List.length_cons, List.length_nil, List.replicate_succ, List.replicate_zero, Nat.reduceAdd, Nat.reduceSub, Nat.add_zero, Nat.zero_add, List.cons_append, List.nil_append, List.append_nil, List.getElem?_cons_zero, List.getElem?_cons_succ, List.set_cons_zero, List.set_cons_succ, wipe,
  Option.some.injEq, exists_eq_left', exists_eq_left, V.int.injEq, V.bl.injEq, V.str.injEq, V.ref.injEq, HO.lst.injEq, HO.tup.injEq, List.cons.injEq, and_true, true_and, reduceCtorEq, false_or, or_false, false_and, and_false, exists_false, exists_and_left, exists_eq, and_assoc, if_true, if_false, Bool.false_eq_true, decide_eq_true_eq, upd_same]; exact q
theorem ok_is_size (z : Z mg) (c_is_integer : Cal P w K mg base CX0 "is_integer" 1 ["thing", "low", "high"] spIsInteger) {f : Addr} {fd : FuncData} (F : Fun K "is_size" "is_size" s_is_size f fd) : FnOk P w K mg base CX0 2 f fd ["thing"] spIsSize := by
  refine F.ok sc_is_size (fun vs H Q E h => ?_) (fun cdv A outer s H vs Q E hr h => ⟨_, (pss_one (ps_ret (pe_cal c_is_integer hr rfl pass0 (pa_cons (pv 0) (pa_cons pe_int (pa_cons pe_int pa_nil)))))), ?_⟩)
  · obtain ⟨v, d, rfl, _⟩ := h
    rfl
  · obtain ⟨v, d, rfl, rp, q⟩ := h
    simp only [tSeq, tAsg, tOp, tUn, tCB, tCons, tNil, tVar, tC, rI, rI0, rU, tRet, tRetN, gName, tIfS, tTest, tIf, tB, tNot, tAnd, tOr, tAndV, tOrV, tNotV, tCmp, t2I, tLst, tTup, tCall, tCalK0, tNext, tChain, tSl, tPart, tNoPart, tPar, tDrop, gSub, gTupT, gCons, gNil, rSetL, rIxl, rIxt, rSlt, rEq, rNe, L2.start, tLc_eq, tFor_eq, iTup, iList, iRng1, iRng2, iEnumT, tYes, pts_nil,
  List.map_cons, List.map_nil, List.length_cons, List.length_nil, List.replicate_succ, List.replicate_zero, Nat.reduceAdd, Nat.reduceSub, Nat.add_zero, Nat.zero_add, List.cons_append, List.nil_append, List.append_nil, List.getElem?_cons_zero, List.getElem?_cons_succ, List.set_cons_zero, List.set_cons_succ, wipe,
  Option.some.injEq, exists_eq_left', exists_eq_left, V.int.injEq, V.bl.injEq, V.str.injEq, V.ref.injEq, HO.lst.injEq, HO.tup.injEq, List.cons.injEq, and_true, true_and, reduceCtorEq, false_or, or_false, false_and, and_false, exists_false, exists_and_left, exists_eq, and_assoc, if_true, if_false, Bool.false_eq_true, decide_eq_true_eq, upd_same]
    exact ⟨v, d, 1, 4, rfl, rp, q⟩
theorem ok_is_row (z : Z mg) (c_is_integer : Cal P w K mg base CX0 "is_integer" 1 ["thing", "low", "high"] spIsInteger) {f : Addr} {fd : FuncData} (F : Fun K "is_row" "is_row" s_is_row f fd) : FnOk P w K mg base CX0 2 f fd ["thing", "size"] spIsRow := by
  refine F.ok sc_is_row (fun vs H Q E h => ?_) (fun cdv A outer s H vs Q E hr h => ⟨_, (pss_one (ps_ret (pe_and (pe_callB (call_isiE K rfl) (by rfl) z.isinstance (by decide +kernel) (pa_cons (pv 0) (pa_cons (pe_bltn (v := .ty "tuple") (by rfl) z.tuple (by decide +kernel) rfl) pa_nil))) (pe_one (pe_callB (cr_all rfl) (by rfl) z.all (by decide +kernel) (pa_cons (pe_lc (own := [("value", 2)]) rfl sc_is_row.nd (pi_tup (pv 0)) (blkOk_by (own := [("value", 2)]) (N := ["thing", "size", "value"]) (sc := (defScope s_is_row)) (by decide +kernel)) (fun _ _ _ _ _ => (pg_name (i := 2) sc_is_row.nd rfl (.inl rfl))) (fun _ _ _ _ _ => pts_nil) (fun _ _ _ _ _ => (pe_cal c_is_integer hr rfl pass0 (pa_cons (pv 2) (pa_cons pe_int (pa_cons (pe_op op_sub (pv 1) pe_int) pa_nil)))))) pa_nil)))))), ?_⟩)
  · obtain ⟨v, d, n, rfl, _⟩ := h
    rfl
  · obtain ⟨v, d, n, rfl, rp, sh, q⟩ := h
    simp only [tSeq, tAsg, tOp, tUn, tCB, tCons, tNil, tVar, tC, rI, rI0, rU, tRet, tRetN, gName, tIfS, tTest, tIf, tB, tNot, tAnd, tOr, tAndV, tOrV, tNotV, tCmp, t2I, tLst, tTup, tCall, tCalK0, tNext, tChain, tSl, tPart, tNoPart, tPar, tDrop, gSub, gTupT, gCons, gNil, rSetL, rIxl, rIxt, rSlt, rEq, rNe, L2.start, tLc_eq, tFor_eq, iTup, iList, iRng1, iRng2, iEnumT, tYes, pts_nil,
  List.map_cons, List.map_nil, List.length_cons, List.length_nil, List.replicate_succ, List.replicate_zero, Nat.reduceAdd, Nat.reduceSub, Nat.add_zero, Nat.zero_add, List.cons_append, List.nil_append, List.append_nil, List.getElem?_cons_zero, List.getElem?_cons_succ, List.set_cons_zero, List.set_cons_succ, wipe,
  Option.some.injEq, exists_eq_left', exists_eq_left, V.int.injEq, V.bl.injEq, V.str.injEq, V.ref.injEq, HO.lst.injEq, HO.tup.injEq, List.cons.injEq, and_true, true_and, reduceCtorEq, false_or, or_false, false_and, and_false, exists_false, exists_and_left, exists_eq, and_assoc, if_true, if_false, Bool.false_eq_true, decide_eq_true_eq, upd_same]
    refine isi_rp rp (by decide) ?_
    rw [isTy_tuple]
    refine ⟨_, rfl, ?_⟩
    cases d with
    | tup ds =>
      obtain ⟨a, xs, rfl, e, r⟩ := rp.tup_inv
      simp only [tSeq, tAsg, tOp, tUn, tCB, tCons, tNil, tVar, tC, rI, rI0, rU, tRet, tRetN, gName, tIfS, tTest, tIf, tB, tNot, tAnd, tOr, tAndV, tOrV, tNotV, tCmp, t2I, tLst, tTup, tCall, tCalK0, tNext, tChain, tSl, tPart, tNoPart, tPar, tDrop, gSub, gTupT, gCons, gNil, rSetL, rIxl, rIxt, rSlt, rEq, rNe, L2.start, tLc_eq, tFor_eq, iTup, iList, iRng1, iRng2, iEnumT, tYes, pts_nil,
  List.map_cons, List.map_nil, List.length_cons, List.length_nil, List.replicate_succ, List.replicate_zero, Nat.reduceAdd, Nat.reduceSub, Nat.add_zero, Nat.zero_add, List.cons_append, List.nil_append, List.append_nil, List.getElem?_cons_zero, List.getElem?_cons_succ, List.set_cons_zero, List.set_cons_succ, wipe,
  Option.some.injEq, exists_eq_left', exists_eq_left, V.int.injEq, V.bl.injEq, V.str.injEq, V.ref.injEq, HO.lst.injEq, HO.tup.injEq, List.cons.injEq, and_true, true_and, reduceCtorEq, false_or, or_false, false_and, and_false, exists_false, exists_and_left, exists_eq, and_assoc, if_true, if_false, Bool.false_eq_true, decide_eq_true_eq, upd_same]
      refine ⟨⟨xs, SqT.of e⟩, fun D hD => ?_⟩
      refine lc_bools (fun x => isInteger x 0 (n - 1)) e r (by rw [r.len]; exact sh) hD (fun x d H2 N1 N2 hd rx hN => ?_) fun H2 fx hy => ?_
      · simp only [tSeq, tAsg, tOp, tUn, tCB, tCons, tNil, tVar, tC, rI, rI0, rU, tRet, tRetN, gName, tIfS, tTest, tIf, tB, tNot, tAnd, tOr, tAndV, tOrV, tNotV, tCmp, t2I, tLst, tTup, tCall, tCalK0, tNext, tChain, tSl, tPart, tNoPart, tPar, tDrop, gSub, gTupT, gCons, gNil, rSetL, rIxl, rIxt, rSlt, rEq, rNe, L2.start, tLc_eq, tFor_eq, iTup, iList, iRng1, iRng2, iEnumT, tYes, pts_nil,
  List.map_cons, List.map_nil, List.length_cons, List.length_nil, List.replicate_succ, List.replicate_zero, Nat.reduceAdd, Nat.reduceSub, Nat.add_zero, Nat.zero_add, List.cons_append, List.nil_append, List.append_nil, List.getElem?_cons_zero, List.getElem?_cons_succ, List.set_cons_zero, List.set_cons_succ, wipe,
  Option.some.injEq, exists_eq_left', exists_eq_left, V.int.injEq, V.bl.injEq, V.str.injEq, V.ref.injEq, HO.lst.injEq, HO.tup.injEq, List.cons.injEq, and_true, true_and, reduceCtorEq, false_or, or_false, false_and, and_false, exists_false, exists_and_left, exists_eq, and_assoc, if_true, if_false, Bool.false_eq_true, decide_eq_true_eq, upd_same]
        exact ⟨x, d, 0, _, rfl, rx, hN _ (Fx.refl _ _)⟩
      · refine ⟨D, _, rfl, SqL.of hy, ?_⟩
        have := q H2 fx
        rw [List.all_map]
        exact this
    | _ => simp only [tSeq, tAsg, tOp, tUn, tCB, tCons, tNil, tVar, tC, rI, rI0, rU, tRet, tRetN, gName, tIfS, tTest, tIf, tB, tNot, tAnd, tOr, tAndV, tOrV, tNotV, tCmp, t2I, tLst, tTup, tCall, tCalK0, tNext, tChain, tSl, tPart, tNoPart, tPar, tDrop, gSub, gTupT, gCons, gNil, rSetL, rIxl, rIxt, rSlt, rEq, rNe, L2.start, tLc_eq, tFor_eq, iTup, iList, iRng1, iRng2, iEnumT, tYes, pts_nil,
  List.map_cons, List.map_nil, List.length_cons, List.length_nil, List.replicate_succ, List.replicate_zero, Nat.reduceAdd, Nat.reduceSub, Nat.add_zero, Nat.zero_add, List.cons_append, List.nil_append, List.append_nil, List.getElem?_cons_zero, List.getElem?_cons_succ, List.set_cons_zero, List.set_cons_succ, wipe,
  Option.some.injEq, exists_eq_left', exists_eq_left, V.int.injEq, V.bl.injEq, V.str.injEq, V.ref.injEq, HO.lst.injEq, HO.tup.injEq, List.cons.injEq, and_true, true_and, reduceCtorEq, false_or, or_false, false_and, and_false, exists_false, exists_and_left, exists_eq, and_assoc, if_true, if_false, Bool.false_eq_true, decide_eq_true_eq, upd_same]; exact q _ (Fx.refl _ _)
end
end K01
namespace K01
open PySem PySem.Spec PyProof.Rows L2 LT
section
variable {P : Program} {w : World} {K : PySem.W.Frag} {mg : Str → Option Value} {base : Heap}
def nonE (d : LT.D) : Bool := match d with
  | .tup (_ :: _) => true
  | _ => false
def isForm (d : LT.D) : Bool := match d with
  | .tup ds => decide (ds.length = 3) && (ds.drop 1).all nonE
  | _ => false
def spForm : Sp := fun vs H Q _ => ∃ v d, vs = [v] ∧ Rp H v d ∧ ∀ H', Fx [] H H' → Q (.bl (isForm d)) H'
theorem ok_has_machine_form (z : Z mg) {f : Addr} {fd : FuncData} (F : Fun K "has_machine_form" "has_machine_form" s_has_machine_form f fd) : FnOk P w K mg base CX0 1 f fd ["thing"] spForm := by
  refine F.ok sc_has_machine_form (fun vs H Q E h => ?_) (fun cdv A outer s H vs Q E hr h => ⟨_, (pss_cons (ps_if (PW.pt (pw_or (pt_not (pt_val (pe_callB (call_isiE K rfl) (by rfl) z.isinstance (by decide +kernel) (pa_cons (pv 0) (pa_cons (pe_bltn (v := .ty "tuple") (by rfl) z.tuple (by decide +kernel) rfl) pa_nil))))) (pw_or1 (pt_cmpR op_ne (pe_callB call_lenT (by rfl) z.len (by decide +kernel) (pa_cons (pv 0) pa_nil)) pe_int (nomark _))))) (pss_one (ps_ret pe_bl)) pss_nil)
      (pss_one (ps_ret (pe_callB (cr_all rfl) (by rfl) z.all (by decide +kernel) (pa_cons (pe_lc (own := [("part", 1)]) rfl sc_has_machine_form.nd (pi_tup (pe_slice sl_t (pv 0) (po_some pe_int) po_none)) (blkOk_by (own := [("part", 1)]) (N := ["thing", "part"]) (sc := (defScope s_has_machine_form)) (by decide +kernel)) (fun _ _ _ _ _ => (pg_name (i := 1) sc_has_machine_form.nd rfl (.inl rfl))) (fun _ _ _ _ _ => pts_nil) (fun _ _ _ _ _ => (pe_and (pe_callB (call_isiE K rfl) (by rfl) z.isinstance (by decide +kernel) (pa_cons (pv 1) (pa_cons (pe_bltn (v := .ty "tuple") (by rfl) z.tuple (by decide +kernel) rfl) pa_nil))) (pe_one (pe_cmpR op_gt (pe_callB call_lenT (by rfl) z.len (by decide +kernel) (pa_cons (pv 1) pa_nil)) pe_int (nomark _)))))) pa_nil))))), ?_⟩)
  · obtain ⟨v, d, rfl, _⟩ := h
    rfl
  · obtain ⟨v, d, rfl, rp, q⟩ := h
    simp only [tSeq, tAsg, tOp, tUn, tCB, tCons, tNil, tVar, tC, rI, rI0, rU, tRet, tRetN, gName, tIfS, tTest, tIf, tB, tNot, tAnd, tOr, tAndV, tOrV, tNotV, tCmp, t2I, tLst, tTup, tCall, tCalK0, tNext, tChain, tSl, tPart, tNoPart, tPar, tDrop, gSub, gTupT, gCons, gNil, rSetL, rIxl, rIxt, rSlt, rEq, rNe, L2.start, tLc_eq, tFor_eq, iTup, iList, iRng1, iRng2, iEnumT, tYes, pts_nil,
  List.map_cons, List.map_nil, List.length_cons, List.length_nil, List.replicate_succ, List.replicate_zero, Nat.reduceAdd, Nat.reduceSub, Nat.add_zero, Nat.zero_add, List.cons_append, List.nil_append, List.append_nil, List.getElem?_cons_zero, List.getElem?_cons_succ, List.set_cons_zero, List.set_cons_succ, wipe,
  Option.some.injEq, exists_eq_left', exists_eq_left, V.int.injEq, V.bl.injEq, V.str.injEq, V.ref.injEq, HO.lst.injEq, HO.tup.injEq, List.cons.injEq, and_true, true_and, reduceCtorEq, false_or, or_false, false_and, and_false, exists_false, exists_and_left, exists_eq, and_assoc, if_true, if_false, Bool.false_eq_true, decide_eq_true_eq, upd_same]
    refine isi_rp rp (by decide) ?_
    rw [isTy_tuple]
    refine ⟨_, rfl, ?_⟩
    cases d with
    | tup ds =>
      obtain ⟨a, xs, rfl, e, r⟩ := rp.tup_inv
      have hl := r.len
      simp only [tSeq, tAsg, tOp, tUn, tCB, tCons, tNil, tVar, tC, rI, rI0, rU, tRet, tRetN, gName, tIfS, tTest, tIf, tB, tNot, tAnd, tOr, tAndV, tOrV, tNotV, tCmp, t2I, tLst, tTup, tCall, tCalK0, tNext, tChain, tSl, tPart, tNoPart, tPar, tDrop, gSub, gTupT, gCons, gNil, rSetL, rIxl, rIxt, rSlt, rEq, rNe, L2.start, tLc_eq, tFor_eq, iTup, iList, iRng1, iRng2, iEnumT, tYes, pts_nil,
  List.map_cons, List.map_nil, List.length_cons, List.length_nil, List.replicate_succ, List.replicate_zero, Nat.reduceAdd, Nat.reduceSub, Nat.add_zero, Nat.zero_add, List.cons_append, List.nil_append, List.append_nil, List.getElem?_cons_zero, List.getElem?_cons_succ, List.set_cons_zero, List.set_cons_succ, wipe,
  Option.some.injEq, exists_eq_left', exists_eq_left, V.int.injEq, V.bl.injEq, V.str.injEq, V.ref.injEq, HO.lst.injEq, HO.tup.injEq, List.cons.injEq, and_true, true_and, reduceCtorEq, false_or, or_false, false_and, and_false, exists_false, exists_and_left, exists_eq, and_assoc, if_true, if_false, Bool.false_eq_true, decide_eq_true_eq, upd_same, e]
      rw [if_neg (by decide)]
      refine ⟨rfl, ?_⟩
      by_cases h3 : ds.length = 3
      · rw [if_neg (by simp [hl, h3])]
        match ds, h3, r, q with
        | [d1, d2, d3], _, .cons (v := x1) r1 (.cons (v := x2) r2 (.cons (v := x3) r3 .nil)), q =>
        refine ⟨fun z => absurd z.1 (by show ¬ HT.sIx 3 0 (some 1) = 0; decide), fun _ p hp => ⟨⟨_, SqT.of upd_same⟩, fun D hD => ?_⟩⟩
        have f1 : Fx [] H (upd H p (.tup [x2, x3])) := Fx.new _ hp
        refine lc_bools (xs := [x2, x3]) (ds := [d2, d3]) nonE upd_same (f1.rpAll (.cons r2 (.cons r3 .nil))) (by show 2 ≤ 1000000; decide) hD (fun x d H2 N1 N2 hd rx hN => ?_) fun H2 fx hy => ?_
        · simp only [tSeq, tAsg, tOp, tUn, tCB, tCons, tNil, tVar, tC, rI, rI0, rU, tRet, tRetN, gName, tIfS, tTest, tIf, tB, tNot, tAnd, tOr, tAndV, tOrV, tNotV, tCmp, t2I, tLst, tTup, tCall, tCalK0, tNext, tChain, tSl, tPart, tNoPart, tPar, tDrop, gSub, gTupT, gCons, gNil, rSetL, rIxl, rIxt, rSlt, rEq, rNe, L2.start, tLc_eq, tFor_eq, iTup, iList, iRng1, iRng2, iEnumT, tYes, pts_nil,
  List.map_cons, List.map_nil, List.length_cons, List.length_nil, List.replicate_succ, List.replicate_zero, Nat.reduceAdd, Nat.reduceSub, Nat.add_zero, Nat.zero_add, List.cons_append, List.nil_append, List.append_nil, List.getElem?_cons_zero, List.getElem?_cons_succ, List.set_cons_zero, List.set_cons_succ, wipe,
  Option.some.injEq, exists_eq_left', exists_eq_left, V.int.injEq, V.bl.injEq, V.str.injEq, V.ref.injEq, HO.lst.injEq, HO.tup.injEq, List.cons.injEq, and_true, true_and, reduceCtorEq, false_or, or_false, false_and, and_false, exists_false, exists_and_left, exists_eq, and_assoc, if_true, if_false, Bool.false_eq_true, decide_eq_true_eq, upd_same]
          refine isi_rp rx (by decide) ?_
          rw [isTy_tuple]
          refine ⟨_, rfl, ?_⟩
          cases d with
          | tup es =>
            obtain ⟨a2, ys, rfl, e2, r2'⟩ := rx.tup_inv
            simp only [tSeq, tAsg, tOp, tUn, tCB, tCons, tNil, tVar, tC, rI, rI0, rU, tRet, tRetN, gName, tIfS, tTest, tIf, tB, tNot, tAnd, tOr, tAndV, tOrV, tNotV, tCmp, t2I, tLst, tTup, tCall, tCalK0, tNext, tChain, tSl, tPart, tNoPart, tPar, tDrop, gSub, gTupT, gCons, gNil, rSetL, rIxl, rIxt, rSlt, rEq, rNe, L2.start, tLc_eq, tFor_eq, iTup, iList, iRng1, iRng2, iEnumT, tYes, pts_nil,
  List.map_cons, List.map_nil, List.length_cons, List.length_nil, List.replicate_succ, List.replicate_zero, Nat.reduceAdd, Nat.reduceSub, Nat.add_zero, Nat.zero_add, List.cons_append, List.nil_append, List.append_nil, List.getElem?_cons_zero, List.getElem?_cons_succ, List.set_cons_zero, List.set_cons_succ, wipe,
  Option.some.injEq, exists_eq_left', exists_eq_left, V.int.injEq, V.bl.injEq, V.str.injEq, V.ref.injEq, HO.lst.injEq, HO.tup.injEq, List.cons.injEq, and_true, true_and, reduceCtorEq, false_or, or_false, false_and, and_false, exists_false, exists_and_left, exists_eq, and_assoc, if_true, if_false, Bool.false_eq_true, decide_eq_true_eq, upd_same, e2]
            have := hN _ (Fx.refl _ _)
            cases r2' with
            | nil => exact this
            | cons _ _ =>
              simp only [List.length_cons]
              rw [decide_eq_true (by omega)]
              exact this
          | _ => simp only [tSeq, tAsg, tOp, tUn, tCB, tCons, tNil, tVar, tC, rI, rI0, rU, tRet, tRetN, gName, tIfS, tTest, tIf, tB, tNot, tAnd, tOr, tAndV, tOrV, tNotV, tCmp, t2I, tLst, tTup, tCall, tCalK0, tNext, tChain, tSl, tPart, tNoPart, tPar, tDrop, gSub, gTupT, gCons, gNil, rSetL, rIxl, rIxt, rSlt, rEq, rNe, L2.start, tLc_eq, tFor_eq, iTup, iList, iRng1, iRng2, iEnumT, tYes, pts_nil,
  List.map_cons, List.map_nil, List.length_cons, List.length_nil, List.replicate_succ, List.replicate_zero, Nat.reduceAdd, Nat.reduceSub, Nat.add_zero, Nat.zero_add, List.cons_append, List.nil_append, List.append_nil, List.getElem?_cons_zero, List.getElem?_cons_succ, List.set_cons_zero, List.set_cons_succ, wipe,
  Option.some.injEq, exists_eq_left', exists_eq_left, V.int.injEq, V.bl.injEq, V.str.injEq, V.ref.injEq, HO.lst.injEq, HO.tup.injEq, List.cons.injEq, and_true, true_and, reduceCtorEq, false_or, or_false, false_and, and_false, exists_false, exists_and_left, exists_eq, and_assoc, if_true, if_false, Bool.false_eq_true, decide_eq_true_eq, upd_same]; exact hN _ (Fx.refl _ _)
        · refine ⟨D, _, rfl, SqL.of hy, ?_⟩
          have := q H2 (f1.trans fx)
          have e4 : isForm (.tup [d1, d2, d3]) = List.all (List.map nonE [d2, d3]) id := by
            show (decide (3 = 3) && (nonE d2 && (nonE d3 && true))) = (nonE d2 && (nonE d3 && true))
            rfl
          rw [e4] at this
          exact this
      · rw [if_pos (by simp [hl]; omega)]
        have := q H (Fx.refl _ _)
        have e4 : isForm (.tup ds) = false := by
          unfold isForm
          simp only [decide_eq_false h3, Bool.false_and]
        rw [e4] at this
        exact this
    | _ => simp only [tSeq, tAsg, tOp, tUn, tCB, tCons, tNil, tVar, tC, rI, rI0, rU, tRet, tRetN, gName, tIfS, tTest, tIf, tB, tNot, tAnd, tOr, tAndV, tOrV, tNotV, tCmp, t2I, tLst, tTup, tCall, tCalK0, tNext, tChain, tSl, tPart, tNoPart, tPar, tDrop, gSub, gTupT, gCons, gNil, rSetL, rIxl, rIxt, rSlt, rEq, rNe, L2.start, tLc_eq, tFor_eq, iTup, iList, iRng1, iRng2, iEnumT, tYes, pts_nil,
  List.map_cons, List.map_nil, List.length_cons, List.length_nil, List.replicate_succ, List.replicate_zero, Nat.reduceAdd, Nat.reduceSub, Nat.add_zero, Nat.zero_add, List.cons_append, List.nil_append, List.append_nil, List.getElem?_cons_zero, List.getElem?_cons_succ, List.set_cons_zero, List.set_cons_succ, wipe,
  Option.some.injEq, exists_eq_left', exists_eq_left, V.int.injEq, V.bl.injEq, V.str.injEq, V.ref.injEq, HO.lst.injEq, HO.tup.injEq, List.cons.injEq, and_true, true_and, reduceCtorEq, false_or, or_false, false_and, and_false, exists_false, exists_and_left, exists_eq, and_assoc, if_true, if_false, Bool.false_eq_true, decide_eq_true_eq, upd_same]; exact q _ (Fx.refl _ _)
def spRead : Sp := fun vs H Q _ => ∃ v l m wd s row, vs = [v, .int s, l] ∧ Rp H v (macD m) ∧ MacOk m wd ∧ 0 ≤ s ∧ s < (m.steps.length : Int) ∧ Rp H l (intsD row) ∧ (∀ x ∈ row, 0 ≤ x ∧ x < (wd : Int)) ∧ Q (.int (readM m s row)) H
theorem ok_read (z : Z mg) {f : Addr} {fd : FuncData} (F : Fun K "_law_read" "_law_read" s__law_read f fd) : FnOk P w K mg base CX0 1 f fd ["_law_asker", "_law_state", "_law_line"] spRead := by
  refine F.ok sc__law_read (fun vs H Q E h => ?_) (fun cdv A outer s H vs Q E hr h => ⟨_, (pss_cons (ps_for PassesOwn.never rfl (pi_tup (pv 2)) (pg_name (i := 3) sc__law_read.nd rfl (.inl rfl))
      (pss_one (ps_set (i := 1) sc__law_read.nd rfl (.inl rfl) (pe_ix ix_t (pe_ix ix_t (pe_ix ix_t (pv 0) pe_int (fun _ _ => rfl)) (pv 1) (fun _ _ => rfl)) (pv 3) (fun _ _ => rfl)))))
      (pss_one (ps_ret (pv 1)))), ?_⟩)
  · obtain ⟨v, l, m, wd, s, row, rfl, _⟩ := h
    rfl
  · obtain ⟨v, l, m, wd, st, row, rfl, rm, mo, s0, s1, rl, hrow, q⟩ := h
    obtain ⟨al, rfl, el⟩ := rl.ints_inv
    obtain ⟨a, b, c, xs, rfl, ea, eb, rxs, ec⟩ := rm.mac
    simp only [tSeq, tAsg, tOp, tUn, tCB, tCons, tNil, tVar, tC, rI, rI0, rU, tRet, tRetN, gName, tIfS, tTest, tIf, tB, tNot, tAnd, tOr, tAndV, tOrV, tNotV, tCmp, t2I, tLst, tTup, tCall, tCalK0, tNext, tChain, tSl, tPart, tNoPart, tPar, tDrop, gSub, gTupT, gCons, gNil, rSetL, rIxl, rIxt, rSlt, rEq, rNe, L2.start, tLc_eq, tFor_eq, iTup, iList, iRng1, iRng2, iEnumT, tYes, pts_nil,
  List.map_cons, List.map_nil, List.length_cons, List.length_nil, List.replicate_succ, List.replicate_zero, Nat.reduceAdd, Nat.reduceSub, Nat.add_zero, Nat.zero_add, List.cons_append, List.nil_append, List.append_nil, List.getElem?_cons_zero, List.getElem?_cons_succ, List.set_cons_zero, List.set_cons_succ, wipe,
  Option.some.injEq, exists_eq_left', exists_eq_left, V.int.injEq, V.bl.injEq, V.str.injEq, V.ref.injEq, HO.lst.injEq, HO.tup.injEq, List.cons.injEq, and_true, true_and, reduceCtorEq, false_or, or_false, false_and, and_false, exists_false, exists_and_left, exists_eq, and_assoc, if_true, if_false, Bool.false_eq_true, decide_eq_true_eq, upd_same]
    refine ⟨⟨_, SqT.of el⟩, ?_⟩
    refine for_go (walk_tup (xs := row.map V.int)) (fun i σ H' => H' = H ∧ ∃ x, σ = [some (.ref a), some (.int (readM m st (row.take i))), some (.ref al), x]) ⟨rfl, none, rfl⟩ ?_ ?_ ?_
    · rintro i σ H' hi ⟨rfl, _⟩
      exact SqT.of el
    · rintro i x σ H2 H3 hi ⟨rfl, y, rfl⟩ ⟨rfl, hx⟩
      rw [List.length_map] at hi
      have hx2 : x = .int (row.getD i 0) := by
        rw [List.getElem?_map, List.getElem?_eq_getElem hi] at hx
        rw [List.getD_eq_getElem?_getD, List.getElem?_eq_getElem hi]
        exact (Option.some.inj hx).symm
      subst hx2
      obtain ⟨t0, t1⟩ := mo.read (row.take i) st s0 s1 (fun x hx => hrow x (List.mem_of_mem_take hx))
      obtain ⟨ar, h1, h2⟩ := rxs.rowAt (i := (readM m st (row.take i)).toNat) (by omega)
      obtain ⟨v0, v1⟩ := hrow _ (getD_mem (d := 0) hi)
      obtain ⟨hl, _⟩ := mo.row _ (getD_mem (l := m.steps) (d := []) (i := (readM m st (row.take i)).toNat) (by omega))
      have k1 : atI [V.int m.start, V.ref b, V.ref c] 1 = some (.ref b) := rfl
      have k2 := atI_of t0 h1
      have k3 := atI_ints (ns := m.steps.getD (readM m st (row.take i)).toNat []) v0 (by omega)
      simp only [tSeq, tAsg, tOp, tUn, tCB, tCons, tNil, tVar, tC, rI, rI0, rU, tRet, tRetN, gName, tIfS, tTest, tIf, tB, tNot, tAnd, tOr, tAndV, tOrV, tNotV, tCmp, t2I, tLst, tTup, tCall, tCalK0, tNext, tChain, tSl, tPart, tNoPart, tPar, tDrop, gSub, gTupT, gCons, gNil, rSetL, rIxl, rIxt, rSlt, rEq, rNe, L2.start, tLc_eq, tFor_eq, iTup, iList, iRng1, iRng2, iEnumT, tYes, pts_nil,
  List.map_cons, List.map_nil, List.length_cons, List.length_nil, List.replicate_succ, List.replicate_zero, Nat.reduceAdd, Nat.reduceSub, Nat.add_zero, Nat.zero_add, List.cons_append, List.nil_append, List.append_nil, List.getElem?_cons_zero, List.getElem?_cons_succ, List.set_cons_zero, List.set_cons_succ, wipe,
  Option.some.injEq, exists_eq_left', exists_eq_left, V.int.injEq, V.bl.injEq, V.str.injEq, V.ref.injEq, HO.lst.injEq, HO.tup.injEq, List.cons.injEq, and_true, true_and, reduceCtorEq, false_or, or_false, false_and, and_false, exists_false, exists_and_left, exists_eq, and_assoc, if_true, if_false, Bool.false_eq_true, decide_eq_true_eq, upd_same, ea, k1, eb, k2, h2, k3]
      exact ⟨(readM_take hi).symm, _, rfl⟩
    · rintro σ H2 ⟨rfl, y, rfl⟩
      simp only [tSeq, tAsg, tOp, tUn, tCB, tCons, tNil, tVar, tC, rI, rI0, rU, tRet, tRetN, gName, tIfS, tTest, tIf, tB, tNot, tAnd, tOr, tAndV, tOrV, tNotV, tCmp, t2I, tLst, tTup, tCall, tCalK0, tNext, tChain, tSl, tPart, tNoPart, tPar, tDrop, gSub, gTupT, gCons, gNil, rSetL, rIxl, rIxt, rSlt, rEq, rNe, L2.start, tLc_eq, tFor_eq, iTup, iList, iRng1, iRng2, iEnumT, tYes, pts_nil,
  List.map_cons, List.map_nil, List.length_cons, List.length_nil, List.replicate_succ, List.replicate_zero, Nat.reduceAdd, Nat.reduceSub, Nat.add_zero, Nat.zero_add, List.cons_append, List.nil_append, List.append_nil, List.getElem?_cons_zero, List.getElem?_cons_succ, List.set_cons_zero, List.set_cons_succ, wipe,
  Option.some.injEq, exists_eq_left', exists_eq_left, V.int.injEq, V.bl.injEq, V.str.injEq, V.ref.injEq, HO.lst.injEq, HO.tup.injEq, List.cons.injEq, and_true, true_and, reduceCtorEq, false_or, or_false, false_and, and_false, exists_false, exists_and_left, exists_eq, and_assoc, if_true, if_false, Bool.false_eq_true, decide_eq_true_eq, upd_same]
      rw [List.length_map, List.take_length]
      exact q
def spAnswer : Sp := fun vs H Q _ => ∃ v l m wd row, vs = [v, l] ∧ Rp H v (macD m) ∧ MacOk m wd ∧ Rp H l (intsD row) ∧ (∀ x ∈ row, 0 ≤ x ∧ x < (wd : Int)) ∧ Q (.int (ansM m row)) H
theorem ok_law_answer (z : Z mg) (c__law_read : Cal P w K mg base CX0 "_law_read" 1 ["_law_asker", "_law_state", "_law_line"] spRead) {f : Addr} {fd : FuncData} (F : Fun K "_law_answer" "_law_answer" s__law_answer f fd) :
    FnOk P w K mg base CX0 2 f fd ["_law_asker", "_law_line"] spAnswer := by
  refine F.ok sc__law_answer (fun vs H Q E h => ?_) (fun cdv A outer s H vs Q E hr h => ⟨_, (pss_one (ps_ret (pe_ix ix_t (pe_ix ix_t (pv 0) pe_int (fun _ _ => rfl)) (pe_cal c__law_read hr rfl pass0 (pa_cons (pv 0) (pa_cons (pe_ix ix_t (pv 0) pe_int (fun _ _ => rfl)) (pa_cons (pv 1) pa_nil)))) (fun _ _ => rfl)))), ?_⟩)
  · obtain ⟨v, l, m, wd, row, rfl, _⟩ := h
    rfl
  · obtain ⟨v, l, m, wd, row, rfl, rm, mo, rl, hrow, q⟩ := h
    obtain ⟨a, b, c, xs, rfl, ea, eb, rxs, ec⟩ := rm.mac
    obtain ⟨t0, t1⟩ := mo.read row m.start mo.st0 mo.st1 hrow
    have k0 : atI [V.int m.start, V.ref b, V.ref c] 0 = some (.int m.start) := rfl
    have k2 : atI [V.int m.start, V.ref b, V.ref c] 2 = some (.ref c) := rfl
    have k3 := atI_ints (ns := m.answers) t0 (by rw [mo.ans]; exact t1)
    simp only [tSeq, tAsg, tOp, tUn, tCB, tCons, tNil, tVar, tC, rI, rI0, rU, tRet, tRetN, gName, tIfS, tTest, tIf, tB, tNot, tAnd, tOr, tAndV, tOrV, tNotV, tCmp, t2I, tLst, tTup, tCall, tCalK0, tNext, tChain, tSl, tPart, tNoPart, tPar, tDrop, gSub, gTupT, gCons, gNil, rSetL, rIxl, rIxt, rSlt, rEq, rNe, L2.start, tLc_eq, tFor_eq, iTup, iList, iRng1, iRng2, iEnumT, tYes, pts_nil,
  List.map_cons, List.map_nil, List.length_cons, List.length_nil, List.replicate_succ, List.replicate_zero, Nat.reduceAdd, Nat.reduceSub, Nat.add_zero, Nat.zero_add, List.cons_append, List.nil_append, List.append_nil, List.getElem?_cons_zero, List.getElem?_cons_succ, List.set_cons_zero, List.set_cons_succ, wipe,
  Option.some.injEq, exists_eq_left', exists_eq_left, V.int.injEq, V.bl.injEq, V.str.injEq, V.ref.injEq, HO.lst.injEq, HO.tup.injEq, List.cons.injEq, and_true, true_and, reduceCtorEq, false_or, or_false, false_and, and_false, exists_false, exists_and_left, exists_eq, and_assoc, if_true, if_false, Bool.false_eq_true, decide_eq_true_eq, upd_same, ea, k0, k2]
    refine ⟨.ref a, l, m, wd, m.start, row, rfl, rm, mo, mo.st0, mo.st1, rl, hrow, ?_⟩
    simp only [tSeq, tAsg, tOp, tUn, tCB, tCons, tNil, tVar, tC, rI, rI0, rU, tRet, tRetN, gName, tIfS, tTest, tIf, tB, tNot, tAnd, tOr, tAndV, tOrV, tNotV, tCmp, t2I, tLst, tTup, tCall, tCalK0, tNext, tChain, tSl, tPart, tNoPart, tPar, tDrop, gSub, gTupT, gCons, gNil, rSetL, rIxl, rIxt, rSlt, rEq, rNe, L2.start, tLc_eq, tFor_eq, iTup, iList, iRng1, iRng2, iEnumT, tYes, pts_nil,
  List.map_cons, List.map_nil, List.length_cons, List.length_nil, List.replicate_succ, List.replicate_zero, Nat.reduceAdd, Nat.reduceSub, Nat.add_zero, Nat.zero_add, List.cons_append, List.nil_append, List.append_nil, List.getElem?_cons_zero, List.getElem?_cons_succ, List.set_cons_zero, List.set_cons_succ, wipe,
  Option.some.injEq, exists_eq_left', exists_eq_left, V.int.injEq, V.bl.injEq, V.str.injEq, V.ref.injEq, HO.lst.injEq, HO.tup.injEq, List.cons.injEq, and_true, true_and, reduceCtorEq, false_or, or_false, false_and, and_false, exists_false, exists_and_left, exists_eq, and_assoc, if_true, if_false, Bool.false_eq_true, decide_eq_true_eq, upd_same, ec, k3]
    exact q
def spAfter : Sp := fun vs H Q _ => ∃ b l m wd s row xs, vs = [.ref b, .int s, l] ∧ H b = some (.tup xs) ∧ RpAll H xs (m.steps.map intsD) ∧ MacOk m wd ∧ 0 ≤ s ∧ s < (m.steps.length : Int) ∧ Rp H l (intsD row) ∧ (∀ x ∈ row, 0 ≤ x ∧ x < (wd : Int)) ∧ Q (.int (readM m s row)) H
theorem ok_state_after (z : Z mg) {f : Addr} {fd : FuncData} (F : Fun K "state_after" "state_after" s_state_after f fd) : FnOk P w K mg base CX0 1 f fd ["steps", "state", "row"] spAfter := by
  refine F.ok sc_state_after (fun vs H Q E h => ?_) (fun cdv A outer s H vs Q E hr h => ⟨_, (pss_cons (ps_for PassesOwn.never rfl (pi_tup (pv 2)) (pg_name (i := 3) sc_state_after.nd rfl (.inl rfl))
      (pss_one (ps_set (i := 1) sc_state_after.nd rfl (.inl rfl) (pe_ix ix_t (pe_ix ix_t (pv 0) (pv 1) (fun _ _ => rfl)) (pv 3) (fun _ _ => rfl)))))
      (pss_one (ps_ret (pv 1)))), ?_⟩)
  · obtain ⟨b, l, m, wd, s, row, xs, rfl, _⟩ := h
    rfl
  · obtain ⟨b, l, m, wd, st, row, xs, rfl, eb, rxs, mo, s0, s1, rl, hrow, q⟩ := h
    obtain ⟨al, rfl, el⟩ := rl.ints_inv
    simp only [tSeq, tAsg, tOp, tUn, tCB, tCons, tNil, tVar, tC, rI, rI0, rU, tRet, tRetN, gName, tIfS, tTest, tIf, tB, tNot, tAnd, tOr, tAndV, tOrV, tNotV, tCmp, t2I, tLst, tTup, tCall, tCalK0, tNext, tChain, tSl, tPart, tNoPart, tPar, tDrop, gSub, gTupT, gCons, gNil, rSetL, rIxl, rIxt, rSlt, rEq, rNe, L2.start, tLc_eq, tFor_eq, iTup, iList, iRng1, iRng2, iEnumT, tYes, pts_nil,
  List.map_cons, List.map_nil, List.length_cons, List.length_nil, List.replicate_succ, List.replicate_zero, Nat.reduceAdd, Nat.reduceSub, Nat.add_zero, Nat.zero_add, List.cons_append, List.nil_append, List.append_nil, List.getElem?_cons_zero, List.getElem?_cons_succ, List.set_cons_zero, List.set_cons_succ, wipe,
  Option.some.injEq, exists_eq_left', exists_eq_left, V.int.injEq, V.bl.injEq, V.str.injEq, V.ref.injEq, HO.lst.injEq, HO.tup.injEq, List.cons.injEq, and_true, true_and, reduceCtorEq, false_or, or_false, false_and, and_false, exists_false, exists_and_left, exists_eq, and_assoc, if_true, if_false, Bool.false_eq_true, decide_eq_true_eq, upd_same]
    refine ⟨⟨_, SqT.of el⟩, ?_⟩
    refine for_go (walk_tup (xs := row.map V.int)) (fun i σ H' => H' = H ∧ ∃ x, σ = [some (.ref b), some (.int (readM m st (row.take i))), some (.ref al), x]) ⟨rfl, none, rfl⟩ ?_ ?_ ?_
    · rintro i σ H' hi ⟨rfl, _⟩
      exact SqT.of el
    · rintro i x σ H2 H3 hi ⟨rfl, y, rfl⟩ ⟨rfl, hx⟩
      rw [List.length_map] at hi
      have hx2 : x = .int (row.getD i 0) := by
        rw [List.getElem?_map, List.getElem?_eq_getElem hi] at hx
        rw [List.getD_eq_getElem?_getD, List.getElem?_eq_getElem hi]
        exact (Option.some.inj hx).symm
      subst hx2
      obtain ⟨t0, t1⟩ := mo.read (row.take i) st s0 s1 (fun x hx => hrow x (List.mem_of_mem_take hx))
      obtain ⟨ar, h1, h2⟩ := rxs.rowAt (i := (readM m st (row.take i)).toNat) (by omega)
      obtain ⟨v0, v1⟩ := hrow _ (getD_mem (d := 0) hi)
      obtain ⟨hl, _⟩ := mo.row _ (getD_mem (l := m.steps) (d := []) (i := (readM m st (row.take i)).toNat) (by omega))
      have k2 := atI_of t0 h1
      have k3 := atI_ints (ns := m.steps.getD (readM m st (row.take i)).toNat []) v0 (by omega)
      simp only [tSeq, tAsg, tOp, tUn, tCB, tCons, tNil, tVar, tC, rI, rI0, rU, tRet, tRetN, gName, tIfS, tTest, tIf, tB, tNot, tAnd, tOr, tAndV, tOrV, tNotV, tCmp, t2I, tLst, tTup, tCall, tCalK0, tNext, tChain, tSl, tPart, tNoPart, tPar, tDrop, gSub, gTupT, gCons, gNil, rSetL, rIxl, rIxt, rSlt, rEq, rNe, L2.start, tLc_eq, tFor_eq, iTup, iList, iRng1, iRng2, iEnumT, tYes, pts_nil,
  List.map_cons, List.map_nil, List.length_cons, List.length_nil, List.replicate_succ, List.replicate_zero, Nat.reduceAdd, Nat.reduceSub, Nat.add_zero, Nat.zero_add, List.cons_append, List.nil_append, List.append_nil, List.getElem?_cons_zero, List.getElem?_cons_succ, List.set_cons_zero, List.set_cons_succ, wipe,
  Option.some.injEq, exists_eq_left', exists_eq_left, V.int.injEq, V.bl.injEq, V.str.injEq, V.ref.injEq, HO.lst.injEq, HO.tup.injEq, List.cons.injEq, and_true, true_and, reduceCtorEq, false_or, or_false, false_and, and_false, exists_false, exists_and_left, exists_eq, and_assoc, if_true, if_false, Bool.false_eq_true, decide_eq_true_eq, upd_same, eb, k2, h2, k3]
      exact ⟨(readM_take hi).symm, _, rfl⟩
    · rintro σ H2 ⟨rfl, y, rfl⟩
      simp only [tSeq, tAsg, tOp, tUn, tCB, tCons, tNil, tVar, tC, rI, rI0, rU, tRet, tRetN, gName, tIfS, tTest, tIf, tB, tNot, tAnd, tOr, tAndV, tOrV, tNotV, tCmp, t2I, tLst, tTup, tCall, tCalK0, tNext, tChain, tSl, tPart, tNoPart, tPar, tDrop, gSub, gTupT, gCons, gNil, rSetL, rIxl, rIxt, rSlt, rEq, rNe, L2.start, tLc_eq, tFor_eq, iTup, iList, iRng1, iRng2, iEnumT, tYes, pts_nil,
  List.map_cons, List.map_nil, List.length_cons, List.length_nil, List.replicate_succ, List.replicate_zero, Nat.reduceAdd, Nat.reduceSub, Nat.add_zero, Nat.zero_add, List.cons_append, List.nil_append, List.append_nil, List.getElem?_cons_zero, List.getElem?_cons_succ, List.set_cons_zero, List.set_cons_succ, wipe,
  Option.some.injEq, exists_eq_left', exists_eq_left, V.int.injEq, V.bl.injEq, V.str.injEq, V.ref.injEq, HO.lst.injEq, HO.tup.injEq, List.cons.injEq, and_true, true_and, reduceCtorEq, false_or, or_false, false_and, and_false, exists_false, exists_and_left, exists_eq, and_assoc, if_true, if_false, Bool.false_eq_true, decide_eq_true_eq, upd_same]
      rw [List.length_map, List.take_length]
      exact q
theorem ok_answer_on (z : Z mg) (c_state_after : Cal P w K mg base CX0 "state_after" 1 ["steps", "state", "row"] spAfter) {f : Addr} {fd : FuncData} (F : Fun K "answer_on" "answer_on" s_answer_on f fd) : FnOk P w K mg base CX0 2 f fd ["machine", "row"] spAnswer := by
  refine F.ok sc_answer_on (fun vs H Q E h => ?_) (fun cdv A outer s H vs Q E hr h => ⟨_, (pss_cons (ps_asg (pv 0) (pg_tT 3 rfl (pgs_cons (pg_name (i := 2) sc_answer_on.nd rfl (.inl rfl)) (pgs_cons (pg_name (i := 3) sc_answer_on.nd rfl (.inl rfl)) (pgs_cons (pg_name (i := 4) sc_answer_on.nd rfl (.inl rfl)) pgs_nil)))))
      (pss_one (ps_ret (pe_ix ix_t (pv 4) (pe_cal c_state_after hr rfl pass0 (pa_cons (pv 3) (pa_cons (pv 2) (pa_cons (pv 1) pa_nil)))) (fun _ _ => rfl))))), ?_⟩)
  · obtain ⟨v, l, m, wd, row, rfl, _⟩ := h
    rfl
  · obtain ⟨v, l, m, wd, row, rfl, rm, mo, rl, hrow, q⟩ := h
    obtain ⟨a, b, c, xs, rfl, ea, eb, rxs, ec⟩ := rm.mac
    obtain ⟨t0, t1⟩ := mo.read row m.start mo.st0 mo.st1 hrow
    have k3 := atI_ints (ns := m.answers) t0 (by rw [mo.ans]; exact t1)
    simp only [tSeq, tAsg, tOp, tUn, tCB, tCons, tNil, tVar, tC, rI, rI0, rU, tRet, tRetN, gName, tIfS, tTest, tIf, tB, tNot, tAnd, tOr, tAndV, tOrV, tNotV, tCmp, t2I, tLst, tTup, tCall, tCalK0, tNext, tChain, tSl, tPart, tNoPart, tPar, tDrop, gSub, gTupT, gCons, gNil, rSetL, rIxl, rIxt, rSlt, rEq, rNe, L2.start, tLc_eq, tFor_eq, iTup, iList, iRng1, iRng2, iEnumT, tYes, pts_nil,
  List.map_cons, List.map_nil, List.length_cons, List.length_nil, List.replicate_succ, List.replicate_zero, Nat.reduceAdd, Nat.reduceSub, Nat.add_zero, Nat.zero_add, List.cons_append, List.nil_append, List.append_nil, List.getElem?_cons_zero, List.getElem?_cons_succ, List.set_cons_zero, List.set_cons_succ, wipe,
  Option.some.injEq, exists_eq_left', exists_eq_left, V.int.injEq, V.bl.injEq, V.str.injEq, V.ref.injEq, HO.lst.injEq, HO.tup.injEq, List.cons.injEq, and_true, true_and, reduceCtorEq, false_or, or_false, false_and, and_false, exists_false, exists_and_left, exists_eq, and_assoc, if_true, if_false, Bool.false_eq_true, decide_eq_true_eq, upd_same, ea]
    refine ⟨b, l, m, wd, m.start, row, xs, rfl, eb, rxs, mo, mo.st0, mo.st1, rl, hrow, ?_⟩
    simp only [tSeq, tAsg, tOp, tUn, tCB, tCons, tNil, tVar, tC, rI, rI0, rU, tRet, tRetN, gName, tIfS, tTest, tIf, tB, tNot, tAnd, tOr, tAndV, tOrV, tNotV, tCmp, t2I, tLst, tTup, tCall, tCalK0, tNext, tChain, tSl, tPart, tNoPart, tPar, tDrop, gSub, gTupT, gCons, gNil, rSetL, rIxl, rIxt, rSlt, rEq, rNe, L2.start, tLc_eq, tFor_eq, iTup, iList, iRng1, iRng2, iEnumT, tYes, pts_nil,
  List.map_cons, List.map_nil, List.length_cons, List.length_nil, List.replicate_succ, List.replicate_zero, Nat.reduceAdd, Nat.reduceSub, Nat.add_zero, Nat.zero_add, List.cons_append, List.nil_append, List.append_nil, List.getElem?_cons_zero, List.getElem?_cons_succ, List.set_cons_zero, List.set_cons_succ, wipe,
  Option.some.injEq, exists_eq_left', exists_eq_left, V.int.injEq, V.bl.injEq, V.str.injEq, V.ref.injEq, HO.lst.injEq, HO.tup.injEq, List.cons.injEq, and_true, true_and, reduceCtorEq, false_or, or_false, false_and, and_false, exists_false, exists_and_left, exists_eq, and_assoc, if_true, if_false, Bool.false_eq_true, decide_eq_true_eq, upd_same, ec, k3]
    exact q
def lenIs (d : LT.D) (s : Nat) : Bool := match d with | .tup es => decide (es.length = s) | _ => false
def spIsLine : Sp := fun vs H Q _ => ∃ v d, ∃ s : Nat, ∃ n : Int, vs = [v, .int s, .int n] ∧ Rp H v d ∧ short d ∧ ∀ H', Fx [] H H' → Q (.bl (isRow d n && lenIs d s)) H'
theorem ok_is_line (z : Z mg) (c_is_row : Cal P w K mg base CX0 "is_row" 2 ["thing", "size"] spIsRow) {f : Addr} {fd : FuncData} (F : Fun K "is_line" "is_line" s_is_line f fd) : FnOk P w K mg base CX0 3 f fd ["thing", "many", "bound"] spIsLine := by
  refine F.ok sc_is_line (fun vs H Q E h => ?_) (fun cdv A outer s H vs Q E hr h => ⟨_, (pss_one (ps_ret (pe_and (pe_cal c_is_row hr rfl pass0 (pa_cons (pv 0) (pa_cons (pv 2) pa_nil))) (pe_one (pe_cmpR op_eq (pe_callB call_lenT (by rfl) z.len (by decide +kernel) (pa_cons (pv 0) pa_nil)) (pv 1) (nomark _)))))), ?_⟩)
  · obtain ⟨v, d, s, n, rfl, _⟩ := h
    rfl
  · obtain ⟨v, d, s, n, rfl, rp, sh, q⟩ := h
    simp only [tSeq, tAsg, tOp, tUn, tCB, tCons, tNil, tVar, tC, rI, rI0, rU, tRet, tRetN, gName, tIfS, tTest, tIf, tB, tNot, tAnd, tOr, tAndV, tOrV, tNotV, tCmp, t2I, tLst, tTup, tCall, tCalK0, tNext, tChain, tSl, tPart, tNoPart, tPar, tDrop, gSub, gTupT, gCons, gNil, rSetL, rIxl, rIxt, rSlt, rEq, rNe, L2.start, tLc_eq, tFor_eq, iTup, iList, iRng1, iRng2, iEnumT, tYes, pts_nil,
  List.map_cons, List.map_nil, List.length_cons, List.length_nil, List.replicate_succ, List.replicate_zero, Nat.reduceAdd, Nat.reduceSub, Nat.add_zero, Nat.zero_add, List.cons_append, List.nil_append, List.append_nil, List.getElem?_cons_zero, List.getElem?_cons_succ, List.set_cons_zero, List.set_cons_succ, wipe,
  Option.some.injEq, exists_eq_left', exists_eq_left, V.int.injEq, V.bl.injEq, V.str.injEq, V.ref.injEq, HO.lst.injEq, HO.tup.injEq, List.cons.injEq, and_true, true_and, reduceCtorEq, false_or, or_false, false_and, and_false, exists_false, exists_and_left, exists_eq, and_assoc, if_true, if_false, Bool.false_eq_true, decide_eq_true_eq, upd_same]
    refine ⟨v, d, n, rfl, rp, sh, fun H1 f1 => ⟨_, rfl, ?_⟩⟩
    have q1 := q H1 f1
    cases hR : isRow d n with
    | false =>
      rw [hR] at q1
      exact q1
    | true =>
      cases d with
      | tup es =>
        obtain ⟨a, xs, rfl, e, r⟩ := (f1.rp rp).tup_inv
        simp only [tSeq, tAsg, tOp, tUn, tCB, tCons, tNil, tVar, tC, rI, rI0, rU, tRet, tRetN, gName, tIfS, tTest, tIf, tB, tNot, tAnd, tOr, tAndV, tOrV, tNotV, tCmp, t2I, tLst, tTup, tCall, tCalK0, tNext, tChain, tSl, tPart, tNoPart, tPar, tDrop, gSub, gTupT, gCons, gNil, rSetL, rIxl, rIxt, rSlt, rEq, rNe, L2.start, tLc_eq, tFor_eq, iTup, iList, iRng1, iRng2, iEnumT, tYes, pts_nil,
  List.map_cons, List.map_nil, List.length_cons, List.length_nil, List.replicate_succ, List.replicate_zero, Nat.reduceAdd, Nat.reduceSub, Nat.add_zero, Nat.zero_add, List.cons_append, List.nil_append, List.append_nil, List.getElem?_cons_zero, List.getElem?_cons_succ, List.set_cons_zero, List.set_cons_succ, wipe,
  Option.some.injEq, exists_eq_left', exists_eq_left, V.int.injEq, V.bl.injEq, V.str.injEq, V.ref.injEq, HO.lst.injEq, HO.tup.injEq, List.cons.injEq, and_true, true_and, reduceCtorEq, false_or, or_false, false_and, and_false, exists_false, exists_and_left, exists_eq, and_assoc, if_true, if_false, Bool.false_eq_true, decide_eq_true_eq, upd_same, e]
        rw [hR, Bool.true_and] at q1
        rw [r.len]
        have e2 : decide ((es.length : Int) = (s : Int)) = lenIs (.tup es) s := by
          show _ = decide (es.length = s)
          by_cases h : es.length = s
          · rw [decide_eq_true h, decide_eq_true (by omega)]
          · rw [decide_eq_false h, decide_eq_false (by omega)]
        rw [e2]
        exact ⟨rfl, q1⟩
      | _ => cases hR
/-- the first problem of what is checked -/
def badAt (n s : Nat) : List LT.D → Nat → Option Nat
  | [], _ => none
  | d :: ds, k => if !isRow d n || !(match d with | .tup es => decide (es.length = s) | _ => false) then some k else badAt n s ds (k + 1)
def checkD (d : LT.D) (s : Nat) : LT.D := if isForm d = false then .tup [.str "form"] else match d with
  | .tup [st, .tup steps, .tup answers] => match badAt steps.length s steps 0 with
    | some k => .tup [.str "steps", .int k]
    | none => if decide (answers.length = steps.length) && (answers.all fun x => isInteger x 0 99) then (if isInteger st 0 (steps.length - 1) then .non else .tup [.str "start"]) else .tup [.str "answers"]
  | _ => .tup [.str "form"]
/-- no tuple in it is too long, one level down too -/
def short2 (d : LT.D) : Prop := match d with
  | .tup ds => ∀ x ∈ ds, match x with | .tup es => es.length ≤ 1000000 ∧ ∀ y ∈ es, short y | _ => True
  | _ => True
theorem nonE_inv {d : LT.D} (h : nonE d = true) : ∃ es, d = .tup es ∧ es ≠ [] := by
  cases d with
  | tup es =>
    cases es with
    | nil => cases h
    | cons e es => exact ⟨_, rfl, fun z => nomatch z⟩
  | _ => cases h
theorem isForm_inv {d : LT.D} (h : isForm d = true) : ∃ a ss ts, d = .tup [a, .tup ss, .tup ts] ∧ ss ≠ [] ∧ ts ≠ [] := by
  cases d with
  | tup ds =>
    unfold isForm at h
    simp only [Bool.and_eq_true, decide_eq_true_eq] at h
    obtain ⟨h1, h2⟩ := h
    match ds, h1, h2 with
    | [a, b, c], _, h2 =>
      simp only [List.drop_succ_cons, List.drop_zero, List.all_cons, List.all_nil, Bool.and_eq_true, Bool.and_true] at h2
      obtain ⟨ss, rfl, n1⟩ := nonE_inv h2.1
      obtain ⟨ts, rfl, n2⟩ := nonE_inv h2.2
      exact ⟨a, ss, ts, rfl, n1, n2⟩
  | _ => cases h
def badHere (n s : Nat) (d : LT.D) : Bool := !isRow d n || !(match d with | .tup es => decide (es.length = s) | _ => false)
theorem badAt_step {n s : Nat} {ds : List LT.D} {i k : Nat} {d : LT.D} (h : ds[i]? = some d) : badAt n s (ds.drop i) k = if badHere n s d then some k else badAt n s (ds.drop (i + 1)) (k + 1) := by
  obtain ⟨hi, e⟩ := List.getElem?_eq_some_iff.mp h
  rw [List.drop_eq_getElem_cons hi, e]
  rfl
def spCheck : Sp := fun vs H Q _ => ∃ v d, ∃ s : Nat, vs = [v, .int s] ∧ Rp H v d ∧ short2 d ∧ 0 < s ∧ s ≤ 4 ∧ ∀ u H', Fx [] H H' → Rp H' u (checkD d s) → Q u H'
theorem ok_check_machine (z : Z mg) (c_is_integer : Cal P w K mg base CX0 "is_integer" 1 ["thing", "low", "high"] spIsInteger) (c_is_size : Cal P w K mg base CX0 "is_size" 2 ["thing"] spIsSize)
    (c_is_line : Cal P w K mg base CX0 "is_line" 3 ["thing", "many", "bound"] spIsLine) (c_has_machine_form : Cal P w K mg base CX0 "has_machine_form" 1 ["thing"] spForm) {f : Addr} {fd : FuncData} (F : Fun K "check_machine" "check_machine" s_check_machine f fd) :
    FnOk P w K mg base CX0 4 f fd ["thing", "size"] spCheck := by
  refine F.ok sc_check_machine (fun vs H Q E h => ?_) (fun cdv A outer s H vs Q E hr h => ⟨_, (pss_cons (ps_if (pt_not (pt_val (pe_cal c_is_size hr rfl pass0 (pa_cons (pv 1) pa_nil)))) (pss_one ps_never) pss_nil)
      (pss_cons (ps_if (pt_not (pt_val (pe_cal c_has_machine_form hr rfl pass0 (pa_cons (pv 0) pa_nil)))) (pss_one (ps_ret (pe_tup (pa_cons pe_str pa_nil)))) pss_nil)
      (pss_cons (ps_asg (pv 0) (pg_tT 3 rfl (pgs_cons (pg_name (i := 2) sc_check_machine.nd rfl (.inl rfl)) (pgs_cons (pg_name (i := 3) sc_check_machine.nd rfl (.inl rfl)) (pgs_cons (pg_name (i := 4) sc_check_machine.nd rfl (.inl rfl)) pgs_nil)))))
      (pss_cons (ps_for PassesOwn.never rfl (pi_enumT (by rfl) z.enumerate (pa_cons (pv 3) pa_nil)) (pg_tT 2 rfl (pgs_cons (pg_name (i := 5) sc_check_machine.nd rfl (.inl rfl)) (pgs_cons (pg_name (i := 6) sc_check_machine.nd rfl (.inl rfl)) pgs_nil)))
      (pss_one (ps_if (pt_not (pt_val (pe_cal c_is_line hr rfl pass0 (pa_cons (pv 6) (pa_cons (pv 1) (pa_cons (pe_callB call_lenT (by rfl) z.len (by decide +kernel) (pa_cons (pv 3) pa_nil)) pa_nil)))))) (pss_one (ps_ret (pe_tup (pa_cons pe_str (pa_cons (pv 5) pa_nil))))) pss_nil)))
      (pss_cons (ps_if (PW.pt (pw_or (pt_cmpR op_ne (pe_callB call_lenT (by rfl) z.len (by decide +kernel) (pa_cons (pv 4) pa_nil)) (pe_callB call_lenT (by rfl) z.len (by decide +kernel) (pa_cons (pv 3) pa_nil)) (nomark _)) (pw_or1 (pt_not (pt_val (pe_callB (cr_all rfl) (by rfl) z.all (by decide +kernel) (pa_cons (pe_lc (own := [("told", 7)]) rfl sc_check_machine.nd (pi_tup (pv 4)) (blkOk_by (own := [("told", 7)]) (N := ["thing", "size", "start", "steps", "answers", "state", "line", "told"]) (sc := (defScope s_check_machine)) (by decide +kernel)) (fun _ _ _ _ _ => (pg_name (i := 7) sc_check_machine.nd rfl (.inl rfl))) (fun _ _ _ _ _ => pts_nil) (fun _ _ _ _ _ => (pe_cal c_is_integer hr rfl pass0 (pa_cons (pv 7) (pa_cons pe_int (pa_cons pe_int pa_nil)))))) pa_nil))))))) (pss_one (ps_ret (pe_tup (pa_cons pe_str pa_nil)))) pss_nil)
      (pss_cons (ps_if (pt_not (pt_val (pe_cal c_is_integer hr rfl pass0 (pa_cons (pv 2) (pa_cons pe_int (pa_cons (pe_op op_sub (pe_callB call_lenT (by rfl) z.len (by decide +kernel) (pa_cons (pv 3) pa_nil)) pe_int) pa_nil)))))) (pss_one (ps_ret (pe_tup (pa_cons pe_str pa_nil)))) pss_nil)
      (pss_one (ps_ret pe_non)))))))), ?_⟩)
  · obtain ⟨v, d, s, rfl, _⟩ := h
    rfl
  · obtain ⟨v, d, s, rfl, rp, sh, s0, s1, q⟩ := h
    simp only [tSeq, tAsg, tOp, tUn, tCB, tCons, tNil, tVar, tC, rI, rI0, rU, tRet, tRetN, gName, tIfS, tTest, tIf, tB, tNot, tAnd, tOr, tAndV, tOrV, tNotV, tCmp, t2I, tLst, tTup, tCall, tCalK0, tNext, tChain, tSl, tPart, tNoPart, tPar, tDrop, gSub, gTupT, gCons, gNil, rSetL, rIxl, rIxt, rSlt, rEq, rNe, L2.start, tLc_eq, tFor_eq, iTup, iList, iRng1, iRng2, iEnumT, tYes, pts_nil,
  List.map_cons, List.map_nil, List.length_cons, List.length_nil, List.replicate_succ, List.replicate_zero, Nat.reduceAdd, Nat.reduceSub, Nat.add_zero, Nat.zero_add, List.cons_append, List.nil_append, List.append_nil, List.getElem?_cons_zero, List.getElem?_cons_succ, List.set_cons_zero, List.set_cons_succ, wipe,
  Option.some.injEq, exists_eq_left', exists_eq_left, V.int.injEq, V.bl.injEq, V.str.injEq, V.ref.injEq, HO.lst.injEq, HO.tup.injEq, List.cons.injEq, and_true, true_and, reduceCtorEq, false_or, or_false, false_and, and_false, exists_false, exists_and_left, exists_eq, and_assoc, if_true, if_false, Bool.false_eq_true, decide_eq_true_eq, upd_same]
    refine ⟨.int s, .int s, rfl, .int _, ?_⟩
    have e1 : isInteger (.int s) 1 4 = true := by
      show (decide ((1 : Int) ≤ s) && decide ((s : Int) ≤ 4)) = true
      rw [decide_eq_true (by omega), decide_eq_true (by omega)]
      rfl
    refine ⟨_, rfl, ?_⟩
    rw [e1]
    rw [if_neg (by decide)]
    refine ⟨v, d, rfl, rp, fun H1 f1 => ⟨_, rfl, ?_⟩⟩
    cases hf : isForm d with
    | false =>
      rw [if_pos (by decide)]
      refine ⟨by decide, fun p hp => ?_⟩
      refine q _ _ (f1.trans (Fx.new _ hp)) ?_
      unfold checkD
      rw [if_pos hf]
      exact .tup upd_same (.cons (.str _) .nil)
    | true =>
      rw [if_neg (by decide)]
      obtain ⟨d1, ss, ts, rfl, ns, nt⟩ := isForm_inv hf
      obtain ⟨a, xs, rfl, ea, r0⟩ := (f1.rp rp).tup_inv
      match xs, r0, ea with
      | [x1, x2, x3], .cons r1 (.cons r2 (.cons r3 .nil)), ea =>
      obtain ⟨b, bs, rfl, eb, rb⟩ := r2.tup_inv
      obtain ⟨c, cs, rfl, ec, rc⟩ := r3.tup_inv
      obtain ⟨hss, hss2⟩ := sh (.tup ss) (by simp)
      obtain ⟨hts, hts2⟩ := sh (.tup ts) (by simp)
      have lb := rb.len
      have lc := rc.len
      have goE : checkD (.tup [d1, .tup ss, .tup ts]) s = match badAt ss.length s ss 0 with
        | some k => .tup [.str "steps", .int k]
        | none => if decide (ts.length = ss.length) && (ts.all fun x => isInteger x 0 99) then (if isInteger d1 0 (ss.length - 1) then .non else .tup [.str "start"]) else .tup [.str "answers"] := by
        unfold checkD
        rw [hf, if_neg (by decide)]
      simp only [tSeq, tAsg, tOp, tUn, tCB, tCons, tNil, tVar, tC, rI, rI0, rU, tRet, tRetN, gName, tIfS, tTest, tIf, tB, tNot, tAnd, tOr, tAndV, tOrV, tNotV, tCmp, t2I, tLst, tTup, tCall, tCalK0, tNext, tChain, tSl, tPart, tNoPart, tPar, tDrop, gSub, gTupT, gCons, gNil, rSetL, rIxl, rIxt, rSlt, rEq, rNe, L2.start, tLc_eq, tFor_eq, iTup, iList, iRng1, iRng2, iEnumT, tYes, pts_nil,
  List.map_cons, List.map_nil, List.length_cons, List.length_nil, List.replicate_succ, List.replicate_zero, Nat.reduceAdd, Nat.reduceSub, Nat.add_zero, Nat.zero_add, List.cons_append, List.nil_append, List.append_nil, List.getElem?_cons_zero, List.getElem?_cons_succ, List.set_cons_zero, List.set_cons_succ, wipe,
  Option.some.injEq, exists_eq_left', exists_eq_left, V.int.injEq, V.bl.injEq, V.str.injEq, V.ref.injEq, HO.lst.injEq, HO.tup.injEq, List.cons.injEq, and_true, true_and, reduceCtorEq, false_or, or_false, false_and, and_false, exists_false, exists_and_left, exists_eq, and_assoc, if_true, if_false, Bool.false_eq_true, decide_eq_true_eq, upd_same, ea]
      refine ⟨_, SqT.of eb, ?_⟩
      refine for_go (walk_enumT (xs := bs)) (fun i σ H' => i ≤ bs.length ∧ Fx [] H1 H' ∧ badAt ss.length s ss 0 = badAt ss.length s (ss.drop i) i ∧ ∃ x5 x6, σ = [some (.ref a), some (.int s), some x1, some (.ref b), some (.ref c), x5, x6, none])
        ⟨Nat.zero_le _, Fx.refl _ _, rfl, none, none, rfl⟩ ?_ ?_ ?_
      · rintro i σ H' hi ⟨_, fx, _⟩
        exact fx.tup eb
      · rintro i x σ H2 H3 hi ⟨hi2, fx, eB, x5, x6, rfl⟩ ⟨T, y1, y2, rfl, hT, rfl, e1, e2⟩
        cases Option.some.inj e1
        have f3 : Fx [] H2 (upd H2 T (.tup [.int i, y2])) := Fx.new _ hT
        obtain ⟨d2, hd2, rd2⟩ := rb.at e2
        have rd3 := (fx.trans f3).rp rd2
        simp only [tSeq, tAsg, tOp, tUn, tCB, tCons, tNil, tVar, tC, rI, rI0, rU, tRet, tRetN, gName, tIfS, tTest, tIf, tB, tNot, tAnd, tOr, tAndV, tOrV, tNotV, tCmp, t2I, tLst, tTup, tCall, tCalK0, tNext, tChain, tSl, tPart, tNoPart, tPar, tDrop, gSub, gTupT, gCons, gNil, rSetL, rIxl, rIxt, rSlt, rEq, rNe, L2.start, tLc_eq, tFor_eq, iTup, iList, iRng1, iRng2, iEnumT, tYes, pts_nil,
  List.map_cons, List.map_nil, List.length_cons, List.length_nil, List.replicate_succ, List.replicate_zero, Nat.reduceAdd, Nat.reduceSub, Nat.add_zero, Nat.zero_add, List.cons_append, List.nil_append, List.append_nil, List.getElem?_cons_zero, List.getElem?_cons_succ, List.set_cons_zero, List.set_cons_succ, wipe,
  Option.some.injEq, exists_eq_left', exists_eq_left, V.int.injEq, V.bl.injEq, V.str.injEq, V.ref.injEq, HO.lst.injEq, HO.tup.injEq, List.cons.injEq, and_true, true_and, reduceCtorEq, false_or, or_false, false_and, and_false, exists_false, exists_and_left, exists_eq, and_assoc, if_true, if_false, Bool.false_eq_true, decide_eq_true_eq, upd_same]
        refine ⟨_, ((fx.trans f3).tup eb), ?_⟩
        refine ⟨y2, d2, s, bs.length, rfl, rd3, hss2 d2 (List.mem_of_getElem? hd2), fun H4 f4 => ⟨_, rfl, ?_⟩⟩
        have step := badAt_step (n := ss.length) (s := s) (k := i) hd2
        rw [lb]
        have hbad : badHere ss.length s d2 = !(isRow d2 ss.length && lenIs d2 s) := by
          unfold badHere lenIs
          cases isRow d2 ss.length <;> rfl
        cases hR : (isRow d2 ss.length && lenIs d2 s) with
        | false =>
          rw [if_pos (by decide)]
          refine ⟨by decide, fun p hp => ?_⟩
          refine q _ _ (f1.trans (((fx.trans f3).trans f4).trans (Fx.new _ hp))) ?_
          rw [goE, eB, step, if_pos (by rw [hbad, hR]; rfl)]
          exact .tup upd_same (.cons (.str _) (.cons (.int _) .nil))
        | true =>
          rw [if_neg (by decide)]
          refine ⟨by omega, (fx.trans f3).trans f4, ?_, _, rfl⟩
          rw [eB, step, if_neg (by rw [hbad, hR]; decide)]
      · rintro σ H2 ⟨_, fx, eB, x5, x6, rfl⟩
        rw [lb, List.drop_length] at eB
        have eN : badAt ss.length s ss 0 = none := eB
        rw [eN] at goE
        have e2b := fx.tup eb
        have e2c := fx.tup ec
        simp only [tSeq, tAsg, tOp, tUn, tCB, tCons, tNil, tVar, tC, rI, rI0, rU, tRet, tRetN, gName, tIfS, tTest, tIf, tB, tNot, tAnd, tOr, tAndV, tOrV, tNotV, tCmp, t2I, tLst, tTup, tCall, tCalK0, tNext, tChain, tSl, tPart, tNoPart, tPar, tDrop, gSub, gTupT, gCons, gNil, rSetL, rIxl, rIxt, rSlt, rEq, rNe, L2.start, tLc_eq, tFor_eq, iTup, iList, iRng1, iRng2, iEnumT, tYes, pts_nil,
  List.map_cons, List.map_nil, List.length_cons, List.length_nil, List.replicate_succ, List.replicate_zero, Nat.reduceAdd, Nat.reduceSub, Nat.add_zero, Nat.zero_add, List.cons_append, List.nil_append, List.append_nil, List.getElem?_cons_zero, List.getElem?_cons_succ, List.set_cons_zero, List.set_cons_succ, wipe,
  Option.some.injEq, exists_eq_left', exists_eq_left, V.int.injEq, V.bl.injEq, V.str.injEq, V.ref.injEq, HO.lst.injEq, HO.tup.injEq, List.cons.injEq, and_true, true_and, reduceCtorEq, false_or, or_false, false_and, and_false, exists_false, exists_and_left, exists_eq, and_assoc, if_true, if_false, Bool.false_eq_true, decide_eq_true_eq, upd_same, e2b, e2c]
        have fin : ∀ (d : LT.D) (x : Str), checkD (.tup [d1, .tup ss, .tup ts]) s = .tup [.str x] → ∀ H5 p, Fx [] H2 H5 → H5 p = none → Q (.ref p) (upd H5 p (.tup [.str x])) := by
          intro d x e H5 p f5 hp
          refine q _ _ (f1.trans ((fx.trans f5).trans (Fx.new _ hp))) ?_
          rw [e]
          exact .tup upd_same (.cons (.str _) .nil)
        refine ⟨rfl, ?_⟩
        rw [lb, lc]
        by_cases hl : ts.length = ss.length
        · rw [if_neg (by simp [hl])]
          refine ⟨⟨_, SqT.of e2c⟩, fun D hD => ?_⟩
          refine lc_bools (fun x => isInteger x 0 99) e2c (fx.rpAll rc) (by omega) hD (fun x d H4 N1 N2 hd rx hN => ?_) fun H4 f4 hy => ?_
          · simp only [tSeq, tAsg, tOp, tUn, tCB, tCons, tNil, tVar, tC, rI, rI0, rU, tRet, tRetN, gName, tIfS, tTest, tIf, tB, tNot, tAnd, tOr, tAndV, tOrV, tNotV, tCmp, t2I, tLst, tTup, tCall, tCalK0, tNext, tChain, tSl, tPart, tNoPart, tPar, tDrop, gSub, gTupT, gCons, gNil, rSetL, rIxl, rIxt, rSlt, rEq, rNe, L2.start, tLc_eq, tFor_eq, iTup, iList, iRng1, iRng2, iEnumT, tYes, pts_nil,
  List.map_cons, List.map_nil, List.length_cons, List.length_nil, List.replicate_succ, List.replicate_zero, Nat.reduceAdd, Nat.reduceSub, Nat.add_zero, Nat.zero_add, List.cons_append, List.nil_append, List.append_nil, List.getElem?_cons_zero, List.getElem?_cons_succ, List.set_cons_zero, List.set_cons_succ, wipe,
  Option.some.injEq, exists_eq_left', exists_eq_left, V.int.injEq, V.bl.injEq, V.str.injEq, V.ref.injEq, HO.lst.injEq, HO.tup.injEq, List.cons.injEq, and_true, true_and, reduceCtorEq, false_or, or_false, false_and, and_false, exists_false, exists_and_left, exists_eq, and_assoc, if_true, if_false, Bool.false_eq_true, decide_eq_true_eq, upd_same]
            exact ⟨x, d, 0, 99, rfl, rx, hN _ (Fx.refl _ _)⟩
          · refine ⟨D, _, rfl, SqL.of hy, _, rfl, ?_⟩
            have eA : (List.all (List.map (fun x => isInteger x 0 99) ts) id) = ts.all fun x => isInteger x 0 99 := by
              rw [List.all_map]
              rfl
            rw [eA]
            cases hA : (ts.all fun x => isInteger x 0 99) with
            | false =>
              rw [if_pos (by decide)]
              refine ⟨by decide, fun p hp => fin d1 "answers" ?_ _ p f4 hp⟩
              rw [goE, hA, if_neg (by simp)]
            | true =>
              rw [if_neg (by decide)]
              refine ⟨bs, f4.tup e2b, x1, d1, 0, _, rfl, f4.rp (fx.rp r1), _, rfl, ?_⟩
              rw [lb]
              cases hS : isInteger d1 0 (ss.length - 1) with
              | false =>
                rw [if_pos (by decide)]
                refine ⟨by decide, fun p hp => fin d1 "start" ?_ _ p f4 hp⟩
                rw [goE, hA, if_pos (by simp [hl]), if_neg (by rw [hS]; decide)]
              | true =>
                rw [if_neg (by decide)]
                refine q _ _ (f1.trans (fx.trans f4)) ?_
                rw [goE, hA, if_pos (by simp [hl]), if_pos hS]
                exact .non
        · rw [if_pos (by simp; omega)]
          refine ⟨by decide, fun p hp => fin d1 "answers" ?_ _ p (Fx.refl _ _) hp⟩
          rw [goE, if_neg (by simp [hl])]
end
end K01
namespace K01
open PySem PySem.Spec PyProof.Rows L2 LT
theorem isRow_ints (r : List Int) (n : Int) : isRow (intsD r) n = r.all fun x => decide (0 ≤ x) && decide (x ≤ n - 1) := by
  show (r.map LT.D.int).all _ = _
  rw [List.all_map]
  rfl
theorem badAt_none {n s : Nat} : ∀ (ds : List LT.D) (k : Nat), (∀ d ∈ ds, badHere n s d = false) → badAt n s ds k = none
  | [], _, _ => rfl
  | d :: ds, k, h => by
    have h1 := h d List.mem_cons_self
    show (if badHere n s d = true then some k else badAt n s ds (k + 1)) = none
    rw [h1, if_neg (by decide)]
    exact badAt_none ds _ fun x hx => h x (List.mem_cons_of_mem _ hx)
theorem checkD_mac {m : Mac} {wd s : Nat} (h : MacOk m wd) : checkD (macD m) s = if s = wd then .non else .tup [.str "steps", .int 0] := by
  have hne : m.steps ≠ [] := fun z => by have := h.pos; rw [z] at this; exact absurd this (by decide)
  have hna : m.answers ≠ [] := fun z => by have := h.ans; rw [z] at this; have := h.pos; simp_all
  have hf : isForm (macD m) = true := by
    unfold macD intsD isForm
    cases e : m.steps with
    | nil => exact absurd e hne
    | cons a b =>
      cases e2 : m.answers with
      | nil => exact absurd e2 hna
      | cons c d => rfl
  have row : ∀ r ∈ m.steps, isRow (intsD r) (m.steps.length : Nat) = true := by
    intro r hr
    rw [isRow_ints, List.all_eq_true]
    intro x hx
    obtain ⟨x0, x1⟩ := (h.row r hr).2 x hx
    rw [decide_eq_true x0, decide_eq_true (by omega)]
    rfl
  unfold checkD
  rw [hf, if_neg (by decide)]
  show (match badAt (m.steps.map intsD).length s (m.steps.map intsD) 0 with
    | some k => LT.D.tup [.str "steps", .int k]
    | none => if decide ((m.answers.map LT.D.int).length = (m.steps.map intsD).length) && ((m.answers.map LT.D.int).all fun x => isInteger x 0 99) then (if isInteger (.int m.start) 0 ((m.steps.map intsD).length - 1) then .non else .tup [.str "start"]) else .tup [.str "answers"]) = _
  rw [List.length_map, List.length_map]
  by_cases hs : s = wd
  · rw [if_pos hs, badAt_none]
    · have a1 : ((m.answers.map LT.D.int).all fun x => isInteger x 0 99) = true := by
        rw [List.all_map, List.all_eq_true]
        intro x hx
        obtain ⟨x0, x1⟩ := h.told x hx
        show (decide (0 ≤ x) && decide (x ≤ 99)) = true
        rw [decide_eq_true x0, decide_eq_true x1]
        rfl
      have a2 : isInteger (.int m.start) 0 ((m.steps.length : Nat) - 1) = true := by
        show (decide (0 ≤ m.start) && decide (m.start ≤ (m.steps.length : Nat) - 1)) = true
        have := h.st1
        rw [decide_eq_true h.st0, decide_eq_true (by omega)]
        rfl
      show (if (decide (m.answers.length = m.steps.length) && _) = true then _ else _) = _
      rw [a1, decide_eq_true h.ans, if_pos (by rfl), if_pos a2]
    · intro d hd
      obtain ⟨r, hr, rfl⟩ := List.mem_map.mp hd
      unfold badHere
      rw [row r hr]
      show (!true || !decide ((r.map LT.D.int).length = s)) = false
      rw [List.length_map, (h.row r hr).1, decide_eq_true hs.symm]
      rfl
  · rw [if_neg hs]
    cases e : m.steps with
    | nil => exact absurd e hne
    | cons r rs =>
      have hb : badHere (r :: rs).length s (intsD r) = true := by
        unfold badHere
        show (!_ || !decide ((r.map LT.D.int).length = s)) = true
        rw [List.length_map, (h.row r (by rw [e]; exact List.mem_cons_self)).1, decide_eq_false (fun z => hs z.symm)]
        exact Bool.or_true _
      show (match (if badHere (r :: rs).length s (intsD r) = true then some 0 else badAt (r :: rs).length s (rs.map intsD) (0 + 1)) with
        | some k => LT.D.tup [.str "steps", .int k]
        | none => _) = _
      rw [if_pos hb]
      rfl
theorem short2_mac {m : Mac} {wd : Nat} (h : MacOk m wd) (hw : wd ≤ 1000) : short2 (macD m) := by
  intro x hx
  have hf := h.few
  have ha := h.ans
  simp only [List.mem_cons, List.not_mem_nil, or_false] at hx
  rcases hx with rfl | rfl | rfl
  · trivial
  · refine ⟨by rw [List.length_map]; omega, fun y hy => ?_⟩
    obtain ⟨r, hr, rfl⟩ := List.mem_map.mp hy
    show (r.map LT.D.int).length ≤ 1000000
    rw [List.length_map, (h.row r hr).1]
    omega
  · refine ⟨by rw [List.length_map]; omega, fun y hy => ?_⟩
    obtain ⟨r, hr, rfl⟩ := List.mem_map.mp hy
    trivial
section
variable {P : Program} {w : World} {K : PySem.W.Frag} {mg : Str → Option Value} {base : Heap}
def spSize : Sp := fun vs H Q _ => ∃ v m, ∃ wd : Nat, vs = [v] ∧ Rp H v (macD m) ∧ MacOk m wd ∧ 0 < wd ∧ wd ≤ 4 ∧ ∀ H', Fx [] H H' → Q (.int wd) H'
theorem ok_machine_size (z : Z mg) (c_check_machine : Cal P w K mg base CX0 "check_machine" 4 ["thing", "size"] spCheck) {f : Addr} {fd : FuncData} (F : Fun K "machine_size" "machine_size" s_machine_size f fd) :
    FnOk P w K mg base CX0 5 f fd ["machine"] spSize := by
  refine F.ok sc_machine_size (fun vs H Q E h => ?_) (fun cdv A outer s H vs Q E hr h => ⟨_, (pss_cons (ps_for PassesOwn.never rfl (pi_range2 (by rfl) z.range (pa_cons pe_int (pa_cons pe_int pa_nil))) (pg_name (i := 1) sc_machine_size.nd rfl (.inl rfl))
      (pss_one (ps_if (pt_cmpR op_isN (pe_cal c_check_machine hr rfl pass0 (pa_cons (pv 0) (pa_cons (pv 1) pa_nil))) pe_non (nomark _)) (pss_one (ps_ret (pv 1))) pss_nil)))
      (pss_one ps_never)), ?_⟩)
  · obtain ⟨v, m, wd, rfl, _⟩ := h
    rfl
  · obtain ⟨v, m, wd, rfl, rm, mo, w0, w1, q⟩ := h
    simp only [tSeq, tAsg, tOp, tUn, tCB, tCons, tNil, tVar, tC, rI, rI0, rU, tRet, tRetN, gName, tIfS, tTest, tIf, tB, tNot, tAnd, tOr, tAndV, tOrV, tNotV, tCmp, t2I, tLst, tTup, tCall, tCalK0, tNext, tChain, tSl, tPart, tNoPart, tPar, tDrop, gSub, gTupT, gCons, gNil, rSetL, rIxl, rIxt, rSlt, rEq, rNe, L2.start, tLc_eq, tFor_eq, iTup, iList, iRng1, iRng2, iEnumT, tYes, pts_nil,
  List.map_cons, List.map_nil, List.length_cons, List.length_nil, List.replicate_succ, List.replicate_zero, Nat.reduceAdd, Nat.reduceSub, Nat.add_zero, Nat.zero_add, List.cons_append, List.nil_append, List.append_nil, List.getElem?_cons_zero, List.getElem?_cons_succ, List.set_cons_zero, List.set_cons_succ, wipe,
  Option.some.injEq, exists_eq_left', exists_eq_left, V.int.injEq, V.bl.injEq, V.str.injEq, V.ref.injEq, HO.lst.injEq, HO.tup.injEq, List.cons.injEq, and_true, true_and, reduceCtorEq, false_or, or_false, false_and, and_false, exists_false, exists_and_left, exists_eq, and_assoc, if_true, if_false, Bool.false_eq_true, decide_eq_true_eq, upd_same]
    refine ⟨by omega, by omega, by omega, by omega, ?_⟩
    refine for_go walk_range (fun i σ H' => i < wd ∧ Fx [] H H' ∧ ∃ x, σ = [some v, x]) ⟨w0, Fx.refl _ _, none, rfl⟩ ?_ ?_ ?_
    · intros; trivial
    · rintro i x σ H2 H3 hi ⟨hi2, fx, y, rfl⟩ ⟨rfl, rfl⟩
      simp only [tSeq, tAsg, tOp, tUn, tCB, tCons, tNil, tVar, tC, rI, rI0, rU, tRet, tRetN, gName, tIfS, tTest, tIf, tB, tNot, tAnd, tOr, tAndV, tOrV, tNotV, tCmp, t2I, tLst, tTup, tCall, tCalK0, tNext, tChain, tSl, tPart, tNoPart, tPar, tDrop, gSub, gTupT, gCons, gNil, rSetL, rIxl, rIxt, rSlt, rEq, rNe, L2.start, tLc_eq, tFor_eq, iTup, iList, iRng1, iRng2, iEnumT, tYes, pts_nil,
  List.map_cons, List.map_nil, List.length_cons, List.length_nil, List.replicate_succ, List.replicate_zero, Nat.reduceAdd, Nat.reduceSub, Nat.add_zero, Nat.zero_add, List.cons_append, List.nil_append, List.append_nil, List.getElem?_cons_zero, List.getElem?_cons_succ, List.set_cons_zero, List.set_cons_succ, wipe,
  Option.some.injEq, exists_eq_left', exists_eq_left, V.int.injEq, V.bl.injEq, V.str.injEq, V.ref.injEq, HO.lst.injEq, HO.tup.injEq, List.cons.injEq, and_true, true_and, reduceCtorEq, false_or, or_false, false_and, and_false, exists_false, exists_and_left, exists_eq, and_assoc, if_true, if_false, Bool.false_eq_true, decide_eq_true_eq, upd_same]
      refine ⟨v, macD m, i + 1, by rw [Int.natCast_add, Int.add_comm]; rfl, fx.rp rm, short2_mac mo (by omega), by omega, by omega, fun u H4 f4 ru => ?_⟩
      rw [checkD_mac mo] at ru
      by_cases hw : i + 1 = wd
      · rw [if_pos hw] at ru
        cases ru
        have e : (1 : Int) + i = wd := by omega
        rw [e]
        exact q _ (fx.trans f4)
      · rw [if_neg hw] at ru
        cases ru
        exact ⟨by omega, fx.trans f4, _, rfl⟩
    · rintro σ H2 ⟨h4, _⟩
      have : (5 - 1 : Int).toNat = 4 := rfl
      rw [this] at h4
      omega
def spAnswerF : Sp := fun vs H Q _ => ∃ v l m, ∃ wd : Nat, ∃ row, vs = [v, l] ∧ Rp H v (macD m) ∧ MacOk m wd ∧ 0 < wd ∧ wd ≤ 4 ∧ Rp H l (intsD row) ∧ row.length ≤ 1000000 ∧ (∀ x ∈ row, 0 ≤ x ∧ x < (wd : Int)) ∧ ∀ H', Fx [] H H' → Q (.int (ansM m row)) H'
theorem ok_answer (z : Z mg) (c_is_row : Cal P w K mg base CX0 "is_row" 2 ["thing", "size"] spIsRow) (c_machine_size : Cal P w K mg base CX0 "machine_size" 5 ["machine"] spSize)
    (c_answer_on : Cal P w K mg base CX0 "answer_on" 2 ["machine", "row"] spAnswer) {f : Addr} {fd : FuncData} (F : Fun K "answer" "answer" s_answer f fd) : FnOk P w K mg base CX0 6 f fd ["machine", "row"] spAnswerF := by
  refine F.ok sc_answer (fun vs H Q E h => ?_) (fun cdv A outer s H vs Q E hr h => ⟨_, (pss_cons (ps_if (pt_not (pt_val (pe_cal c_is_row hr rfl pass0 (pa_cons (pv 1) (pa_cons (pe_cal c_machine_size hr rfl pass0 (pa_cons (pv 0) pa_nil)) pa_nil))))) (pss_one ps_never) pss_nil)
      (pss_one (ps_ret (pe_cal c_answer_on hr rfl pass0 (pa_cons (pv 0) (pa_cons (pv 1) pa_nil)))))), ?_⟩)
  · obtain ⟨v, l, m, wd, row, rfl, _⟩ := h
    rfl
  · obtain ⟨v, l, m, wd, row, rfl, rm, mo, w0, w1, rl, hlen, hrow, q⟩ := h
    simp only [tSeq, tAsg, tOp, tUn, tCB, tCons, tNil, tVar, tC, rI, rI0, rU, tRet, tRetN, gName, tIfS, tTest, tIf, tB, tNot, tAnd, tOr, tAndV, tOrV, tNotV, tCmp, t2I, tLst, tTup, tCall, tCalK0, tNext, tChain, tSl, tPart, tNoPart, tPar, tDrop, gSub, gTupT, gCons, gNil, rSetL, rIxl, rIxt, rSlt, rEq, rNe, L2.start, tLc_eq, tFor_eq, iTup, iList, iRng1, iRng2, iEnumT, tYes, pts_nil,
  List.map_cons, List.map_nil, List.length_cons, List.length_nil, List.replicate_succ, List.replicate_zero, Nat.reduceAdd, Nat.reduceSub, Nat.add_zero, Nat.zero_add, List.cons_append, List.nil_append, List.append_nil, List.getElem?_cons_zero, List.getElem?_cons_succ, List.set_cons_zero, List.set_cons_succ, wipe,
  Option.some.injEq, exists_eq_left', exists_eq_left, V.int.injEq, V.bl.injEq, V.str.injEq, V.ref.injEq, HO.lst.injEq, HO.tup.injEq, List.cons.injEq, and_true, true_and, reduceCtorEq, false_or, or_false, false_and, and_false, exists_false, exists_and_left, exists_eq, and_assoc, if_true, if_false, Bool.false_eq_true, decide_eq_true_eq, upd_same]
    refine ⟨v, m, wd, rfl, rm, mo, w0, w1, fun H1 f1 => ?_⟩
    refine ⟨l, intsD row, wd, rfl, f1.rp rl, by show (row.map LT.D.int).length ≤ 1000000; rw [List.length_map]; exact hlen, fun H2 f2 => ⟨_, rfl, ?_⟩⟩
    have hR : isRow (intsD row) wd = true := by
      rw [isRow_ints, List.all_eq_true]
      intro x hx
      obtain ⟨x0, x1⟩ := hrow x hx
      rw [decide_eq_true x0, decide_eq_true (by omega)]
      rfl
    rw [hR, if_neg (by decide)]
    exact ⟨v, l, m, wd, row, rfl, f2.rp (f1.rp rm), mo, f2.rp (f1.rp rl), hrow, q _ (f1.trans f2)⟩
def spLaw (K : PySem.W.Frag) : Sp := fun vs H Q _ => ∃ (a : Addr) (ns : List Int), vs = [.ref a] ∧ SqL K H a (ns.map V.int) ∧ ns.length ≤ 63 ∧ ∀ H', Q (.bl true) H'
theorem ok_law (z : Z mg) (c__law_purse : Cal P w K mg base CX0 "_law_purse" 1 ["_law_script", "_law_at"] (spPurse K)) (c__law_draw : Cal P w K mg base CX0 "_law_draw" 2 ["_law_purse_here", "_law_out_of"] spDraw)
    (c__law_machine : Cal P w K mg base CX0 "_law_machine" 3 ["_law_purse_here", "_law_wide", "_law_most"] spMachine) (c__law_row : Cal P w K mg base CX0 "_law_row" 3 ["_law_purse_here", "_law_wide", "_law_most"] spRow)
    (c__law_answer : Cal P w K mg base CX0 "_law_answer" 2 ["_law_asker", "_law_line"] spAnswer) (c_check_machine : Cal P w K mg base CX0 "check_machine" 4 ["thing", "size"] spCheck) (c_answer : Cal P w K mg base CX0 "answer" 6 ["machine", "row"] spAnswerF)
    (k_check_machine : CalK P w K mg base CX0 "check_machine" 4 ["thing", "size"] ["thing", "size"] (fun zs => zs) spCheck) (k_answer : CalK P w K mg base CX0 "answer" 6 ["machine", "row"] ["row", "machine"] List.reverse spAnswerF)
    {f : Addr} {fd : FuncData} (F : Fun K "law" "law" s_law f fd) : FnOk P w K mg base CX0 7 f fd ["_law_script"] (spLaw K) := by
  refine F.ok sc_law (fun vs H Q E h => ?_) (fun cdv A outer s H vs Q E hr h => ⟨_, (pss_cons (ps_for PassesOwn.never rfl (pi_range1 (by rfl) z.range (pa_cons (pe_op op_add pe_int (pe_callB (call_min2 rfl) (by rfl) z.min (by decide +kernel) (pa_cons pe_int (pa_cons (pe_callB call_len_seq (by rfl) z.len (by decide +kernel) (pa_cons (pv 0) pa_nil)) pa_nil)))) pa_nil)) (pg_name (i := 1) sc_law.nd rfl (.inl rfl))
      (pss_cons (ps_set (i := 2) sc_law.nd rfl (.inl rfl) (pe_cal c__law_purse hr rfl pass0 (pa_cons (pv 0) (pa_cons (pv 1) pa_nil))))
      (pss_one (ps_for PassesOwn.never rfl (pi_range1 (by rfl) z.range (pa_cons pe_int pa_nil)) (pg_name (i := 3) sc_law.nd rfl (.inl rfl))
      (pss_cons (ps_set (i := 4) sc_law.nd rfl (.inl rfl) (pe_op op_add pe_int (pe_cal c__law_draw hr rfl pass0 (pa_cons (pv 2) (pa_cons pe_int pa_nil)))))
      (pss_cons (ps_set (i := 5) sc_law.nd rfl (.inl rfl) (pe_cal c__law_machine hr rfl pass0 (pa_cons (pv 2) (pa_cons (pv 4) (pa_cons pe_int pa_nil)))))
      (pss_cons (ps_if (PW.pt (pw_or (pt_cmpR op_notN (pe_cal c_check_machine hr rfl pass0 (pa_cons (pv 5) (pa_cons (pv 4) pa_nil))) pe_non (nomark _)) (pw_or1 (pt_cmpR op_notN (pe_calK0 k_check_machine hr rfl pass0 (pk_cons (pv 5) (pk_cons (pv 4) pk_nil))) pe_non (nomark _))))) (pss_one (ps_ret pe_bl)) pss_nil)
      (pss_one (ps_for PassesOwn.never rfl (pi_list (pe_lst (pa_cons (pe_tup pa_nil) (pa_cons (pe_cal c__law_row hr rfl pass0 (pa_cons (pv 2) (pa_cons (pv 4) (pa_cons pe_int pa_nil)))) (pa_cons (pe_cal c__law_row hr rfl pass0 (pa_cons (pv 2) (pa_cons (pv 4) (pa_cons pe_int pa_nil)))) (pa_cons (pe_cal c__law_row hr rfl pass0 (pa_cons (pv 2) (pa_cons (pv 4) (pa_cons pe_int pa_nil)))) pa_nil)))))) (pg_name (i := 6) sc_law.nd rfl (.inl rfl))
      (pss_cons (ps_set (i := 7) sc_law.nd rfl (.inl rfl) (pe_cal c__law_answer hr rfl pass0 (pa_cons (pv 5) (pa_cons (pv 6) pa_nil))))
      (pss_cons (ps_if (PW.pt (pw_or (pt_cmpR op_ne (pe_cal c_answer hr rfl pass0 (pa_cons (pv 5) (pa_cons (pv 6) pa_nil))) (pv 7) (nomark _)) (pw_or1 (pt_cmpR op_ne (pe_calK0 k_answer hr rfl pass0 (pk_cons (pv 6) (pk_cons (pv 5) pk_nil))) (pv 7) (nomark _))))) (pss_one (ps_ret pe_bl)) pss_nil)
      (pss_one (ps_if (pt_val (pe_callB (call_isiE K rfl) (by rfl) z.isinstance (by decide +kernel) (pa_cons (pe_cal c_answer hr rfl pass0 (pa_cons (pv 5) (pa_cons (pv 6) pa_nil))) (pa_cons (pe_bltn (v := .ty "bool") (by rfl) z.bool (by decide +kernel) rfl) pa_nil)))) (pss_one (ps_ret pe_bl)) pss_nil)))))))))))))
      (pss_one (ps_ret (pe_cmpR op_eq (pe_cal c_answer hr rfl pass0 (pa_cons (pe_tup (pa_cons pe_int (pa_cons (pe_tup (pa_cons (pe_tup (pa_cons pe_int pa_nil)) pa_nil)) (pa_cons (pe_tup (pa_cons pe_int pa_nil)) pa_nil)))) (pa_cons (pe_op op_repT (pe_tup (pa_cons pe_int pa_nil)) pe_int) pa_nil))) pe_int (nomark _))))), ?_⟩)
  · obtain ⟨a, ns, rfl, _⟩ := h
    rfl
  · obtain ⟨a, ns, rfl, hS, hl, q⟩ := h
    simp only [tSeq, tAsg, tOp, tUn, tCB, tCons, tNil, tVar, tC, rI, rI0, rU, tRet, tRetN, gName, tIfS, tTest, tIf, tB, tNot, tAnd, tOr, tAndV, tOrV, tNotV, tCmp, t2I, tLst, tTup, tCall, tCalK0, tNext, tChain, tSl, tPart, tNoPart, tPar, tDrop, gSub, gTupT, gCons, gNil, rSetL, rIxl, rIxt, rSlt, rEq, rNe, L2.start, tLc_eq, tFor_eq, iTup, iList, iRng1, iRng2, iEnumT, tYes, pts_nil,
  List.map_cons, List.map_nil, List.length_cons, List.length_nil, List.replicate_succ, List.replicate_zero, Nat.reduceAdd, Nat.reduceSub, Nat.add_zero, Nat.zero_add, List.cons_append, List.nil_append, List.append_nil, List.getElem?_cons_zero, List.getElem?_cons_succ, List.set_cons_zero, List.set_cons_succ, wipe,
  Option.some.injEq, exists_eq_left', exists_eq_left, V.int.injEq, V.bl.injEq, V.str.injEq, V.ref.injEq, HO.lst.injEq, HO.tup.injEq, List.cons.injEq, and_true, true_and, reduceCtorEq, false_or, or_false, false_and, and_false, exists_false, exists_and_left, exists_eq, and_assoc, if_true, if_false, Bool.false_eq_true, decide_eq_true_eq, upd_same]
    refine ⟨_, .inl hS, ?_⟩
    rw [List.length_map]
    generalize hT : (1 + if (ns.length : Int) < 6 then (ns.length : Int) else 6) = T
    have hT0 : 0 ≤ T ∧ T ≤ 7 := by
      rw [← hT]
      split <;> omega
    refine ⟨by omega, by omega, ?_⟩
    refine for_go walk_range (fun i σ H' => Fx [] H H' ∧ ∃ x1 x2 x3 x4 x5 x6 x7, σ = [some (.ref a), x1, x2, x3, x4, x5, x6, x7]) ⟨Fx.refl _ _, _, _, _, _, _, _, _, rfl⟩ ?_ ?_ ?_
    · intros; trivial
    · rintro i x σ H1 H2 hi ⟨f1, x1, x2, x3, x4, x5, x6, x7, rfl⟩ ⟨rfl, rfl⟩
      simp only [tSeq, tAsg, tOp, tUn, tCB, tCons, tNil, tVar, tC, rI, rI0, rU, tRet, tRetN, gName, tIfS, tTest, tIf, tB, tNot, tAnd, tOr, tAndV, tOrV, tNotV, tCmp, t2I, tLst, tTup, tCall, tCalK0, tNext, tChain, tSl, tPart, tNoPart, tPar, tDrop, gSub, gTupT, gCons, gNil, rSetL, rIxl, rIxt, rSlt, rEq, rNe, L2.start, tLc_eq, tFor_eq, iTup, iList, iRng1, iRng2, iEnumT, tYes, pts_nil,
  List.map_cons, List.map_nil, List.length_cons, List.length_nil, List.replicate_succ, List.replicate_zero, Nat.reduceAdd, Nat.reduceSub, Nat.add_zero, Nat.zero_add, List.cons_append, List.nil_append, List.append_nil, List.getElem?_cons_zero, List.getElem?_cons_succ, List.set_cons_zero, List.set_cons_succ, wipe,
  Option.some.injEq, exists_eq_left', exists_eq_left, V.int.injEq, V.bl.injEq, V.str.injEq, V.ref.injEq, HO.lst.injEq, HO.tup.injEq, List.cons.injEq, and_true, true_and, reduceCtorEq, false_or, or_false, false_and, and_false, exists_false, exists_and_left, exists_eq, and_assoc, if_true, if_false, Bool.false_eq_true, decide_eq_true_eq, upd_same]
      refine ⟨a, ns, i, by rw [Int.zero_add], f1.sql hS, by omega, fun p H2 hp f2 pu2 => ?_⟩
      have hpH : H p = none := f1.fresh hp
      refine ⟨by omega, by omega, ?_⟩
      refine for_go walk_range (fun j σ H' => Fx [] H H' ∧ Pu (1000 * i + j * 600) H' p ∧ ∃ x3 x4 x5 x6 x7, σ = [some (.ref a), some (.int (0 + i)), some (.ref p), x3, x4, x5, x6, x7])
        ⟨f1.trans f2, pu2.mono (by omega), _, _, _, _, _, rfl⟩ ?_ ?_ ?_
      · intros; trivial
      · rintro j x σ H3 H4 hj ⟨f3, pu3, y3, y4, y5, y6, y7, rfl⟩ ⟨rfl, rfl⟩
        have hj3 : j < 3 := hj
        simp only [tSeq, tAsg, tOp, tUn, tCB, tCons, tNil, tVar, tC, rI, rI0, rU, tRet, tRetN, gName, tIfS, tTest, tIf, tB, tNot, tAnd, tOr, tAndV, tOrV, tNotV, tCmp, t2I, tLst, tTup, tCall, tCalK0, tNext, tChain, tSl, tPart, tNoPart, tPar, tDrop, gSub, gTupT, gCons, gNil, rSetL, rIxl, rIxt, rSlt, rEq, rNe, L2.start, tLc_eq, tFor_eq, iTup, iList, iRng1, iRng2, iEnumT, tYes, pts_nil,
  List.map_cons, List.map_nil, List.length_cons, List.length_nil, List.replicate_succ, List.replicate_zero, Nat.reduceAdd, Nat.reduceSub, Nat.add_zero, Nat.zero_add, List.cons_append, List.nil_append, List.append_nil, List.getElem?_cons_zero, List.getElem?_cons_succ, List.set_cons_zero, List.set_cons_succ, wipe,
  Option.some.injEq, exists_eq_left', exists_eq_left, V.int.injEq, V.bl.injEq, V.str.injEq, V.ref.injEq, HO.lst.injEq, HO.tup.injEq, List.cons.injEq, and_true, true_and, reduceCtorEq, false_or, or_false, false_and, and_false, exists_false, exists_and_left, exists_eq, and_assoc, if_true, if_false, Bool.false_eq_true, decide_eq_true_eq, upd_same]
        refine ⟨p, 4, _, rfl, by decide, by decide, pu3, by omega, fun d H4 d0 d1 f4 pu4 => ?_⟩
        obtain ⟨wd, hwd⟩ : ∃ wd : Nat, (1 : Int) + d = wd := ⟨(1 + d).toNat, by omega⟩
        refine ⟨d, rfl, ?_⟩
        rw [hwd]
        refine ⟨p, wd, 6, _, rfl, by omega, by omega, by decide, by decide, pu4, by omega, fun v H5 m mo hm f5 pu5 r5 => ?_⟩
        have w0 : 0 < wd := by omega
        have w4 : wd ≤ 4 := by omega
        have f5H : Fx [] H H5 := f3.drop (f4.trans f5) hpH
        refine ⟨v, macD m, wd, rfl, r5, short2_mac mo (by omega), w0, w4, fun u H6 f6 ru => ?_⟩
        rw [checkD_mac mo, if_pos rfl] at ru
        cases ru
        rw [if_neg (by decide)]
        refine ⟨v, macD m, wd, rfl, f6.rp r5, short2_mac mo (by omega), w0, w4, fun u H7 f7 ru => ?_⟩
        rw [checkD_mac mo, if_pos rfl] at ru
        cases ru
        rw [if_neg (by decide)]
        refine ⟨by decide, fun p0 hp0 => ?_⟩
        have f8 := (f6.trans f7).trans (Fx.new (o := .tup []) [] hp0)
        have r0 : Rp (upd H7 p0 (.tup [])) (.ref p0) (intsD []) := Rp.of_ints upd_same
        refine ⟨p, wd, 1, _, rfl, by omega, by omega, by decide, pu5.fx f8 (fun z => nomatch z), by omega, fun v1 H9 row1 l1 b1 f9 pu9 r1 => ?_⟩
        refine ⟨p, wd, 8, _, rfl, by omega, by omega, by decide, pu9, by omega, fun v2 H10 row2 l2 b2 f10 pu10 r2 => ?_⟩
        refine ⟨p, wd, 60, _, rfl, by omega, by omega, by decide, pu10, by omega, fun v3 H11 row3 l3 b3 f11 pu11 r3 => ?_⟩
        refine ⟨by decide, fun L hL => ⟨⟨_, SqL.of upd_same⟩, ?_⟩⟩
        have f12 : Fx [] H11 (upd H11 L (.lst [.ref p0, v1, v2, v3])) := Fx.new _ hL
        generalize hH12 : upd H11 L (.lst [.ref p0, v1, v2, v3]) = H12 at f12
        have eL : H12 L = some (.lst [.ref p0, v1, v2, v3]) := by rw [← hH12, upd_same]
        have fH12 : Fx [] H H12 := (((f5H.trans f8).drop f9 hpH).drop (f10.trans f11) hpH).trans f12
        have rm12 : Rp H12 v (macD m) := f12.rp (f11.rp (f10.rp (f9.rp (f8.rp r5))))
        have pu12 : Pu (1000 * i + j * 600 + 600) H12 p := (pu11.fx f12 (fun z => nomatch z)).mono (by omega)
        have rows : ∀ x ∈ [V.ref p0, v1, v2, v3], ∃ row, Rp H12 x (intsD row) ∧ row.length ≤ 1000000 ∧ ∀ y ∈ row, 0 ≤ y ∧ y < (wd : Int) := by
          intro x hx
          simp only [List.mem_cons, List.not_mem_nil, or_false] at hx
          rcases hx with rfl | rfl | rfl | rfl
          · exact ⟨[], f12.rp (f11.rp (f10.rp (f9.rp r0))), by decide, fun y hy => nomatch hy⟩
          · exact ⟨row1, f12.rp (f11.rp (f10.rp r1)), by omega, b1⟩
          · exact ⟨row2, f12.rp (f11.rp r2), by omega, b2⟩
          · exact ⟨row3, f12.rp r3, by omega, b3⟩
        clear hH12
        refine for_go (walk_list (xs := [V.ref p0, v1, v2, v3])) (fun k σ H' => Fx [] H12 H' ∧ ∃ x6 x7, σ = [some (.ref a), some (.int (0 + i)), some (.ref p), some (.int (0 + j)), some (.int wd), some v, x6, x7]) ⟨Fx.refl _ _, _, _, rfl⟩ ?_ ?_ ?_
        · rintro k σ H' _ ⟨g, _⟩
          exact SqL.of (g.all eL)
        · rintro k x σ H13 H14 hk ⟨g, z6, z7, rfl⟩ ⟨rfl, hx⟩
          obtain ⟨row, rx, lx, bx⟩ := rows x (List.mem_of_getElem? hx)
          simp only [tSeq, tAsg, tOp, tUn, tCB, tCons, tNil, tVar, tC, rI, rI0, rU, tRet, tRetN, gName, tIfS, tTest, tIf, tB, tNot, tAnd, tOr, tAndV, tOrV, tNotV, tCmp, t2I, tLst, tTup, tCall, tCalK0, tNext, tChain, tSl, tPart, tNoPart, tPar, tDrop, gSub, gTupT, gCons, gNil, rSetL, rIxl, rIxt, rSlt, rEq, rNe, L2.start, tLc_eq, tFor_eq, iTup, iList, iRng1, iRng2, iEnumT, tYes, pts_nil,
  List.map_cons, List.map_nil, List.length_cons, List.length_nil, List.replicate_succ, List.replicate_zero, Nat.reduceAdd, Nat.reduceSub, Nat.add_zero, Nat.zero_add, List.cons_append, List.nil_append, List.append_nil, List.getElem?_cons_zero, List.getElem?_cons_succ, List.set_cons_zero, List.set_cons_succ, wipe,
  Option.some.injEq, exists_eq_left', exists_eq_left, V.int.injEq, V.bl.injEq, V.str.injEq, V.ref.injEq, HO.lst.injEq, HO.tup.injEq, List.cons.injEq, and_true, true_and, reduceCtorEq, false_or, or_false, false_and, and_false, exists_false, exists_and_left, exists_eq, and_assoc, if_true, if_false, Bool.false_eq_true, decide_eq_true_eq, upd_same]
          refine ⟨v, x, m, wd, row, rfl, g.rp rm12, mo, g.rp rx, bx, ?_⟩
          refine ⟨v, x, m, wd, row, rfl, g.rp rm12, mo, w0, w4, g.rp rx, lx, bx, fun H15 g15 => ⟨rfl, ?_⟩⟩
          rw [decide_eq_true rfl, if_neg (by decide)]
          refine ⟨v, x, m, wd, row, rfl, g15.rp (g.rp rm12), mo, w0, w4, g15.rp (g.rp rx), lx, bx, fun H16 g16 => ⟨rfl, ?_⟩⟩
          rw [decide_eq_true rfl, if_neg (by decide)]
          have g17 := (g.trans g15).trans g16
          refine ⟨v, x, m, wd, row, rfl, g17.rp rm12, mo, w0, w4, g17.rp rx, lx, bx, fun H17 g18 => ?_⟩
          refine isi_rp (.int _) (by decide) ?_
          rw [isTy_bool]
          refine ⟨false, rfl, ?_⟩
          rw [if_neg (by decide)]
          exact ⟨g17.trans g18, _, rfl⟩
        · rintro σ H13 ⟨g, z6, z7, rfl⟩
          exact ⟨fH12.trans g, (pu12.fx g (fun z => nomatch z)).mono (by omega), _, _, _, _, _, rfl⟩
      · rintro σ H3 ⟨f3, pu3, y3, y4, y5, y6, y7, rfl⟩
        exact ⟨f3, _, _, _, _, _, _, _, rfl⟩
    · rintro σ H1 ⟨f1, x1, x2, x3, x4, x5, x6, x7, rfl⟩
      simp only [tSeq, tAsg, tOp, tUn, tCB, tCons, tNil, tVar, tC, rI, rI0, rU, tRet, tRetN, gName, tIfS, tTest, tIf, tB, tNot, tAnd, tOr, tAndV, tOrV, tNotV, tCmp, t2I, tLst, tTup, tCall, tCalK0, tNext, tChain, tSl, tPart, tNoPart, tPar, tDrop, gSub, gTupT, gCons, gNil, rSetL, rIxl, rIxt, rSlt, rEq, rNe, L2.start, tLc_eq, tFor_eq, iTup, iList, iRng1, iRng2, iEnumT, tYes, pts_nil,
  List.map_cons, List.map_nil, List.length_cons, List.length_nil, List.replicate_succ, List.replicate_zero, Nat.reduceAdd, Nat.reduceSub, Nat.add_zero, Nat.zero_add, List.cons_append, List.nil_append, List.append_nil, List.getElem?_cons_zero, List.getElem?_cons_succ, List.set_cons_zero, List.set_cons_succ, wipe,
  Option.some.injEq, exists_eq_left', exists_eq_left, V.int.injEq, V.bl.injEq, V.str.injEq, V.ref.injEq, HO.lst.injEq, HO.tup.injEq, List.cons.injEq, and_true, true_and, reduceCtorEq, false_or, or_false, false_and, and_false, exists_false, exists_and_left, exists_eq, and_assoc, if_true, if_false, Bool.false_eq_true, decide_eq_true_eq, upd_same]
      refine ⟨by decide, fun p1 h1 => ⟨by decide, fun p2 h2 => ⟨by decide, fun p3 h3 => ⟨by decide, fun p4 h4 => ⟨by decide, fun p5 h5 => ?_⟩⟩⟩⟩⟩
      have g1 := Fx.new (o := .tup [V.int 0]) [] h1
      have e1 : upd H1 p1 (.tup [V.int 0]) p1 = some (.tup [V.int 0]) := upd_same
      generalize upd H1 p1 (.tup [V.int 0]) = H2 at *
      have g2 := Fx.new (o := .tup [V.ref p1]) [] h2
      have e2 : upd H2 p2 (.tup [V.ref p1]) p2 = some (.tup [V.ref p1]) := upd_same
      generalize upd H2 p2 (.tup [V.ref p1]) = H3 at *
      have g3 := Fx.new (o := .tup [V.int 99]) [] h3
      have e3 : upd H3 p3 (.tup [V.int 99]) p3 = some (.tup [V.int 99]) := upd_same
      generalize upd H3 p3 (.tup [V.int 99]) = H4 at *
      have g4 := Fx.new (o := .tup [V.int 0, V.ref p2, V.ref p3]) [] h4
      have e4 : upd H4 p4 (.tup [V.int 0, V.ref p2, V.ref p3]) p4 = some (.tup [V.int 0, V.ref p2, V.ref p3]) := upd_same
      generalize upd H4 p4 (.tup [V.int 0, V.ref p2, V.ref p3]) = H5 at *
      have g5 := Fx.new (o := .tup [V.int 0]) [] h5
      have e5 : upd H5 p5 (.tup [V.int 0]) p5 = some (.tup [V.int 0]) := upd_same
      generalize upd H5 p5 (.tup [V.int 0]) = H6 at *
      have rm : Rp H5 (.ref p4) (macD ⟨0, [[0]], [99]⟩) :=
        .tup e4 (.cons (.int 0) (.cons (.tup (g4.tup (g3.tup e2)) (.cons (Rp.of_ints (ns := [0]) (g4.tup (g3.tup (g2.tup e1)))) .nil)) (.cons (Rp.of_ints (ns := [99]) (g4.tup e3)) .nil)))
      refine ⟨p5, 60, [V.int 0], rfl, rfl, SqT.of e5, (fun z => nomatch z), by decide, by decide, by decide, fun p6 h6 => ?_⟩
      have g6 := Fx.new (o := .tup (List.replicate (60 : Int).toNat [V.int 0]).flatten) [] h6
      have rr : (List.replicate (60 : Int).toNat [V.int 0]).flatten = (List.replicate 60 (0 : Int)).map V.int := by decide +kernel
      have bd : ∀ x ∈ List.replicate 60 (0 : Int), 0 ≤ x ∧ x < ((1 : Nat) : Int) := by
        intro x hx
        rw [List.eq_of_mem_replicate hx]
        decide
      refine ⟨_, _, ⟨0, [[0]], [99]⟩, 1, List.replicate 60 0, rfl, g6.rp (g5.rp rm), ⟨by decide, by decide, by decide, rfl, by decide, by decide, by decide⟩, by decide, by decide, Rp.of_ints (by rw [← rr]; exact upd_same), by decide, bd, fun H7 g7 => ⟨rfl, ?_⟩⟩
      have ea : ansM ⟨0, [[0]], [99]⟩ (List.replicate 60 0) = 99 := by decide +kernel
      rw [ea, decide_eq_true rfl]
      exact q _
end
end K01
namespace K01
open PySem PySem.Spec PyProof.Rows L2 LT
theorem all_mk {l : PySem.W.OpenLaw} {w : World} {K : PySem.W.Frag} {h : Heap} {mg : Str → Option Value} {fa : Addr} (X : K.In h) (G : h.Ns mainGlobals mg) (hfa : mg "law" = some (.ref fa))
    {f0 : Addr} {od0 an0 : Option Addr} {sl0 : Array (Option Value)} {oc0 kV0 dc0 pm0 cd0 ct0 : Value} {f1 : Addr} {od1 an1 : Option Addr} {sl1 : Array (Option Value)} {oc1 kV1 dc1 pm1 cd1 ct1 : Value} {f2 : Addr} {od2 an2 : Option Addr} {sl2 : Array (Option Value)} {oc2 kV2 dc2 pm2 cd2 ct2 : Value} {f3 : Addr} {od3 an3 : Option Addr} {sl3 : Array (Option Value)} {oc3 kV3 dc3 pm3 cd3 ct3 : Value} {f4 : Addr} {od4 an4 : Option Addr} {sl4 : Array (Option Value)} {oc4 kV4 dc4 pm4 cd4 ct4 : Value} {f5 : Addr} {od5 an5 : Option Addr} {sl5 : Array (Option Value)} {oc5 kV5 dc5 pm5 cd5 ct5 : Value} {f6 : Addr} {od6 an6 : Option Addr} {sl6 : Array (Option Value)} {oc6 kV6 dc6 pm6 cd6 ct6 : Value} {f7 : Addr} {od7 an7 : Option Addr} {sl7 : Array (Option Value)} {oc7 kV7 dc7 pm7 cd7 ct7 : Value} {f8 : Addr} {od8 an8 : Option Addr} {sl8 : Array (Option Value)} {oc8 kV8 dc8 pm8 cd8 ct8 : Value} {f9 : Addr} {od9 an9 : Option Addr} {sl9 : Array (Option Value)} {oc9 kV9 dc9 pm9 cd9 ct9 : Value} {f10 : Addr} {od10 an10 : Option Addr} {sl10 : Array (Option Value)} {oc10 kV10 dc10 pm10 cd10 ct10 : Value} {f11 : Addr} {od11 an11 : Option Addr} {sl11 : Array (Option Value)} {oc11 kV11 dc11 pm11 cd11 ct11 : Value} {f12 : Addr} {od12 an12 : Option Addr} {sl12 : Array (Option Value)} {oc12 kV12 dc12 pm12 cd12 ct12 : Value} {f13 : Addr} {od13 an13 : Option Addr} {sl13 : Array (Option Value)} {oc13 kV13 dc13 pm13 cd13 ct13 : Value} {f14 : Addr} {od14 an14 : Option Addr} {sl14 : Array (Option Value)} {oc14 kV14 dc14 pm14 cd14 ct14 : Value} {f15 : Addr} {od15 an15 : Option Addr} {sl15 : Array (Option Value)} {oc15 kV15 dc15 pm15 cd15 ct15 : Value} {f16 : Addr} {od16 an16 : Option Addr} {sl16 : Array (Option Value)} {oc16 kV16 dc16 pm16 cd16 ct16 : Value} {f17 : Addr} {od17 an17 : Option Addr} {sl17 : Array (Option Value)} {oc17 kV17 dc17 pm17 cd17 ct17 : Value}
    (a0 : PySem.W.nsIn K mainGlobals "is_integer" = some (some (.ref f0)))
    (l0 : K.lookup f0 = some ⟨oc0, od0, .func (PySem.W.fnOf "is_integer" "is_integer" (defArgs s_is_integer) (defBody s_is_integer) (defScope s_is_integer) .none kV0 dc0 pm0 an0 cd0 ct0), sl0⟩)
    (c0 : PySem.W.codeIn K cd0 "is_integer" = true) (k0 : PySem.W.keepIn K (.ref f0) = true)
    (a1 : PySem.W.nsIn K mainGlobals "is_size" = some (some (.ref f1)))
    (l1 : K.lookup f1 = some ⟨oc1, od1, .func (PySem.W.fnOf "is_size" "is_size" (defArgs s_is_size) (defBody s_is_size) (defScope s_is_size) .none kV1 dc1 pm1 an1 cd1 ct1), sl1⟩)
    (c1 : PySem.W.codeIn K cd1 "is_size" = true) (k1 : PySem.W.keepIn K (.ref f1) = true)
    (a2 : PySem.W.nsIn K mainGlobals "is_row" = some (some (.ref f2)))
    (l2 : K.lookup f2 = some ⟨oc2, od2, .func (PySem.W.fnOf "is_row" "is_row" (defArgs s_is_row) (defBody s_is_row) (defScope s_is_row) .none kV2 dc2 pm2 an2 cd2 ct2), sl2⟩)
    (c2 : PySem.W.codeIn K cd2 "is_row" = true) (k2 : PySem.W.keepIn K (.ref f2) = true)
    (a3 : PySem.W.nsIn K mainGlobals "is_line" = some (some (.ref f3)))
    (l3 : K.lookup f3 = some ⟨oc3, od3, .func (PySem.W.fnOf "is_line" "is_line" (defArgs s_is_line) (defBody s_is_line) (defScope s_is_line) .none kV3 dc3 pm3 an3 cd3 ct3), sl3⟩)
    (c3 : PySem.W.codeIn K cd3 "is_line" = true) (k3 : PySem.W.keepIn K (.ref f3) = true)
    (a4 : PySem.W.nsIn K mainGlobals "check_machine" = some (some (.ref f4)))
    (l4 : K.lookup f4 = some ⟨oc4, od4, .func (PySem.W.fnOf "check_machine" "check_machine" (defArgs s_check_machine) (defBody s_check_machine) (defScope s_check_machine) .none kV4 dc4 pm4 an4 cd4 ct4), sl4⟩)
    (c4 : PySem.W.codeIn K cd4 "check_machine" = true) (k4 : PySem.W.keepIn K (.ref f4) = true)
    (a5 : PySem.W.nsIn K mainGlobals "has_machine_form" = some (some (.ref f5)))
    (l5 : K.lookup f5 = some ⟨oc5, od5, .func (PySem.W.fnOf "has_machine_form" "has_machine_form" (defArgs s_has_machine_form) (defBody s_has_machine_form) (defScope s_has_machine_form) .none kV5 dc5 pm5 an5 cd5 ct5), sl5⟩)
    (c5 : PySem.W.codeIn K cd5 "has_machine_form" = true) (k5 : PySem.W.keepIn K (.ref f5) = true)
    (a6 : PySem.W.nsIn K mainGlobals "machine_size" = some (some (.ref f6)))
    (l6 : K.lookup f6 = some ⟨oc6, od6, .func (PySem.W.fnOf "machine_size" "machine_size" (defArgs s_machine_size) (defBody s_machine_size) (defScope s_machine_size) .none kV6 dc6 pm6 an6 cd6 ct6), sl6⟩)
    (c6 : PySem.W.codeIn K cd6 "machine_size" = true) (k6 : PySem.W.keepIn K (.ref f6) = true)
    (a7 : PySem.W.nsIn K mainGlobals "answer" = some (some (.ref f7)))
    (l7 : K.lookup f7 = some ⟨oc7, od7, .func (PySem.W.fnOf "answer" "answer" (defArgs s_answer) (defBody s_answer) (defScope s_answer) .none kV7 dc7 pm7 an7 cd7 ct7), sl7⟩)
    (c7 : PySem.W.codeIn K cd7 "answer" = true) (k7 : PySem.W.keepIn K (.ref f7) = true)
    (a8 : PySem.W.nsIn K mainGlobals "answer_on" = some (some (.ref f8)))
    (l8 : K.lookup f8 = some ⟨oc8, od8, .func (PySem.W.fnOf "answer_on" "answer_on" (defArgs s_answer_on) (defBody s_answer_on) (defScope s_answer_on) .none kV8 dc8 pm8 an8 cd8 ct8), sl8⟩)
    (c8 : PySem.W.codeIn K cd8 "answer_on" = true) (k8 : PySem.W.keepIn K (.ref f8) = true)
    (a9 : PySem.W.nsIn K mainGlobals "state_after" = some (some (.ref f9)))
    (l9 : K.lookup f9 = some ⟨oc9, od9, .func (PySem.W.fnOf "state_after" "state_after" (defArgs s_state_after) (defBody s_state_after) (defScope s_state_after) .none kV9 dc9 pm9 an9 cd9 ct9), sl9⟩)
    (c9 : PySem.W.codeIn K cd9 "state_after" = true) (k9 : PySem.W.keepIn K (.ref f9) = true)
    (a10 : PySem.W.nsIn K mainGlobals "_law_mixed" = some (some (.ref f10)))
    (l10 : K.lookup f10 = some ⟨oc10, od10, .func (PySem.W.fnOf "_law_mixed" "_law_mixed" (defArgs s__law_mixed) (defBody s__law_mixed) (defScope s__law_mixed) .none kV10 dc10 pm10 an10 cd10 ct10), sl10⟩)
    (c10 : PySem.W.codeIn K cd10 "_law_mixed" = true) (k10 : PySem.W.keepIn K (.ref f10) = true)
    (a11 : PySem.W.nsIn K mainGlobals "_law_purse" = some (some (.ref f11)))
    (l11 : K.lookup f11 = some ⟨oc11, od11, .func (PySem.W.fnOf "_law_purse" "_law_purse" (defArgs s__law_purse) (defBody s__law_purse) (defScope s__law_purse) .none kV11 dc11 pm11 an11 cd11 ct11), sl11⟩)
    (c11 : PySem.W.codeIn K cd11 "_law_purse" = true) (k11 : PySem.W.keepIn K (.ref f11) = true)
    (a12 : PySem.W.nsIn K mainGlobals "_law_draw" = some (some (.ref f12)))
    (l12 : K.lookup f12 = some ⟨oc12, od12, .func (PySem.W.fnOf "_law_draw" "_law_draw" (defArgs s__law_draw) (defBody s__law_draw) (defScope s__law_draw) .none kV12 dc12 pm12 an12 cd12 ct12), sl12⟩)
    (c12 : PySem.W.codeIn K cd12 "_law_draw" = true) (k12 : PySem.W.keepIn K (.ref f12) = true)
    (a13 : PySem.W.nsIn K mainGlobals "_law_machine" = some (some (.ref f13)))
    (l13 : K.lookup f13 = some ⟨oc13, od13, .func (PySem.W.fnOf "_law_machine" "_law_machine" (defArgs s__law_machine) (defBody s__law_machine) (defScope s__law_machine) .none kV13 dc13 pm13 an13 cd13 ct13), sl13⟩)
    (c13 : PySem.W.codeIn K cd13 "_law_machine" = true) (k13 : PySem.W.keepIn K (.ref f13) = true)
    (a14 : PySem.W.nsIn K mainGlobals "_law_read" = some (some (.ref f14)))
    (l14 : K.lookup f14 = some ⟨oc14, od14, .func (PySem.W.fnOf "_law_read" "_law_read" (defArgs s__law_read) (defBody s__law_read) (defScope s__law_read) .none kV14 dc14 pm14 an14 cd14 ct14), sl14⟩)
    (c14 : PySem.W.codeIn K cd14 "_law_read" = true) (k14 : PySem.W.keepIn K (.ref f14) = true)
    (a15 : PySem.W.nsIn K mainGlobals "_law_answer" = some (some (.ref f15)))
    (l15 : K.lookup f15 = some ⟨oc15, od15, .func (PySem.W.fnOf "_law_answer" "_law_answer" (defArgs s__law_answer) (defBody s__law_answer) (defScope s__law_answer) .none kV15 dc15 pm15 an15 cd15 ct15), sl15⟩)
    (c15 : PySem.W.codeIn K cd15 "_law_answer" = true) (k15 : PySem.W.keepIn K (.ref f15) = true)
    (a16 : PySem.W.nsIn K mainGlobals "_law_row" = some (some (.ref f16)))
    (l16 : K.lookup f16 = some ⟨oc16, od16, .func (PySem.W.fnOf "_law_row" "_law_row" (defArgs s__law_row) (defBody s__law_row) (defScope s__law_row) .none kV16 dc16 pm16 an16 cd16 ct16), sl16⟩)
    (c16 : PySem.W.codeIn K cd16 "_law_row" = true) (k16 : PySem.W.keepIn K (.ref f16) = true)
    (a17 : PySem.W.nsIn K mainGlobals "law" = some (some (.ref f17)))
    (l17 : K.lookup f17 = some ⟨oc17, od17, .func (PySem.W.fnOf "law" "law" (defArgs s_law) (defBody s_law) (defScope s_law) .none kV17 dc17 pm17 an17 cd17 ct17), sl17⟩)
    (c17 : PySem.W.codeIn K cd17 "law" = true) (k17 : PySem.W.keepIn K (.ref f17) = true)
    (z_int : PySem.W.nsIn K mainGlobals "int" = some none)
    (z_bool : PySem.W.nsIn K mainGlobals "bool" = some none)
    (z_tuple : PySem.W.nsIn K mainGlobals "tuple" = some none)
    (z_isinstance : PySem.W.nsIn K mainGlobals "isinstance" = some none)
    (z_len : PySem.W.nsIn K mainGlobals "len" = some none)
    (z_max : PySem.W.nsIn K mainGlobals "max" = some none)
    (z_min : PySem.W.nsIn K mainGlobals "min" = some none)
    (z_all : PySem.W.nsIn K mainGlobals "all" = some none)
    (z_range : PySem.W.nsIn K mainGlobals "range" = some none)
    (z_enumerate : PySem.W.nsIn K mainGlobals "enumerate" = some none) :
    ∃ fd : FuncData, (∀ (s : Shared) (v : Value), BindsTo s fd ⟨[v], []⟩ [("_law_script", v)]) ∧ ∀ base : Heap, K.In base → base.Ns mainGlobals mg → FnOk l.prog w K mg base CX0 7 fa fd ["_law_script"] (spLaw K) := by
  have F_is_integer := fun_mk (st := s_is_integer) l0 c0 k0
  have b_is_integer := F_is_integer.binds (ps := ["thing", "low", "high"]) fun _ _ _ _ _ _ us hl => match us, hl with | [_, _, _], _ => rfl
  have m_is_integer := PySem.W.mg_of X G a0
  have n_is_integer := k0
  have F_is_size := fun_mk (st := s_is_size) l1 c1 k1
  have b_is_size := F_is_size.binds (ps := ["thing"]) fun _ _ _ _ _ _ us hl => match us, hl with | [_], _ => rfl
  have m_is_size := PySem.W.mg_of X G a1
  have n_is_size := k1
  have F_is_row := fun_mk (st := s_is_row) l2 c2 k2
  have b_is_row := F_is_row.binds (ps := ["thing", "size"]) fun _ _ _ _ _ _ us hl => match us, hl with | [_, _], _ => rfl
  have m_is_row := PySem.W.mg_of X G a2
  have n_is_row := k2
  have F_is_line := fun_mk (st := s_is_line) l3 c3 k3
  have b_is_line := F_is_line.binds (ps := ["thing", "many", "bound"]) fun _ _ _ _ _ _ us hl => match us, hl with | [_, _, _], _ => rfl
  have m_is_line := PySem.W.mg_of X G a3
  have n_is_line := k3
  have F_check_machine := fun_mk (st := s_check_machine) l4 c4 k4
  have b_check_machine := F_check_machine.binds (ps := ["thing", "size"]) fun _ _ _ _ _ _ us hl => match us, hl with | [_, _], _ => rfl
  have m_check_machine := PySem.W.mg_of X G a4
  have n_check_machine := k4
  have F_has_machine_form := fun_mk (st := s_has_machine_form) l5 c5 k5
  have b_has_machine_form := F_has_machine_form.binds (ps := ["thing"]) fun _ _ _ _ _ _ us hl => match us, hl with | [_], _ => rfl
  have m_has_machine_form := PySem.W.mg_of X G a5
  have n_has_machine_form := k5
  have F_machine_size := fun_mk (st := s_machine_size) l6 c6 k6
  have b_machine_size := F_machine_size.binds (ps := ["machine"]) fun _ _ _ _ _ _ us hl => match us, hl with | [_], _ => rfl
  have m_machine_size := PySem.W.mg_of X G a6
  have n_machine_size := k6
  have F_answer := fun_mk (st := s_answer) l7 c7 k7
  have b_answer := F_answer.binds (ps := ["machine", "row"]) fun _ _ _ _ _ _ us hl => match us, hl with | [_, _], _ => rfl
  have m_answer := PySem.W.mg_of X G a7
  have n_answer := k7
  have F_answer_on := fun_mk (st := s_answer_on) l8 c8 k8
  have b_answer_on := F_answer_on.binds (ps := ["machine", "row"]) fun _ _ _ _ _ _ us hl => match us, hl with | [_, _], _ => rfl
  have m_answer_on := PySem.W.mg_of X G a8
  have n_answer_on := k8
  have F_state_after := fun_mk (st := s_state_after) l9 c9 k9
  have b_state_after := F_state_after.binds (ps := ["steps", "state", "row"]) fun _ _ _ _ _ _ us hl => match us, hl with | [_, _, _], _ => rfl
  have m_state_after := PySem.W.mg_of X G a9
  have n_state_after := k9
  have F__law_mixed := fun_mk (st := s__law_mixed) l10 c10 k10
  have b__law_mixed := F__law_mixed.binds (ps := ["_law_cell", "_law_k"]) fun _ _ _ _ _ _ us hl => match us, hl with | [_, _], _ => rfl
  have m__law_mixed := PySem.W.mg_of X G a10
  have n__law_mixed := k10
  have F__law_purse := fun_mk (st := s__law_purse) l11 c11 k11
  have b__law_purse := F__law_purse.binds (ps := ["_law_script", "_law_at"]) fun _ _ _ _ _ _ us hl => match us, hl with | [_, _], _ => rfl
  have m__law_purse := PySem.W.mg_of X G a11
  have n__law_purse := k11
  have F__law_draw := fun_mk (st := s__law_draw) l12 c12 k12
  have b__law_draw := F__law_draw.binds (ps := ["_law_purse_here", "_law_out_of"]) fun _ _ _ _ _ _ us hl => match us, hl with | [_, _], _ => rfl
  have m__law_draw := PySem.W.mg_of X G a12
  have n__law_draw := k12
  have F__law_machine := fun_mk (st := s__law_machine) l13 c13 k13
  have b__law_machine := F__law_machine.binds (ps := ["_law_purse_here", "_law_wide", "_law_most"]) fun _ _ _ _ _ _ us hl => match us, hl with | [_, _, _], _ => rfl
  have m__law_machine := PySem.W.mg_of X G a13
  have n__law_machine := k13
  have F__law_read := fun_mk (st := s__law_read) l14 c14 k14
  have b__law_read := F__law_read.binds (ps := ["_law_asker", "_law_state", "_law_line"]) fun _ _ _ _ _ _ us hl => match us, hl with | [_, _, _], _ => rfl
  have m__law_read := PySem.W.mg_of X G a14
  have n__law_read := k14
  have F__law_answer := fun_mk (st := s__law_answer) l15 c15 k15
  have b__law_answer := F__law_answer.binds (ps := ["_law_asker", "_law_line"]) fun _ _ _ _ _ _ us hl => match us, hl with | [_, _], _ => rfl
  have m__law_answer := PySem.W.mg_of X G a15
  have n__law_answer := k15
  have F__law_row := fun_mk (st := s__law_row) l16 c16 k16
  have b__law_row := F__law_row.binds (ps := ["_law_purse_here", "_law_wide", "_law_most"]) fun _ _ _ _ _ _ us hl => match us, hl with | [_, _, _], _ => rfl
  have m__law_row := PySem.W.mg_of X G a16
  have n__law_row := k16
  have F_law := fun_mk (st := s_law) l17 c17 k17
  cases hfa.symm.trans (PySem.W.mg_of X G a17)
  have z : Z mg := ⟨PySem.W.mg_none_of X G z_int, PySem.W.mg_none_of X G z_bool, PySem.W.mg_none_of X G z_tuple, PySem.W.mg_none_of X G z_isinstance, PySem.W.mg_none_of X G z_len, PySem.W.mg_none_of X G z_max, PySem.W.mg_none_of X G z_min, PySem.W.mg_none_of X G z_all, PySem.W.mg_none_of X G z_range, PySem.W.mg_none_of X G z_enumerate⟩
  refine ⟨PySem.W.fnOf "law" "law" (defArgs s_law) (defBody s_law) (defScope s_law) .none kV17 dc17 pm17 an17 cd17 ct17, fun s v => .of_eq rfl, fun base _ _ => ?_⟩
  have C_mixed : Cal l.prog w K mg base CX0 "_law_mixed" 1 ["_law_cell", "_law_k"] spMixed := ⟨_, _, ok_mixed z F__law_mixed, m__law_mixed, n__law_mixed, b__law_mixed⟩
  have C_draw : Cal l.prog w K mg base CX0 "_law_draw" 2 ["_law_purse_here", "_law_out_of"] spDraw := ⟨_, _, ok_draw z C_mixed F__law_draw, m__law_draw, n__law_draw, b__law_draw⟩
  have C_purse : Cal l.prog w K mg base CX0 "_law_purse" 1 ["_law_script", "_law_at"] (spPurse K) := ⟨_, _, ok_purse z F__law_purse, m__law_purse, n__law_purse, b__law_purse⟩
  have C_row : Cal l.prog w K mg base CX0 "_law_row" 3 ["_law_purse_here", "_law_wide", "_law_most"] spRow := ⟨_, _, ok_row z C_draw F__law_row, m__law_row, n__law_row, b__law_row⟩
  have C_machine : Cal l.prog w K mg base CX0 "_law_machine" 3 ["_law_purse_here", "_law_wide", "_law_most"] spMachine := ⟨_, _, ok_machine z C_draw F__law_machine, m__law_machine, n__law_machine, b__law_machine⟩
  have C_read : Cal l.prog w K mg base CX0 "_law_read" 1 ["_law_asker", "_law_state", "_law_line"] spRead := ⟨_, _, ok_read z F__law_read, m__law_read, n__law_read, b__law_read⟩
  have C_answer : Cal l.prog w K mg base CX0 "_law_answer" 2 ["_law_asker", "_law_line"] spAnswer := ⟨_, _, ok_law_answer z C_read F__law_answer, m__law_answer, n__law_answer, b__law_answer⟩
  have C_int : Cal l.prog w K mg base CX0 "is_integer" 1 ["thing", "low", "high"] spIsInteger := ⟨_, _, ok_is_integer z F_is_integer, m_is_integer, n_is_integer, b_is_integer⟩
  have C_size : Cal l.prog w K mg base CX0 "is_size" 2 ["thing"] spIsSize := ⟨_, _, ok_is_size z C_int F_is_size, m_is_size, n_is_size, b_is_size⟩
  have C_isrow : Cal l.prog w K mg base CX0 "is_row" 2 ["thing", "size"] spIsRow := ⟨_, _, ok_is_row z C_int F_is_row, m_is_row, n_is_row, b_is_row⟩
  have C_line : Cal l.prog w K mg base CX0 "is_line" 3 ["thing", "many", "bound"] spIsLine := ⟨_, _, ok_is_line z C_isrow F_is_line, m_is_line, n_is_line, b_is_line⟩
  have C_after : Cal l.prog w K mg base CX0 "state_after" 1 ["steps", "state", "row"] spAfter := ⟨_, _, ok_state_after z F_state_after, m_state_after, n_state_after, b_state_after⟩
  have C_form : Cal l.prog w K mg base CX0 "has_machine_form" 1 ["thing"] spForm := ⟨_, _, ok_has_machine_form z F_has_machine_form, m_has_machine_form, n_has_machine_form, b_has_machine_form⟩
  have O_check := ok_check_machine (P := l.prog) (w := w) (base := base) z C_int C_size C_line C_form F_check_machine
  have C_check : Cal l.prog w K mg base CX0 "check_machine" 4 ["thing", "size"] spCheck := ⟨_, _, O_check, m_check_machine, n_check_machine, b_check_machine⟩
  have C_msize : Cal l.prog w K mg base CX0 "machine_size" 5 ["machine"] spSize := ⟨_, _, ok_machine_size z C_check F_machine_size, m_machine_size, n_machine_size, b_machine_size⟩
  have C_on : Cal l.prog w K mg base CX0 "answer_on" 2 ["machine", "row"] spAnswer := ⟨_, _, ok_answer_on z C_after F_answer_on, m_answer_on, n_answer_on, b_answer_on⟩
  have O_answer := ok_answer (P := l.prog) (w := w) (base := base) z C_isrow C_msize C_on F_answer
  have C_ans : Cal l.prog w K mg base CX0 "answer" 6 ["machine", "row"] spAnswerF := ⟨_, _, O_answer, m_answer, n_answer, b_answer⟩
  have K_check : CalK l.prog w K mg base CX0 "check_machine" 4 ["thing", "size"] ["thing", "size"] (fun zs => zs) spCheck :=
    CalK.of (g := fun ws => ws) O_check m_check_machine n_check_machine (fun z => nomatch z) (fun s ws hl => match ws, hl with | [_, _], _ => .of_eq rfl) fun _ _ r => r
  have K_ans : CalK l.prog w K mg base CX0 "answer" 6 ["machine", "row"] ["row", "machine"] List.reverse spAnswerF :=
    CalK.of (g := List.reverse) O_answer m_answer n_answer (fun z => nomatch z) (fun s ws hl => match ws, (List.length_reverse.symm.trans hl : ws.length = 2) with | [_, _], _ => .of_eq rfl) fun zs ws r => vals_rev r
  exact ok_law z C_purse C_draw C_machine C_row C_answer C_check C_ans K_check K_ans F_law
end K01
open PySem PySem.W PyProof.Rows in
set_option maxRecDepth 100000 in
set_option maxHeartbeats 0 in
theorem PySem.Challenge.cw_lazytags_k01_answers_of_machines_holds : PySem.Challenge.rw_lazytags_k01_answers_of_machines.Holds := by
  w_on; o_law; k_head; (case hw => w_witness2)
  k_fill
  refine L2.walk_ofK (n := 63) (k := 7) (x := "_law_script") (CX := L2.CX0) (sp := K01.spLaw) rfl (by decide) rfl ⟨rfl, by decide, by decide⟩ (fun w h Y => PySem.W.kIn_of Y) ?F (fun K H a ns hl _ hS => ⟨a, ns, rfl, hS, hl, fun _ => rfl⟩) fun _ _ _ _ z => z
  case F =>
    intro w mg fa h KX G hmg
    refine' K01.all_mk KX G hmg ?a0 ?l0 ?c0 ?k0 ?a1 ?l1 ?c1 ?k1 ?a2 ?l2 ?c2 ?k2 ?a3 ?l3 ?c3 ?k3 ?a4 ?l4 ?c4 ?k4 ?a5 ?l5 ?c5 ?k5 ?a6 ?l6 ?c6 ?k6 ?a7 ?l7 ?c7 ?k7 ?a8 ?l8 ?c8 ?k8 ?a9 ?l9 ?c9 ?k9 ?a10 ?l10 ?c10 ?k10 ?a11 ?l11 ?c11 ?k11 ?a12 ?l12 ?c12 ?k12 ?a13 ?l13 ?c13 ?k13 ?a14 ?l14 ?c14 ?k14 ?a15 ?l15 ?c15 ?k15 ?a16 ?l16 ?c16 ?k16 ?a17 ?l17 ?c17 ?k17 ?z_int ?z_bool ?z_tuple ?z_isinstance ?z_len ?z_max ?z_min ?z_all ?z_range ?z_enumerate
    (case a0 => k_is)
    (case l0 => k_is)
    (case c0 => k_is)
    (case k0 => k_is)
    (case a1 => k_is)
    (case l1 => k_is)
    (case c1 => k_is)
    (case k1 => k_is)
    (case a2 => k_is)
    (case l2 => k_is)
    (case c2 => k_is)
    (case k2 => k_is)
    (case a3 => k_is)
    (case l3 => k_is)
    (case c3 => k_is)
    (case k3 => k_is)
    (case a4 => k_is)
    (case l4 => k_is)
    (case c4 => k_is)
    (case k4 => k_is)
    (case a5 => k_is)
    (case l5 => k_is)
    (case c5 => k_is)
    (case k5 => k_is)
    (case a6 => k_is)
    (case l6 => k_is)
    (case c6 => k_is)
    (case k6 => k_is)
    (case a7 => k_is)
    (case l7 => k_is)
    (case c7 => k_is)
    (case k7 => k_is)
    (case a8 => k_is)
    (case l8 => k_is)
    (case c8 => k_is)
    (case k8 => k_is)
    (case a9 => k_is)
    (case l9 => k_is)
    (case c9 => k_is)
    (case k9 => k_is)
    (case a10 => k_is)
    (case l10 => k_is)
    (case c10 => k_is)
    (case k10 => k_is)
    (case a11 => k_is)
    (case l11 => k_is)
    (case c11 => k_is)
    (case k11 => k_is)
    (case a12 => k_is)
    (case l12 => k_is)
    (case c12 => k_is)
    (case k12 => k_is)
    (case a13 => k_is)
    (case l13 => k_is)
    (case c13 => k_is)
    (case k13 => k_is)
    (case a14 => k_is)
    (case l14 => k_is)
    (case c14 => k_is)
    (case k14 => k_is)
    (case a15 => k_is)
    (case l15 => k_is)
    (case c15 => k_is)
    (case k15 => k_is)
    (case a16 => k_is)
    (case l16 => k_is)
    (case c16 => k_is)
    (case k16 => k_is)
    (case a17 => k_is)
    (case l17 => k_is)
    (case c17 => k_is)
    (case k17 => k_is)
    (case z_int => k_is)
    (case z_bool => k_is)
    (case z_tuple => k_is)
    (case z_isinstance => k_is)
    (case z_len => k_is)
    (case z_max => k_is)
    (case z_min => k_is)
    (case z_all => k_is)
    (case z_range => k_is)
    (case z_enumerate => k_is)
