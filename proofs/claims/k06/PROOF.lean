import PyProof.Rows.All
import Wide.All
import OpenK.AllK
import Wide.FinOn
import HandS.ForMost
import HandS.IsInst
import HandS.TupAny
import HandS.Conv
import PyProof.EnumMake
import PyProof.Draws
import KE.GoesMore
import HandS.Walk
import HandS.ForExc
import HandS.ExcInit
import HandS.ExcField
import HandS.ExcIs
import HandS.Defaults
import HandS.CallSlots
import KE.KExcIs
import HandS.More
import HandS.Dict
import HandS.ExcValue
import HandS.ExcOwn
import PyProof.ExcBaseAll.ValueError
import PySem.Challenge.RW_lazytags_k06_errors_and_their_fields
set_option Elab.async false
set_option linter.all false
set_option maxRecDepth 100000
set_option maxHeartbeats 4000000
namespace LT
open PySem PySem.Spec PyProof.Rows L2
/-! ## 1. a def that is called by its name -/
structure Cal (P : Program) (w : World) (K : PySem.W.Frag) (mg : Str → Option Value) (base : Heap) (CX : CXT) (x : Str) (k : Nat) (ps : List Str) (sp : Sp) : Prop where
  ex : ∃ f fd, FnOk P w K mg base CX k f fd ps sp ∧ mg x = some (.ref f) ∧ PySem.W.keepIn K (.ref f) = true ∧ Binds K fd ps []
/-- .. by keywords alone, named ks, which g puts in the parameters' order -/
structure CalK (P : Program) (w : World) (K : PySem.W.Frag) (mg : Str → Option Value) (base : Heap) (CX : CXT) (x : Str) (k : Nat) (ps ks : List Str) (gV : List V → List V) (sp : Sp) : Prop where
  ex : ∃ (f : Addr) (fd : FuncData) (g : List Value → List Value → List Value) (gW : List V → List V → List V), FnOk P w K mg base CX k f fd ps sp ∧ mg x = some (.ref f) ∧ PySem.W.keepIn K (.ref f) = true ∧ KBinds K fd ps ks g gW ∧ ∀ zs, gW [] zs = gV zs
section
variable {X : Cx} {CX : CXT} {k j : Nat} {x : Str} {ps ks : List Str} {sp : Sp} {p pos : Pos} {e : Expr} {es : List Expr} {kws : List Keyword} {t tk : TA} {E : XK} {gV : List V → List V}
theorem pe_cal (c : Cal X.prog X.w X.K X.mg X.base CX x k ps sp) (hr : Room j X.A) (hg : Gl X x) (hx : Passes CX X E) (ha : PA X (e :: es) t) (hj : k ≤ j := by decide)
    (hdb : (x == ("__debug__" : Str)) = false := by decide) (he : starEach (e :: es) X.env = (false, eval e X.env) :: starEach es X.env := by rfl)
    (hpl : (backTo pos (starEach es X.env)).any (·.1) = false := by rfl) : PE X (.Call (.Name x p) (e :: es) [] pos) (tCall sp [] E t) := by
  obtain ⟨f, fd, F, hm, hk, hb⟩ := c.ex
  exact pe_call F (hr.mono hj) hg hm hk hb .nil hx ha hdb he hpl
theorem pe_cal0 (c : Cal X.prog X.w X.K X.mg X.base CX x k ps sp) (hr : Room j X.A) (hg : Gl X x) (hx : Passes CX X E) (hj : k ≤ j := by decide)
    (hdb : (x == ("__debug__" : Str)) = false := by decide) : PE X (.Call (.Name x p) [] [] pos) (tCall sp [] E tNil) := by
  obtain ⟨f, fd, F, hm, hk, hb⟩ := c.ex
  exact pe_call0 F (hr.mono hj) hg hm hk hb .nil hx hdb
def tCalK0 (sp : Sp) (gV : List V → List V) (E : XK) (tk : TA) : TE := fun σ H Q => tk σ H fun zs H2 => sp (gV zs) H2 Q E
theorem pe_calK0 (c : CalK X.prog X.w X.K X.mg X.base CX x k ps ks gV sp) (hr : Room j X.A) (hg : Gl X x) (hx : Passes CX X E) (hkw : PK X kws tk) (hj : k ≤ j := by decide)
    (hall : (backToKw pos (keywordEach kws X.env)).all (·.1.isSome) = true := by rfl) (hks : (backToKw pos (keywordEach kws X.env)).filterMap (·.1) = ks := by rfl)
    (hdb : (x == ("__debug__" : Str)) = false := by decide)
    (hpl : ((backTo pos (starEach [] X.env)).any (·.1) || (backToKw pos (keywordEach kws X.env)).any (·.1.isNone)) = false := by rfl) :
    PE X (.Call (.Name x p) [] kws pos) (tCalK0 sp gV E tk) := by
  obtain ⟨f, fd, g, gW, F, hm, hk, hb, he⟩ := c.ex
  constructor
  intro pins s σ H Q I h
  apply wpAny_Call_Name_kw
  apply ld_glob I hg hm _ hdb
  apply PySem.W.callWith_KW0 (h₀ := X.base) I.ok.mod.kin hk hall _ hpl
  refine thn (hkw.run pos pins s σ H _ I h) ?_
  rintro ws s2 ⟨zs, H2, I2, rz, q2⟩
  refine And.intro I2.kIn ?_
  rw [hks]
  exact run_fnk (us := []) (vs := []) F (hr.mono hj) hb hx I2 .nil rz (by rw [he]; exact q2)
end
section
variable {P : Program} {w : World} {K : PySem.W.Frag} {mg : Str → Option Value} {base : Heap} {CX : CXT} {k : Nat} {x : Str} {f : Addr} {fd : FuncData} {ps ks : List Str} {sp : Sp}
theorem vals_rev : ∀ {zs : List V} {ws : List Value}, Vals zs ws → Vals zs.reverse ws.reverse
  | _, _, .nil => .nil
  | _, _, .cons a r => by
    rw [List.reverse_cons, List.reverse_cons]
    exact Vals.append (vals_rev r) (.cons a .nil)
theorem CalK.of {g : List Value → List Value} {gV : List V → List V} (F : FnOk P w K mg base CX k f fd ps sp) (hm : mg x = some (.ref f)) (hk : PySem.W.keepIn K (.ref f) = true) (ne : ps ≠ [])
    (to : ∀ (s : Shared) (ws : List Value), (g ws).length = ps.length → BindsTo s fd ⟨[], ks.zip ws⟩ (ps.zip (g ws)))
    (rel : ∀ (zs : List V) (ws : List Value), Vals zs ws → Vals (gV zs) (g ws)) : CalK P w K mg base CX x k ps ks gV sp := by
  refine ⟨f, fd, fun us ws => match us with | [] => g ws | _ :: _ => [], fun vs zs => match vs with | [] => gV zs | _ :: _ => [], F, hm, hk, ⟨?_, ?_⟩, fun _ => rfl⟩
  · intro s us ws _ hl
    cases us with
    | nil => exact to s ws hl
    | cons a b =>
      cases ps with
      | nil => exact absurd rfl ne
      | cons c d => cases hl
  · intro vs us zs ws r rz
    cases r with
    | nil => exact rel zs ws rz
    | cons a b => exact .nil
end
/-! ## 2. numbers -/
section
variable {X : Cx}
def CPowB (i j : Int) : Prop := 0 ≤ j ∧ ((Builtin.Int.intBits i : Nat) : Int) * j ≤ 2 ^ 27
theorem op_powB : OpR X (binaryOp .Pow) (rI CPowB fun i j => .int (i ^ j.toNat)) :=
  opI fun _ _ _ _ _ _ _ c q => PyProof.Rows.pow_int c.1 c.2 q
end
/-! ## 3. data, and what stays of the heap -/
/-- data: tuples told whole, lists and dicts by their place -/
inductive D where
  | non | bl (b : Bool) | int (i : Int) | str (s : Str) | tup (ds : List D) | lst (a : Addr) | dct (a : Addr)
mutual
inductive Rp (H : Hp) : V → D → Prop
  | non : Rp H .non .non
  | bl (b : Bool) : Rp H (.bl b) (.bl b)
  | int (i : Int) : Rp H (.int i) (.int i)
  | str (x : Str) : Rp H (.str x) (.str x)
  | tup {a : Addr} {xs : List V} {ds : List D} : H a = some (.tup xs) → RpAll H xs ds → Rp H (.ref a) (.tup ds)
  | lst {a : Addr} {xs : List V} : H a = some (.lst xs) → Rp H (.ref a) (.lst a)
  | dct {a : Addr} {kvs : List (Key × V)} : H a = some (.dK kvs) → Rp H (.ref a) (.dct a)
inductive RpAll (H : Hp) : List V → List D → Prop
  | nil : RpAll H [] []
  | cons {v : V} {vs : List V} {d : D} {ds : List D} : Rp H v d → RpAll H vs ds → RpAll H (v :: vs) (d :: ds)
end
def alike : HO → HO → Prop
  | .tup xs, o => o = .tup xs
  | .lst _, o => ∃ ys, o = .lst ys
  | .dK _, o => ∃ kvs, o = .dK kvs
  | o, o' => o' = o
theorem alike_refl (o : HO) : alike o o := by
  cases o <;> first | rfl | exact ⟨_, rfl⟩
theorem alike_trans {a b c : HO} (h : alike a b) (g : alike b c) : alike a c := by
  cases a with
  | lst xs => obtain ⟨ys, rfl⟩ := h; exact g
  | dK xs => obtain ⟨ys, rfl⟩ := h; exact g
  | _ => cases h; exact g
/-- behind it all stands as it was, but what is at M; and tuples are tuples, lists are lists -/
structure Fx (M : List Addr) (H H' : Hp) : Prop where
  keep : ∀ b o, b ∉ M → H b = some o → H' b = some o
  kind : ∀ b o, H b = some o → ∃ o', H' b = some o' ∧ alike o o'
section
variable {M M' : List Addr} {H H1 H2 : Hp} {p : Addr} {o : HO} {xs ys : List V} {v : V} {d : D}
theorem Fx.refl (M : List Addr) (H : Hp) : Fx M H H := ⟨fun _ _ _ h => h, fun _ o h => ⟨o, h, alike_refl o⟩⟩
theorem Fx.trans (a : Fx M H H1) (b : Fx M H1 H2) : Fx M H H2 := by
  constructor
  · intro x o hx h
    exact b.keep x o hx (a.keep x o hx h)
  · intro x o h
    obtain ⟨o1, h1, k1⟩ := a.kind x o h
    obtain ⟨o2, h2, k2⟩ := b.kind x o1 h1
    exact ⟨o2, h2, alike_trans k1 k2⟩
theorem Fx.new (M : List Addr) (h : H p = none) : Fx M H (upd H p o) := by
  have e : ∀ b u, H b = some u → upd H p o b = some u := by
    intro b u hb
    rw [upd_ne (ne_of_none hb h)]
    exact hb
  exact ⟨fun b u _ hb => e b u hb, fun b u hb => ⟨u, e b u hb, alike_refl u⟩⟩
theorem Fx.put (hm : p ∈ M) (h : H p = some (.lst xs)) : Fx M H (upd H p (.lst ys)) := by
  constructor
  · intro b u hb q
    rw [upd_ne (by rintro rfl; exact hb hm)]
    exact q
  · intro b u q
    by_cases e : b = p
    · subst e
      rw [h] at q
      cases q
      exact ⟨_, upd_same, _, rfl⟩
    · exact ⟨u, (upd_ne e).trans q, alike_refl u⟩
theorem Fx.mono (h : Fx M H H1) (s : ∀ b, b ∈ M → b ∈ M') : Fx M' H H1 := ⟨fun b o hb => h.keep b o fun z => hb (s b z), h.kind⟩
/-- what was not there when it began may change -/
theorem Fx.drop (a : Fx [] H H1) (b : Fx [p] H1 H2) (h : H p = none) : Fx [] H H2 := by
  constructor
  · intro x o _ e
    have ne : x ≠ p := ne_of_none e h
    exact b.keep x o (by rw [List.mem_singleton]; exact ne) (a.keep x o (fun z => nomatch z) e)
  · intro x o e
    obtain ⟨o1, h1, k1⟩ := a.kind x o e
    obtain ⟨o2, h2, k2⟩ := b.kind x o1 h1
    exact ⟨o2, h2, alike_trans k1 k2⟩
theorem Fx.sql {K : PySem.W.Frag} {a : Addr} (h : Fx [] H H1) (e : SqL K H a xs) : SqL K H1 a xs := by
  have k : ∀ o, H a = some o → H1 a = some o := fun o q => h.keep a o (fun z => nomatch z) q
  rcases e with (e | ⟨o, e⟩) | e
  · exact .inl (.inl (k _ e))
  · exact .inl (.inr ⟨o, k _ e⟩)
  · exact .inr e
theorem Fx.any (h : Fx [] H H1) : Fx M H H1 := h.mono fun _ z => nomatch z
theorem Fx.tup (h : Fx M H H1) (e : H p = some (.tup xs)) : H1 p = some (.tup xs) := by
  obtain ⟨o, e1, k⟩ := h.kind p _ e
  rw [e1]
  exact congrArg some k
theorem Fx.all (h : Fx [] H H1) (e : H p = some o) : H1 p = some o := h.keep p o (fun z => nomatch z) e
theorem Fx.fresh (h : Fx M H H1) (e : H1 p = none) : H p = none := by
  cases q : H p with
  | none => rfl
  | some u =>
    obtain ⟨o1, h1, _⟩ := h.kind p u q
    rw [e] at h1
    cases h1
mutual
theorem Fx.rp (h : Fx M H H1) : ∀ {v : V} {d : D}, Rp H v d → Rp H1 v d
  | _, _, .non => .non
  | _, _, .bl b => .bl b
  | _, _, .int i => .int i
  | _, _, .str x => .str x
  | _, _, .tup e r => .tup (h.tup e) (h.rpAll r)
  | _, _, .lst e => by
    obtain ⟨o, e1, ys, k⟩ := h.kind _ _ e
    subst k
    exact .lst e1
  | _, _, .dct e => by
    obtain ⟨o, e1, ys, k⟩ := h.kind _ _ e
    subst k
    exact .dct e1
theorem Fx.rpAll (h : Fx M H H1) : ∀ {vs : List V} {ds : List D}, RpAll H vs ds → RpAll H1 vs ds
  | _, _, .nil => .nil
  | _, _, .cons a b => .cons (h.rp a) (h.rpAll b)
end
theorem RpAll.len : ∀ {vs : List V} {ds : List D}, RpAll H vs ds → vs.length = ds.length
  | _, _, .nil => rfl
  | _, _, .cons _ b => by rw [List.length_cons, List.length_cons, b.len]
theorem RpAll.at : ∀ {vs : List V} {ds : List D} {i : Nat} {v : V}, RpAll H vs ds → vs[i]? = some v → ∃ d, ds[i]? = some d ∧ Rp H v d
  | _, _, _, _, .nil, h => by simp at h
  | _, _, 0, _, .cons a _, h => ⟨_, rfl, by cases h; exact a⟩
  | _, _, i + 1, _, .cons _ b, h => RpAll.at (i := i) b h
theorem RpAll.atD : ∀ {vs : List V} {ds : List D} {i : Nat} {d : D}, RpAll H vs ds → ds[i]? = some d → ∃ v, vs[i]? = some v ∧ Rp H v d
  | _, _, _, _, .nil, h => by simp at h
  | _, _, 0, _, .cons a _, h => ⟨_, rfl, by cases h; exact a⟩
  | _, _, i + 1, _, .cons _ b, h => RpAll.atD (i := i) b h
theorem RpAll.snoc : ∀ {vs : List V} {ds : List D} {v : V} {d : D}, RpAll H vs ds → Rp H v d → RpAll H (vs ++ [v]) (ds ++ [d])
  | _, _, _, _, .nil, h => .cons h .nil
  | _, _, _, _, .cons a b, h => .cons a (b.snoc h)
theorem Rp.tup_inv {ds : List D} (h : Rp H v (.tup ds)) : ∃ a xs, v = .ref a ∧ H a = some (.tup xs) ∧ RpAll H xs ds := by
  cases h with
  | tup e r => exact ⟨_, _, rfl, e, r⟩
theorem Rp.int_inv {i : Int} (h : Rp H v (.int i)) : v = .int i := by cases h; rfl
/-- tuples of ints -/
def intsD (ns : List Int) : D := .tup (ns.map .int)
theorem RpAll.intsA : ∀ {vs : List V} {ns : List Int}, RpAll H vs (ns.map .int) → vs = ns.map V.int
  | _, [], .nil => rfl
  | _, n :: ns, .cons a b => by rw [a.int_inv, b.intsA]; rfl
theorem RpAll.of_ints (H : Hp) : ∀ (ns : List Int), RpAll H (ns.map V.int) (ns.map .int)
  | [] => .nil
  | n :: ns => .cons (.int n) (RpAll.of_ints H ns)
theorem Rp.ints_inv {ns : List Int} (h : Rp H v (intsD ns)) : ∃ a, v = .ref a ∧ H a = some (.tup (ns.map V.int)) := by
  obtain ⟨a, xs, rfl, e, r⟩ := h.tup_inv
  rw [r.intsA] at e
  exact ⟨a, rfl, e⟩
theorem Rp.of_ints {a : Addr} {ns : List Int} (h : H a = some (.tup (ns.map V.int))) : Rp H (.ref a) (intsD ns) := .tup h (RpAll.of_ints H ns)
end
/-! ## 4. isinstance -/
def D.ty : D → String
  | .non => "NoneType" | .bl _ => "bool" | .int _ => "int" | .str _ => "str" | .tup _ => "tuple" | .lst _ => "list" | .dct _ => "dict"
theorem Rp.tyx {K : PySem.W.Frag} {H : Hp} {v : V} {d : D} (h : Rp H v d) : TyX K H v (.type d.ty) := by
  cases h with
  | non => exact .base .non
  | bl b => exact .base (.bl b)
  | int i => exact .base (.int i)
  | str x => exact .base (.str x)
  | tup e r => exact .base (.tup e)
  | lst e => exact .base (.lst e)
  | dct e => exact .base (.dK e)
def isTy (n : String) (d : D) : Bool := (kitB d.ty n).getD false
theorem isi_rp {K : PySem.W.Frag} {H : Hp} {v : V} {d : D} {n : String} {Q : VK} (h : Rp H v d) (hn : n ∈ ["int", "bool", "tuple", "list", "str", "dict"]) (q : Q (.bl (isTy n d)) H) : rIsi K [v, .ty n] H Q := by
  refine ⟨v, .ty n, .type d.ty, .type n, isTy n d, rfl, .ty n, h.tyx, kit_ty ?_, q⟩
  unfold isTy
  have key : ∀ t ∈ ["NoneType", "bool", "int", "str", "tuple", "list", "dict"], ∀ n ∈ ["int", "bool", "tuple", "list", "str", "dict"], (kitB t n).isSome = true := by decide +kernel
  have s := key d.ty (by cases d <;> simp [D.ty]) n hn
  cases e : kitB d.ty n with
  | none => rw [e] at s; cases s
  | some b => rfl
end LT
/-! enumerate(t), t a tuple -/
namespace PySem
namespace LTE
open Sem (wp)
open AutoSeq1 (wpAny_loadPart')
theorem makes_enum {v : Value} {o : Obj} {G : Heap → Prop} (B : Begins v o G) :
    Meets (Builtin.«enumerate.__new__» ⟨[.type "enumerate", v], []⟩) (fun _ R s => G s.heap ∧
      R (.ok (.ret (.ref (s.heap.push o).objs.size)))
        { s with heap := (s.heap.push o).push { cls := .type "enumerate", data := .fields #[.none, .bool false, .ref s.heap.objs.size, rawInt 0, .none, .none] } }) := by
  refine .of_wp fun prog w A R s h => ?_
  rcases s with ⟨hp, g, d, tk, os⟩
  rcases h with ⟨hg, h⟩
  have hs1 := sub_enumerate
  have it : ∀ {A' : Around} {E : Value → Shared → Prop} {Q : Value → Shared → Prop}, Q (.ref hp.objs.size) ⟨hp.push o, g, d, tk, os⟩ → wpAny (model prog w) A' (pyIter v) Q E ⟨hp, g, d, tk, os⟩ :=
    fun z => B.iter prog w _ _ ⟨hp, g, d, tk, os⟩ _ hg z
  wp_walk using it
  refine wpAny_stack_any fun st => ?_
  refine wpAny_pure ?_
  split
  · rename_i c _ _ _ _ _
    cases (c == Value.type "enumerate")
    · wp_walk using it
      exact Exists.intro _ (And.intro rfl h)
    · wp_walk using it
      exact Exists.intro _ (And.intro rfl h)
  · wp_walk using it
    exact Exists.intro _ (And.intro rfl h)
theorem enum_one {prog : Program} {w : World} {A : Around} {E : Value → Shared → Prop} {s : Shared} {v : Value} {o : Obj} {G : Heap → Prop} {Q : Value → Shared → Prop} (B : Begins v o G) (hg : G s.heap)
    (h : ∀ h', IsEnum h' (s.heap.objs.size + 1) s.heap.objs.size 0 .none → h'.get? s.heap.objs.size = some o →
      (∀ b u, s.heap.get? b = some u → h'.get? b = some u) → Q (.ref (s.heap.objs.size + 1)) { s with heap := h' }) :
    wpAny (model prog w) A (call (.type "enumerate") [v]) Q E s := by
  apply callType_new F.called_enumerate (by decide) (F.typeCall_enumerate_1 _) (F.newCall_enumerate_1 _) (fun ob => F.args_object_init_2 ob _) F.entry_enumerate_new (makes_enum B)
  refine And.intro hg ?_
  have z1 : (s.heap.push o).objs.size = s.heap.objs.size + 1 := Heap.size_push ..
  show _ ∧ _
  rw [z1]
  generalize hk : (s.heap.push o).push { cls := .type "enumerate", data := .fields #[.none, .bool false, .ref s.heap.objs.size, rawInt 0, .none, .none] } = h2
  have e2 : h2.get? (s.heap.objs.size + 1) = some { cls := .type "enumerate", data := .fields #[.none, .bool false, .ref s.heap.objs.size, rawInt 0, .none, .none] } := by
    rw [← hk, ← z1]
    exact Heap.get?_push_size _ rfl
  have e1 : h2.get? s.heap.objs.size = some o := by
    rw [← hk]
    exact Heap.get?_push_of_some _ (Heap.get?_push_size _ B.free)
  refine And.intro ⟨_, e2, rfl⟩ (h h2 e2 e1 fun b u q => ?_)
  rw [← hk]
  exact Heap.get?_push_of_some _ (Heap.get?_push_of_some _ q)
end LTE
end PySem
namespace LT
open PySem PySem.Spec PyProof.Rows L2
/-- the tuple at a, each item in a new pair behind its number -/
def IteT (K : PySem.W.Frag) (a : Addr) : It where
  go := fun i H => ∃ (xs : List V) (x : V), SqT K H a xs ∧ xs[i]? = some x
  yld := fun i H v H' => ∃ T x, v = .ref T ∧ H T = none ∧ H' = upd H T (.tup [.int (i : Nat), x]) ∧ ∀ xs, SqT K H a xs → xs[i]? = some x
  stop := fun i H => ∃ xs : List V, SqT K H a xs ∧ xs.length ≤ i
theorem turn_enumT {P : Program} {w : World} {K : PySem.W.Frag} {elts : List Expr} {kk : Nat} {tpos : Pos} (a e it : Addr) (hea : e ≠ a) (hia : it ≠ a) (hne : e ≠ it) :
    Turn P w K (.Tuple elts kk tpos) (IteT K a) [e, it] e (fun i h => (∃ old, IsEnum h e it ((i : Nat) : Int) old) ∧ h.IsTupleIter it a i) where
  mem := List.mem_cons_self
  obj := by
    rintro i h ⟨⟨old, he⟩, o, ho, hc, hd⟩ b hb
    rcases List.mem_cons.mp hb with z | z
    · subst z
      exact ⟨_, he, fun v q => nomatch q⟩
    · have z' := List.mem_singleton.mp z
      subst z'
      refine ⟨o, ho, fun v q => ?_⟩
      rw [hd] at q
      cases q
  keep := by
    rintro i h h' ⟨⟨old, he⟩, hi⟩ k
    exact ⟨⟨old, k e (by simp) _ he⟩, hi.at fun o q => k it (by simp) o q⟩
  item := by
    intro X hP hw hK hc i pins s σ H E I hf st hg
    subst hP hw hK
    obtain ⟨⟨old, he⟩, hit⟩ := st
    obtain ⟨xs, x, hq, hx⟩ := hg
    obtain ⟨its, rv, tp, hz⟩ := I.tuple hq
    obtain ⟨u, hu, ru⟩ := rv.get hx
    have hi : i < its.toArray.size := by
      have := (List.getElem?_eq_some_iff.mp hu).1
      simpa using this
    have hel : e < s.heap.objs.size := Heap.lt_size he
    have hil : it < s.heap.objs.size := by
      obtain ⟨_, q, _⟩ := hit
      exact Heap.lt_size q
    have Dr : Draws X.prog X.w X.A.in1 it [it, a] its.toArray.size (fun i v => its.toArray[i]? = some v) (fun i h => h.IsTupleIter it a i ∧ h.IsTuple a its.toArray) :=
      Draws.tuple (by exact I.ok.hd hc) it a (Ne.symm hia) its.toArray
    refine wpAny_pyNext_enum_itemD Dr he ⟨hit, tp⟩ hi hne (by simp [hne, hea]) fun y h' tk hy ho hst' hT hsz hk => ?_
    have ey : y = u := by
      have : its.toArray[i]? = some u := by simpa using hu
      rw [this] at hy
      exact (Option.some.inj hy).symm
    subst ey
    refine ⟨_, rfl, ?_⟩
    refine wpAny_letOwnedTupleGo_enum (s := { s with heap := h', toks := tk + 1 }) ho fun h2 he2 sb => ?_
    have hT2 : h2.get? s.heap.objs.size = some { cls := .type "tuple", data := .seq #[.int i tk, y] } := (sb.2 _ (Nat.ne_of_gt hel)).trans hT
    have nw : ObjOk X.prog X.w (upd H s.heap.objs.size (.tup [.int (i : Nat), x])) h2 s.heap.objs.size (.tup [.int (i : Nat), x]) := by
      refine ⟨?_, [.int i tk, y], .cons ⟨_, rfl⟩ (.cons ru .nil), ⟨_, hT2, rfl, _, rfl⟩⟩
      show 2 ≤ sizeLine
      decide
    have I1 : Inv X pins σ (upd H s.heap.objs.size (.tup [.int (i : Nat), x])) { s with heap := h2, toks := tk + 1 } := by
      refine I.turnedNew (ch := [e, it]) ?_ hf (Nat.le_refl _) nw
      intro b ob hb q
      have h1 : b ≠ e := fun z => hb (by simp [z])
      have h3 : b ≠ it := fun z => hb (by simp [z])
      exact (sb.2 b h1).trans (hk b ob h1 h3 q)
    refine ⟨.ref s.heap.objs.size, _, I1, rfl, ⟨_, x, rfl, I.hok.fresh (Nat.le_refl _), rfl, ?_⟩, ⟨⟨y, ?_⟩, hst'.1.at fun o q => (sb.2 it (Ne.symm hne)).trans q⟩, ?_⟩
    · intro ys hy2
      rw [I.tuple_inj hy2 hq]
      exact hx
    · have e1 : ((i + 1 : Nat) : Int) = (i : Int) + 1 := by omega
      rw [e1]
      exact he2
    · intro b hb
      have hb2 : b < s.heap.objs.size := by
        rcases List.mem_cons.mp hb with z | z
        · rw [z]; exact hel
        · rw [List.mem_singleton.mp z]; exact hil
      rw [upd_ne (Nat.ne_of_lt hb2)]
      exact (hf b hb).1
  done := by
    intro X hP hw hK hc i pins s σ H E I hf st hg
    subst hP hw hK
    obtain ⟨⟨old, he⟩, hit⟩ := st
    obtain ⟨xs, hq, hx⟩ := hg
    obtain ⟨its, rv, tp, hz⟩ := I.tuple hq
    obtain ⟨f0, f1, f2, f3, f4, f5⟩ := hf it (by simp)
    have hl := rv.length
    have Dr2 : Draws X.prog X.w X.A.in1 it [it, a] i (fun j v => its.toArray[j]? = some v) (fun j h => j = i ∧ h.IsTupleIter it a j ∧ h.IsTuple a its.toArray) := by
      refine { live := ?_, frame := ?_, item := ?_, done := ?_ }
      · rintro j h ⟨_, ⟨o, ho, _⟩, _⟩
        exact ⟨o, ho⟩
      · rintro j h h' ⟨ej, s1, s2⟩ k
        exact ⟨ej, s1.at fun o q => k it (by simp) o q, s2.at fun o q => k a (by simp) o q⟩
      · rintro j s Q E hj ⟨ej, _⟩
        exact absurd hj (by omega)
      · rintro s Q E ⟨_, s1, s2⟩ hE
        exact wpAny_nextOf_tuple_end (by exact I.ok.hd hc) s1 s2 (by simp; omega) hE
    exact wpAny_pyNext_enum_endD Dr2 he ⟨rfl, hit, tp⟩ fun h' eb => ⟨rfl, I.turned (t' := s.toks) (fun b o hb q => eb b o hb q) f0 f1 f3 f4 f5⟩
  self := fun A i s Q E st h => let ⟨⟨_, he⟩, _⟩ := st; wpAny_pyIter_enum he h
def iEnumT (K : PySem.W.Frag) (ta : TA) : TI := fun σ H R => ta σ H fun vs H1 => ∃ a xs, vs = [.ref a] ∧ SqT K H1 a xs ∧ R (IteT K a) H1
theorem pi_enumT {X : Cx} {e : Expr} {ta : TA} {p pos tpos : Pos} {elts : List Expr} {kk : Nat} (hg : Gl X "enumerate") (hm : X.mg "enumerate" = none) (ha : PA X [e] ta)
    (hs : starEach [e] X.env = [(false, eval e X.env)] := by rfl) : PI X (.Tuple elts kk tpos) (.Call (.Name "enumerate" p) [e] [] pos) (iEnumT X.K ta) := by
  constructor
  intro pins s σ H R I h
  refine Call_ (ld_blt I hg hm boot_enumerate ?_)
  refine PyProof.Rows.callWith_type1 (thn (ha.run pos pins s σ H _ I h) ?_) hs rfl
  rintro us s1 ⟨vs, H1, I1, r1, a, xs, ex, hq, q⟩
  subst ex
  cases r1 with
  | cons r rr =>
    cases rr
    cases r
    obtain ⟨its, rv, tp, hz⟩ := I1.tuple hq
    have hal : a < s1.heap.objs.size := tp.lt
    refine PySem.LTE.enum_one (begins_tuple a its.toArray) tp fun h' he hit hk => ?_
    refine wpAny_pyIter_enum he ?_
    have I2 : Inv X pins σ H1 { s1 with heap := h' } := I1.kept (t' := s1.toks) hk
    refine ⟨s1.heap.objs.size + 1, [s1.heap.objs.size + 1, s1.heap.objs.size], _, _, H1, rfl, I2, turn_enumT a (s1.heap.objs.size + 1) s1.heap.objs.size (Nat.ne_of_gt (Nat.lt_succ_of_lt hal)) (Nat.ne_of_gt hal) (Nat.succ_ne_self _), ⟨⟨.none, he⟩, ⟨_, hit, rfl, rfl⟩⟩, ?_, q⟩
    intro b hb
    have hle : s1.heap.objs.size ≤ b := by
      rcases List.mem_cons.mp hb with z | z
      · rw [z]; exact Nat.le_add_right _ _
      · rw [List.mem_singleton.mp z]; exact Nat.le_refl _
    exact I1.fpOk hle (I1.hok.fresh hle)
/-- a for over enumerate(t) -/
theorem walk_enumT {K : PySem.W.Frag} {a : Addr} {xs : List V} : Walk (IteT K a) xs.length (fun H => H a = some (.tup xs)) (YPair (fun i => some (.int (i : Nat))) (fun i => xs[i]?)) where
  goes := fun i H hi h => ⟨xs, xs[i], SqT.of h, List.getElem?_eq_getElem hi⟩
  stops := fun H h => ⟨xs, SqT.of h, Nat.le_refl _⟩
  yields := by
    rintro i H x H' hi h ⟨T, y, e1, e2, e3, e4⟩
    exact ⟨T, _, y, e1, e2, e3, rfl, e4 xs (SqT.of h)⟩
end LT
namespace LT
open PySem PySem.Spec PyProof.Rows L2
section
variable {X : Cx}
/-- int(n) of an int -/
theorem call_intI : CallR X (.type "int") (fun xs H Q => ∃ i, xs = [V.int i] ∧ Q (.int i) H) := fun pins s σ H xs us Q I r h =>
  call_int1 pins s σ H xs us Q I r (Or.inl h)
/-- a, b, .. = a tracked tuple of n items -/
def gTupT (n : Nat) (t : TGs) : TG := fun v σ H Q => ∃ a xs, v = .ref a ∧ H a = some (.tup xs) ∧ xs.length = n ∧ t xs σ H Q
theorem pg_tT (n : Nat) {es : List Expr} {k : Nat} {t : TGs} {pos : Pos} (hc : X.calm = true) (h : PGs X es t) (hn : (assignEach es X.env).length = n := by rfl)
    (hst : (assignEach es X.env).findIdx? (·.1) = none := by rfl) : PG X (.Tuple es k pos) (gTupT n t) := by
  constructor
  rintro pins s σ H v u Q I r ⟨a, xs, e, e1, e2, q⟩
  exact (pg_tup (k := k) (pos := pos) hc h hn hst).run pins s σ H v u Q I r ⟨a, xs, e, SqT.of e1, e2, q⟩
/-- isinstance, with the written part named (so that it may stand within a comprehension) -/
theorem call_isiE (K : PySem.W.Frag) (h : X.K = K) : CallR X (.builtin "isinstance") (rIsi K) := by
  subst h
  exact call_isi
/-- xs[i] of a tracked list, of a tracked tuple -/
def rIxl : R2 := fun x y H Q => ∃ p xs i v, x = .ref p ∧ y = .int i ∧ H p = some (.lst xs) ∧ atI xs i = some v ∧ Q v H
def rIxt : R2 := fun x y H Q => ∃ p xs i v, x = .ref p ∧ y = .int i ∧ H p = some (.tup xs) ∧ atI xs i = some v ∧ Q v H
theorem ix_l : IxR X rIxl := by
  rintro value slice pins s σ H x y v u Q I rx ry ⟨p, xs, i, z, e1, e2, h, ha, q⟩ hs
  exact ix_list value slice pins s σ H x y v u Q I rx ry ⟨p, xs, i, z, e1, e2, SqL.of h, ha, q⟩ hs
theorem ix_t : IxR X rIxt := by
  rintro value slice pins s σ H x y v u Q I rx ry ⟨p, xs, i, z, e1, e2, h, ha, q⟩ hs
  exact ix_tup value slice pins s σ H x y v u Q I rx ry ⟨p, xs, i, z, e1, e2, SqT.of h, ha, q⟩ hs
theorem call_lenT : CallR X (.builtin "len") (fun xs H Q => ∃ p ys, xs = [V.ref p] ∧ H p = some (.tup ys) ∧ Q (.int ys.length) H) := by
  rintro pins s σ H xs us Q I r ⟨p, ys, e, h, q⟩
  exact call_len_seq pins s σ H xs us Q I r ⟨p, ys, e, .inr (SqT.of h), q⟩
theorem call_lenL : CallR X (.builtin "len") (fun xs H Q => ∃ p ys, xs = [V.ref p] ∧ H p = some (.lst ys) ∧ Q (.int ys.length) H) := by
  rintro pins s σ H xs us Q I r ⟨p, ys, e, h, q⟩
  exact call_len_seq pins s σ H xs us Q I r ⟨p, ys, e, .inl (SqL.of h), q⟩
/-- tuple(l) of a tracked list -/
theorem call_tupL : CallR X (.type "tuple") (fun xs H Q => ∃ p ys, xs = [V.ref p] ∧ H p = some (.lst ys) ∧ ∀ l, H l = none → Q (.ref l) (upd H l (.tup ys))) := by
  rintro pins s σ H xs us Q I r ⟨p, ys, e, h, q⟩
  exact call_tuple_of pins s σ H xs us Q I r ⟨p, ys, e, .inl ⟨SqL.of h, q⟩⟩
/-- t[a:b] of a tracked tuple -/
def rSlt : V → Option Int → Option Int → Hp → VK → Prop := fun x lo hi H Q => ∃ a xs, x = .ref a ∧ H a = some (.tup xs) ∧
  (HT.sIx xs.length 0 lo = 0 ∧ HT.sIx xs.length xs.length hi = xs.length → Q (.ref a) H) ∧ (¬ (HT.sIx xs.length 0 lo = 0 ∧ HT.sIx xs.length xs.length hi = xs.length) → ∀ p, H p = none → Q (.ref p) (upd H p (.tup (cutV xs lo hi))))
theorem sl_t : SlR X rSlt := by
  rintro pins s σ H x v vl vu lo hi sl Q I rx hs pl pu ⟨a, xs, e, h, q1, q2⟩
  exact sl_tupA pins s σ H x v vl vu lo hi sl Q I rx hs pl pu ⟨a, xs, e, SqT.of h, q1, q2⟩
end
/-! ## purses -/
def Pu (N : Nat) (H : Hp) (p : Addr) : Prop := ∃ a b c : Int, H p = some (.lst [.int a, .int b, .int c]) ∧ 0 ≤ b ∧ b < 2147483647 ∧ 0 ≤ c ∧ c ≤ N

theorem Pu.mono {N M : Nat} {H : Hp} {p : Addr} (h : Pu N H p) (le : N ≤ M) : Pu M H p := by
  obtain ⟨a, b, c, e, b0, b1, c0, c1⟩ := h
  exact ⟨a, b, c, e, b0, b1, c0, by omega⟩
theorem Pu.fx {N : Nat} {H H' : Hp} {p : Addr} {M : List Addr} (h : Pu N H p) (f : Fx M H H') (hp : p ∉ M) : Pu N H' p := by
  obtain ⟨a, b, c, e, r⟩ := h
  exact ⟨a, b, c, f.keep p _ hp e, r⟩
theorem Pu.at {N : Nat} {H : Hp} {p : Addr} (h : Pu N H p) : H p ≠ none := by
  obtain ⟨a, b, c, e, r⟩ := h
  rw [e]
  exact fun z => nomatch z
/-! ## comprehensions and loops -/
section
variable {J : It} {n : Nat} {G : Hp → Prop} {Y : Nat → Hp → V → Hp → Prop} {g : TG} {tt : TT} {te : TE} {tb : TS} {vs : List Nat} {σ : L2.St} {H1 H : Hp} {D : Addr} {Qd : Hp → Prop} {Q : VK} {wi : TI} {Dn : Ends} {M : List Addr}
def LcGo (J : It) (g : TG) (tt : TT) (te : TE) (vs : List Nat) (σ : L2.St) (H1 : Hp) (D : Addr) (Qd : Hp → Prop) : Prop :=
  ∃ W : Nat → Nat → Hp → Prop, (∃ m, W 0 m (upd H1 D (.lst []))) ∧ ∀ i m H, W i m H →
    (J.stop i H ∧ Qd H) ∨ (J.go i H ∧ ∃ Nx : Hp → Prop, (∀ H', Nx H' → ∃ m', m' < m ∧ W (i + 1) m' H') ∧ ∀ x H', J.yld i H x H' →
      g x (wipe σ vs) H' fun σ2 H2 => wipe σ2 vs = wipe σ vs ∧ tt σ2 H2 fun b H3 => if b = true then te σ2 H3 fun y H4 => ∃ acc, H4 D = some (.lst acc) ∧ acc.length < sizeLine ∧ Nx (upd H4 D (.lst (acc ++ [y]))) else Nx H3)
theorem tLc_eq : tLc wi g tt te vs σ H Q = wi σ H fun J H1 => ∀ D, H1 D = none → LcGo J g tt te vs σ H1 D (fun H => Q (.ref D) H) := rfl
def ForGo (J : It) (g : TG) (tb : TS) (Dn : Ends) (σ : L2.St) (H : Hp) : Prop :=
  ∃ W : Nat → Nat → L2.St → Hp → Prop, (∃ m, W 0 m σ H) ∧ ∀ i m σ H, W i m σ H →
    (J.stop i H ∧ Dn.nx σ H) ∨ (J.go i H ∧ ∃ N : L2.St → Hp → Prop, (∀ σ' H', N σ' H' → ∃ m', m' < m ∧ W (i + 1) m' σ' H') ∧ ∀ x H', J.yld i H x H' → g x σ H' fun σ2 H2 => tb { Dn with nx := N, ct := N, bk := Dn.nx } σ2 H2)
theorem tFor_eq : tFor wi g tb Dn σ H = wi σ H fun J H1 => ForGo J g tb Dn σ H1 := rfl
theorem Fx.putNew {H4 : Hp} {zs ws : List V} (f : Fx M H1 H4) (hD : H1 D = none) (h : H4 D = some (.lst zs)) : Fx M H1 (upd H4 D (.lst ws)) := by
  have ne : ∀ b o, H1 b = some o → b ≠ D := fun b o e => ne_of_none e hD
  constructor
  · intro b o hb e
    rw [upd_ne (ne b o e)]
    exact f.keep b o hb e
  · intro b o e
    obtain ⟨o', e1, k⟩ := f.kind b o e
    exact ⟨o', by rw [upd_ne (ne b o e)]; exact e1, k⟩
theorem small_line {k : Nat} (h : k ≤ 1000000) : k < sizeLine := Nat.lt_of_le_of_lt h (by decide)
/-- a comprehension: R tells of the turn, the heap and what was made so far -/
theorem lc_new (w : Walk J n G Y) (hn : n ≤ 1000000) (hD : H1 D = none) (hM : ∀ b, b ∈ M → H1 b ≠ none) (R : Nat → Hp → List V → Prop)
    (hR : ∀ i H H' ys, Fx M H1 H → Fx [D] H H' → R i H ys → R i H' ys) (h0 : R 0 H1 [])
    (hG : ∀ i H ys, i ≤ n → Fx M H1 H → R i H ys → G H)
    (hs : ∀ i x H H' ys (N : V → Hp → Prop) (N' : Hp → Prop), i < n → Fx M H1 H → R i H ys → Y i H x H' →
      (∀ y H4, Fx M H H4 → R (i + 1) H4 (ys ++ [y]) → N y H4) → (∀ H4, Fx M H H4 → R (i + 1) H4 ys → N' H4) →
      g x (wipe σ vs) H' fun σ2 H2 => wipe σ2 vs = wipe σ vs ∧ tt σ2 H2 fun b H3 => if b = true then te σ2 H3 N else N' H3)
    (hd : ∀ H ys, Fx M H1 H → R n H ys → H D = some (.lst ys) → Qd H) : LcGo J g tt te vs σ H1 D Qd := by
  have hDM : D ∉ M := fun z => hM D z hD
  refine lc_it w (fun i H => ∃ ys, ys.length ≤ i ∧ H D = some (.lst ys) ∧ Fx M H1 H ∧ R i H ys) ?_ ?_ ?_ ?_
  · refine ⟨[], Nat.le_refl _, upd_same, Fx.new M hD, ?_⟩
    have f : Fx [D] (upd H1 D (.lst [])) (upd H1 D (.lst [])) := Fx.refl _ _
    refine hR 0 H1 _ [] (Fx.refl _ _) ?_ h0
    exact Fx.new [D] hD
  · rintro i H hi ⟨ys, _, _, f, r⟩
    exact hG i H ys hi f r
  · rintro i x H H' hi ⟨ys, hl, hy, f, r⟩ hY
    refine hs i x H H' ys _ _ hi f r hY ?_ ?_
    · intro y H4 f4 r4
      have e4 : H4 D = some (.lst ys) := f4.keep D _ hDM hy
      refine ⟨ys, e4, small_line (by omega), ys ++ [y], ?_, upd_same, (f.trans f4).putNew hD e4, ?_⟩
      · rw [List.length_append, List.length_singleton]
        omega
      · exact hR _ H4 _ _ (f.trans f4) (Fx.put List.mem_cons_self e4) r4
    · intro H4 f4 r4
      exact ⟨ys, Nat.le_succ_of_le hl, f4.keep D _ hDM hy, f.trans f4, r4⟩
  · rintro H ⟨ys, _, hy, f, r⟩
    exact hd H ys f r hy
theorem for_go (w : Walk J n G Y) (Pv : Nat → L2.St → Hp → Prop) (h0 : Pv 0 σ H) (hG : ∀ i σ H, i ≤ n → Pv i σ H → G H)
    (hs : ∀ i x σ H H', i < n → Pv i σ H → Y i H x H' → g x σ H' fun σ2 H2 => tb { Dn with nx := Pv (i + 1), ct := Pv (i + 1), bk := Dn.nx } σ2 H2)
    (hd : ∀ σ H, Pv n σ H → Dn.nx σ H) : ForGo J g tb Dn σ H := for_it w Pv h0 hG hs hd
end
/-! ## machines -/
structure Mac where
  start : Int
  steps : List (List Int)
  answers : List Int
def macD (m : Mac) : D := .tup [.int m.start, .tup (m.steps.map intsD), intsD m.answers]
/-- a machine of a size -/
structure MacOk (m : Mac) (wd : Nat) : Prop where
  pos : 0 < m.steps.length
  few : m.steps.length ≤ 1000
  row : ∀ r, r ∈ m.steps → r.length = wd ∧ ∀ x, x ∈ r → 0 ≤ x ∧ x < (m.steps.length : Int)
  ans : m.answers.length = m.steps.length
  told : ∀ x, x ∈ m.answers → 0 ≤ x ∧ x ≤ 99
  st0 : 0 ≤ m.start
  st1 : m.start < (m.steps.length : Int)
def readM (m : Mac) (s : Int) (row : List Int) : Int := row.foldl (fun s v => (m.steps.getD s.toNat []).getD v.toNat 0) s
def ansM (m : Mac) (row : List Int) : Int := m.answers.getD (readM m m.start row).toNat 0
theorem getD_mem {α : Type} {l : List α} {i : Nat} {d : α} (h : i < l.length) : l.getD i d ∈ l := by
  rw [List.getD_eq_getElem?_getD, List.getElem?_eq_getElem h]
  exact List.getElem_mem h
theorem MacOk.step {m : Mac} {wd : Nat} (h : MacOk m wd) {s v : Int} (s0 : 0 ≤ s) (s1 : s < (m.steps.length : Int)) (v0 : 0 ≤ v) (v1 : v < (wd : Int)) :
    0 ≤ (m.steps.getD s.toNat []).getD v.toNat 0 ∧ (m.steps.getD s.toNat []).getD v.toNat 0 < (m.steps.length : Int) := by
  have hm : m.steps.getD s.toNat [] ∈ m.steps := getD_mem (by omega)
  obtain ⟨hl, hx⟩ := h.row _ hm
  exact hx _ (getD_mem (by omega))
theorem MacOk.read {m : Mac} {wd : Nat} (h : MacOk m wd) : ∀ (row : List Int) (s : Int), 0 ≤ s → s < (m.steps.length : Int) → (∀ x ∈ row, 0 ≤ x ∧ x < (wd : Int)) → 0 ≤ readM m s row ∧ readM m s row < (m.steps.length : Int)
  | [], s, s0, s1, _ => ⟨s0, s1⟩
  | v :: r, s, s0, s1, hr => by
    have hv := hr v List.mem_cons_self
    obtain ⟨t0, t1⟩ := h.step s0 s1 hv.1 hv.2
    exact h.read r _ t0 t1 fun x hx => hr x (List.mem_cons_of_mem _ hx)
theorem MacOk.answer {m : Mac} {wd : Nat} (h : MacOk m wd) {row : List Int} (hr : ∀ x ∈ row, 0 ≤ x ∧ x < (wd : Int)) : 0 ≤ ansM m row ∧ ansM m row ≤ 99 := by
  obtain ⟨t0, t1⟩ := h.read row m.start h.st0 h.st1 hr
  exact h.told _ (getD_mem (by rw [h.ans]; omega))
/-- the parts of a machine in memory -/
theorem Rp.mac {H : Hp} {v : V} {m : Mac} (h : Rp H v (macD m)) : ∃ a b c xs, v = .ref a ∧ H a = some (.tup [.int m.start, .ref b, .ref c]) ∧ H b = some (.tup xs) ∧ RpAll H xs (m.steps.map intsD) ∧ H c = some (.tup (m.answers.map V.int)) := by
  obtain ⟨a, xs, rfl, e, r⟩ := h.tup_inv
  cases r with
  | cons r1 r =>
    cases r with
    | cons r2 r =>
      cases r with
      | cons r3 r =>
        cases r
        have := r1.int_inv
        subst this
        obtain ⟨b, ys, rfl, e2, r2'⟩ := r2.tup_inv
        obtain ⟨c, rfl, e3⟩ := r3.ints_inv
        exact ⟨a, b, c, ys, rfl, e, e2, r2', e3⟩
theorem RpAll.rowAt {H : Hp} {xs : List V} {rows : List (List Int)} (r : RpAll H xs (rows.map intsD)) {i : Nat} (h : i < rows.length) : ∃ a, xs[i]? = some (.ref a) ∧ H a = some (.tup ((rows.getD i []).map V.int)) := by
  obtain ⟨v, hv, rv⟩ := r.atD (i := i) (d := intsD (rows.getD i [])) (by
    rw [List.getElem?_map, List.getElem?_eq_getElem h, List.getD_eq_getElem?_getD, List.getElem?_eq_getElem h]
    rfl)
  obtain ⟨a, rfl, e⟩ := rv.ints_inv
  exact ⟨a, hv, e⟩
theorem atI_ints {ns : List Int} {i : Int} (h0 : 0 ≤ i) (h1 : i < (ns.length : Int)) : atI (ns.map V.int) i = some (.int (ns.getD i.toNat 0)) := by
  have hi : i.toNat < ns.length := by omega
  have e : i = ((i.toNat : Nat) : Int) := by omega
  have g : (ns.map V.int)[i.toNat]? = some (.int (ns.getD i.toNat 0)) := by
    rw [List.getElem?_map, List.getD_eq_getElem?_getD, List.getElem?_eq_getElem hi]
    rfl
  have := atI_nat g
  rw [← e] at this
  exact this
theorem atI_of {xs : List V} {i : Int} {v : V} (h0 : 0 ≤ i) (h : xs[i.toNat]? = some v) : atI xs i = some v := by
  have e : i = ((i.toNat : Nat) : Int) := by omega
  have := atI_nat h
  rw [← e] at this
  exact this
theorem readM_take {m : Mac} {s : Int} {row : List Int} {i : Nat} (h : i < row.length) : readM m s (row.take (i + 1)) = (m.steps.getD (readM m s (row.take i)).toNat []).getD (row.getD i 0).toNat 0 := by
  unfold readM
  rw [List.take_add_one, List.getElem?_eq_getElem h, List.foldl_append, List.getD_eq_getElem?_getD (l := row), List.getElem?_eq_getElem h]
  rfl
/-! ## the draws of a law -/
def spMixed : Sp := fun vs H Q _ => ∃ c k : Int, vs = [.int c, .int k] ∧ 0 ≤ c ∧ c < 2147483647 ∧ 0 ≤ k ∧ k ≤ 1000000000001 ∧ ∀ r, 0 ≤ r → r < 1000000000 → Q (.int r) H
def spDraw : Sp := fun vs H Q _ => ∃ (p : Addr) (n : Int) (N : Nat), vs = [.ref p, .int n] ∧ 0 < n ∧ n < 1073741824 ∧ Pu N H p ∧ N ≤ 1000000000000 ∧
  ∀ (d : Int) (H' : Hp), 0 ≤ d → d < n → Fx [p] H H' → Pu (N + 1) H' p → Q (.int d) H'
def spPurse (K : PySem.W.Frag) : Sp := fun vs H Q _ => ∃ (a : Addr) (ns : List Int) (i : Nat), vs = [.ref a, .int i] ∧ SqL K H a (ns.map V.int) ∧ i ≤ 100 ∧
  ∀ (p : Addr) (H' : Hp), H p = none → Fx [] H H' → Pu (1000 * i) H' p → Q (.ref p) H'
/-- a row of values below wide, at most most of them -/
def spRow : Sp := fun vs H Q _ => ∃ (p : Addr) (wide : Int) (most N : Nat), vs = [.ref p, .int wide, .int most] ∧ 0 < wide ∧ wide ≤ 4 ∧ most ≤ 100 ∧ Pu N H p ∧ N ≤ 900000000000 ∧
  ∀ (v : V) (H' : Hp) (row : List Int), row.length ≤ most → (∀ x ∈ row, 0 ≤ x ∧ x < wide) → Fx [p] H H' → Pu (N + 101) H' p → Rp H' v (intsD row) → Q v H'
def spMachine : Sp := fun vs H Q _ => ∃ (p : Addr) (wide most N : Nat), vs = [.ref p, .int wide, .int most] ∧ 0 < wide ∧ wide ≤ 4 ∧ 0 < most ∧ most ≤ 30 ∧ Pu N H p ∧ N ≤ 900000000000 ∧
  ∀ (v : V) (H' : Hp) (m : Mac), MacOk m wide → m.steps.length ≤ most → Fx [p] H H' → Pu (N + 200) H' p → Rp H' v (macD m) → Q v H'
theorem lc_draws {p D : Addr} {n N : Nat} {u : Int} {H1 : Hp} {g : TG} {tt : TT} {te : TE} {vs : List Nat} {σ : L2.St} {Qd : Hp → Prop} (hn : n ≤ 1000) (u0 : 0 < u) (u1 : u < 1073741824) (pu : Pu N H1 p) (hN : N + n ≤ 1000000000000) (hD : H1 D = none)
    (hb : ∀ x H (N1 : V → Hp → Prop) (N2 : Hp → Prop), spDraw [.ref p, .int u] H N1 E0 → g x (wipe σ vs) H fun σ2 H2 => wipe σ2 vs = wipe σ vs ∧ tt σ2 H2 fun b H3 => if b = true then te σ2 H3 N1 else N2 H3)
    (hd : ∀ H (ns : List Int), ns.length = n → (∀ x ∈ ns, 0 ≤ x ∧ x < u) → Fx [p] H1 H → Pu (N + n) H p → H D = some (.lst (ns.map V.int)) → Qd H) : LcGo (Itr 0 n) g tt te vs σ H1 D Qd := by
  refine lc_new (M := [p]) walk_range (by omega) hD (by simp; exact pu.at) (fun i H ys => Pu (N + i) H p ∧ ∃ ns : List Int, ys = ns.map V.int ∧ ns.length = i ∧ ∀ x ∈ ns, 0 ≤ x ∧ x < u) ?_ ?_ ?_ ?_ ?_
  · rintro i H2 H3 ys _ f ⟨pu2, r⟩
    refine ⟨pu2.fx f ?_, r⟩
    rintro z2
    rw [List.mem_singleton] at z2
    subst z2
    exact pu.at hD
  · exact ⟨pu, [], rfl, rfl, fun x hx => nomatch hx⟩
  · intros; trivial
  · rintro i x H2 H3 ys N1 N2 hi f ⟨pu2, ns, rfl, hl, hx⟩ ⟨rfl, rfl⟩ hN1 hN2
    refine hb _ _ _ _ ⟨p, u, _, rfl, u0, u1, pu2, by omega, fun d H4 d0 d1 f4 pu4 => hN1 _ _ f4 ⟨pu4, ns ++ [d], ?_, ?_, ?_⟩⟩
    · rw [List.map_append]; rfl
    · rw [List.length_append, hl]; rfl
    · intro x hx2
      rcases List.mem_append.mp hx2 with hx2 | hx2
      · exact hx x hx2
      · rw [List.mem_singleton.mp hx2]; exact ⟨d0, d1⟩
  · rintro H2 ys f ⟨pu2, ns, rfl, hl, hx⟩ hys
    exact hd H2 ns hl hx f pu2 hys
/-! ## checks -/
def isInteger (d : D) (lo hi : Int) : Bool := match d with
  | .int i => decide (lo ≤ i) && decide (i ≤ hi)
  | _ => false
def isRow (d : D) (n : Int) : Bool := match d with
  | .tup ds => ds.all fun x => isInteger x 0 (n - 1)
  | _ => false
/-- no tuple longer than that at the first level -/
def short (d : D) : Prop := match d with
  | .tup ds => ds.length ≤ 1000000
  | _ => True
def spIsInteger : Sp := fun vs H Q _ => ∃ v d lo hi, vs = [v, .int lo, .int hi] ∧ Rp H v d ∧ Q (.bl (isInteger d lo hi)) H
def spIsSize : Sp := fun vs H Q _ => ∃ v d, vs = [v] ∧ Rp H v d ∧ Q (.bl (isInteger d 1 4)) H
def spIsRow : Sp := fun vs H Q _ => ∃ v d n, vs = [v, .int n] ∧ Rp H v d ∧ short d ∧ ∀ H', Fx [] H H' → Q (.bl (isRow d n)) H'
theorem isTy_ne {n : String} {d : D} (h : isTy n d = true) (n' : String) (hn : n = n') : isTy n' d = true := hn ▸ h
theorem isTy_int (d : D) : isTy "int" d = match d with | .int _ => true | .bl _ => true | _ => false := by
  cases d <;> rfl
theorem isTy_bool (d : D) : isTy "bool" d = match d with | .bl _ => true | _ => false := by
  cases d <;> rfl
theorem isTy_tuple (d : D) : isTy "tuple" d = match d with | .tup _ => true | _ => false := by
  cases d <;> rfl
/-- all([test(x) for x in t]) over a tuple: bools, the heap but grows -/
theorem lc_bools {K : PySem.W.Frag} {a D0 : Addr} {xs : List V} {ds : List D} {H1 : Hp} {g : TG} {tt : TT} {te : TE} {vs : List Nat} {σ : L2.St} {Qd : Hp → Prop} (f : D → Bool) (ha : H1 a = some (.tup xs)) (hr : RpAll H1 xs ds) (hn : xs.length ≤ 1000000) (hD : H1 D0 = none)
    (hb : ∀ x d H (N1 : V → Hp → Prop) (N2 : Hp → Prop), d ∈ ds → Rp H x d → (∀ H4, Fx [] H H4 → N1 (.bl (f d)) H4) → g x (wipe σ vs) H fun σ2 H2 => wipe σ2 vs = wipe σ vs ∧ tt σ2 H2 fun b H3 => if b = true then te σ2 H3 N1 else N2 H3)
    (hd : ∀ H, Fx [] H1 H → H D0 = some (.lst ((ds.map f).map V.bl)) → Qd H) : LcGo (Itt K a) g tt te vs σ H1 D0 Qd := by
  have hl := hr.len
  refine lc_new (M := []) (walk_tup (xs := xs)) hn hD (fun b z => nomatch z) (fun i H ys => ys = ((ds.take i).map f).map V.bl) ?_ ?_ ?_ ?_ ?_
  · intro i H H' ys _ _ e
    exact e
  · rfl
  · rintro i H ys _ fx _
    exact SqT.of (fx.tup ha)
  · rintro i x H H' ys N1 N2 hi fx rfl ⟨rfl, hx⟩ hN1 hN2
    obtain ⟨d, hd1, rd1⟩ := hr.at hx
    refine hb x d _ N1 N2 (List.mem_of_getElem? hd1) (fx.rp rd1) fun H4 f4 => hN1 _ _ f4 ?_
    rw [List.take_add_one, hd1, List.map_append, List.map_append]
    rfl
  · intro H ys fx e hy
    refine hd H fx ?_
    rw [hy, e, hl, List.take_length]
end LT
namespace LT
open PySem PySem.Spec PyProof.Rows L2
/-! ## own errors with one field -/
/-- what __init__ does of an error that is being made -/
def spInit (K : PySem.W.Frag) (C : Addr) (f : Str) : Sp := fun vs H Q _ => ∃ (a : Addr) (v : V), vs = [.ref a, v] ∧ H a = some (exo a C none) ∧
  ∀ dx, H dx = none → dx ≠ a → Q .non (upd (upd H dx (exd dx [(f, v)])) a (exo a C (some dx)))
structure ErrC (P : Program) (w : World) (K : PySem.W.Frag) (mg : Str → Option Value) (base : Heap) (x f : Str) (C : Addr) : Prop where
  T : OexC K C
  gl : mg x = some (.ref C)
  nf : PySem.W.findIn K (.ref C) f = some none
  xf : XfC K C
  ex : ExcC K C
  ini : ∃ fI fd, PySem.W.findIn K (.ref C) "__init__" = some (some (.ref fI)) ∧ PySem.W.typeIn K (.ref fI) = some (.type "function") ∧ FnOk P w K mg base CX0 1 fI fd ["self", f] (spInit K C f) ∧ Binds K fd ["self", f] []
theorem del_upd2 {H : Hp} {a d : Addr} {o o' : HO} {u : HO} (h : H a = none) (ne : d ≠ a) : upd (del (upd (upd H d o) a o') a) d u = upd H d u := by
  funext b
  unfold upd del
  by_cases h1 : b = d
  · simp [h1]
  · by_cases h2 : b = a
    · subst h2
      simp [h1, h]
    · simp [h1, h2]
theorem upd_upd3 {H : Hp} {a d : Addr} {o o1 o2 : HO} (ne : d ≠ a) : upd (upd (upd H a o) d o1) a o2 = upd (upd H d o1) a o2 := by
  funext b
  unfold upd
  by_cases h1 : b = a
  · simp [h1]
  · simp [h1]
section
variable {X : Cx} {x f : Str} {C : Addr} {e : Expr} {te : TE} {p pos pos2 : Pos} {j : Nat} {W : WX}
/-- raise C(e) -/
def RaiseOk (K : PySem.W.Frag) (C : Addr) (f : Str) (W : XK) (v : V) (H1 : Hp) : Prop :=
  [v].length ≤ 1000 ∧ ∀ a, H1 a = none → spInit K C f (.ref a :: ([v] ++ [])) (upd H1 a (exo a C none))
    (fun u H2 => u = .non ∧ ∃ (d : Addr) (fs : List (Str × V)), H2 a = some (exo a C (some d)) ∧ H2 d = some (exd d fs) ∧ H1 d = none ∧ W (.ref C) (some d) (upd (del H2 a) d (.xd fs))) (fun _ _ _ => False)
theorem RaiseOk.of {K : PySem.W.Frag} {W : XK} {v : V} {H1 : Hp} (h : ∀ d, H1 d = none → W (.ref C) (some d) (upd H1 d (.xd [(f, v)]))) : RaiseOk K C f W v H1 := by
  refine ⟨by show 1 ≤ 1000; decide, fun a ha => ⟨a, v, rfl, upd_same, fun dx hdx ne => ⟨rfl, dx, [(f, v)], upd_same, ?_, ?_, ?_⟩⟩⟩
  · rw [upd_ne ne, upd_same]
  · rw [upd_ne ne] at hdx
    exact hdx
  · rw [upd_ne ne] at hdx
    rw [upd_upd3 ne, del_upd2 ha ne]
    exact h dx hdx
def tRaiseC (K : PySem.W.Frag) (C : Addr) (f : Str) (W : WX) (te : TE) : TS := fun _ σ H => te σ H fun v H1 => RaiseOk K C f (fun cls d H2 => W cls d σ H2) v H1
theorem ps_raiseC (c : ErrC X.prog X.w X.K X.mg X.base x f C) (hc : X.calm = true) (hr : Room j X.A) (tk : Takes X W) (hg : Gl X x) (he : PE X e te) (hj : 2 ≤ j := by decide) (hdb : (x == ("__debug__" : Str)) = false := by decide)
    (hst : starEach [e] X.env = (false, eval e X.env) :: starEach [] X.env := by rfl) (hpl : (backTo pos (starEach [] X.env)).any (·.1) = false := by rfl) :
    PS X (.Raise (some (.Call (.Name x p) [e] [] pos)) none pos2) (tRaiseC X.K C f W te) := by
  obtain ⟨fI, fd, iC, tI, F, hb⟩ := c.ini
  have pm : PMk X (.Call (.Name x p) [e] [] pos) (tMkO C (spInit X.K C f) [] (tCons te tNil)) :=
    pmk_oex c.T iC tI F (hr.mono hj) hb .nil pass0 hg c.gl (pa_cons he pa_nil hst) hdb hst hpl
  exact ps_raise (pos := pos2) hc tk pm
end
/-! ## try: .. except C as n: y = n, the error held on -/
/-- an error at a, of the class cls, its own dict (if any) at d -/
def ExV (a : Addr) (cls : Value) (d : Option Addr) : HO := .ext fun h => ∃ (oe : Obj) (vs : Array Value), h.get? a = some oe ∧ Zc cls d oe ∧ oe.data = .fields vs
theorem exV_ok {P : Program} {w : World} {H : Hp} {h : Heap} {a : Addr} {cls : Value} {d : Option Addr} {oe : Obj} {vs : Array Value} (e : h.get? a = some oe) (z : Zc cls d oe) (g : oe.data = .fields vs) : ObjOk P w H h a (ExV a cls d) := by
  refine ⟨⟨oe, vs, e, z, g⟩, ⟨oe, e⟩, ?_⟩
  rintro h1 h2 ⟨o1, v1, e1, r⟩ k
  exact ⟨o1, v1, k o1 e1, r⟩
section
variable {X : Cx} {pins : List (Addr × Obj)} {σ : L2.St} {H : Hp} {s : Shared}
/-- an object that stands and is not told is told from now on -/
theorem Inv.told {a : Addr} {cls : Value} {d : Option Addr} {oe : Obj} {vs : Array Value} (I : Inv X (pins ++ [(a, oe)]) σ H s) (hn : X.s_0.heap.get? a = none) (hx : X.ex = []) (hpa : ∀ p, p ∈ X.pn ++ pins → p.1 ≠ a) (z : Zc cls d oe) (g : oe.data = .fields vs) : Inv X pins σ (upd H a (ExV a cls d)) s := by
  obtain ⟨e, na, nL, nF, nc⟩ := I.pin (a, oe) (List.mem_append_right _ (List.mem_append_right _ (List.mem_singleton.mpr rfl)))
  have keepS : ∀ b o, H b = some o → upd H a (ExV a cls d) b = some o := fun b o q => by
    rw [upd_ne (ne_of_none q na)]
    exact q
  have J : Inv X pins σ H s := I.unpinned
  exact {
    ok := J.ok, os := J.os, bare := J.bare
    base := {
      keep := fun b o q n hb hx => J.base.keep b o q n hb hx
      slot := fun b o q n hb hx => J.base.slot b o q n hb hx
      free := fun b o q n hx => by
        have ne : b ≠ a := fun z => by rw [z, hn] at q; cases q
        rw [upd_ne ne]
        exact J.base.free b o q n hx
      there := fun b o q hx => J.base.there b o q hx
      tups := fun b xs q => keepS _ _ (J.base.tups b xs q)
      frzs := fun b o u q => keepS _ _ (J.base.frzs b o u q)
      tbls := fun b ps q => let ⟨m, e⟩ := J.base.tbls b ps q; ⟨m, keepS _ _ e⟩ }
    loc := J.loc, cell := J.cell
    free := by rw [upd_ne (Ne.symm nL)]; exact J.free
    freeC := fun x c hc => by
      have ne : c ≠ a := fun z => by
        obtain ⟨v, hv⟩ := J.cell x c hc
        rw [z] at hv
        obtain ⟨o1, h1, h2⟩ := hv
        rw [e] at h1
        cases h1
        exact nc _ h2
      rw [upd_ne ne]
      exact J.freeC x c hc
    pin := fun p hp => by
      obtain ⟨p1, p2, p3⟩ := J.pin p hp
      refine ⟨p1, ?_, p3⟩
      rw [upd_ne (hpa p hp)]
      exact p2
    hok := by
      intro b u q
      by_cases hb : b = a
      · subst hb
        rw [upd_same] at q
        cases q
        exact exV_ok e z g
      · rw [upd_ne hb] at q
        exact (J.hok b u q).stay (fun _ _ _ r => r) (fun c r => keepS c _ r) fun c xs r => keepS c _ r
    len := J.len }
end
/-- what the clause 'except c as n: y = n' wishes of an error of the body: slot i is n's, slot k is y's -/
def wKeep (K : PySem.W.Frag) (c : Value) (i k : Nat) (Wout : WX) (D : Ends) : WX := fun cls d σ H =>
  ∃ b, PySem.W.exmOne K cls c = some b ∧ (b = true → ∀ a, H a = none → D.nx (((σ.set i (some (.ref a))).set k (some (.ref a))).set i none) (upd H a (ExV a cls d))) ∧ (b = false → Wout cls d σ H)
section
variable {X : Cx} {x n y : Str} {c : Value} {i k : Nat} {body : List Stmt} {np np2 np3 pos pos' pos3 : Pos} {tb : WX → TS} {Wout : WX}
theorem ps_try_keep (hs : X.stack = X.env :: X.outer) (hf : X.env.frame = some X.env.locals) (hN : X.N.Nodup) (hi : X.N[i]? = some n) (hln : X.env.kindOf n = some .local) (hk : X.N[k]? = some y) (hly : X.env.kindOf y = some .local) (hik : i ≠ k) (hex : X.ex = [])
    (hc : Names X x c) (tk : Takes X Wout)
    (hb : ∀ (W : WX) (pn : List (Addr × Obj)) (xe : Value → Shared → Prop), Takes (X.tr pn xe) W → PassesOwn (model X.prog X.w) X.A X.env xe → PSs (X.tr pn xe) body (tb W))
    (hdn : (n == ("__debug__" : Str)) = false := by decide) (hcn : (n == ("__classdict__" : Str)) = false := by decide)
    (hsw : ∀ l, swapsWith (.Name n np2) (some (.Name y np3)) l X.env = pure false := by intro _; rfl) :
    PS X (.Try body [.ExceptHandler (some (.Name x np)) (some n) [.Assign [.Name y np3] (.Name n np2) pos3] pos'] [] [] pos) (fun D σ H => tb (wKeep X.K c i k Wout D) D σ H) := by
  constructor
  intro pins s σ H D I h
  have ok := I.ok
  have hfr : X.A.frames = some (X.env :: X.outer) := by rw [ok.frames, hs]
  refine wpAny_Try_except ?_
  refine wpAny_mono ((hb (wKeep X.K c i k Wout D) (X.pn ++ pins) (fun e s₁ => wpAny (model X.prog X.w) X.A (noteFrame e X.env) (fun _ s₂ => wpAny (model X.prog X.w) X.A (setFlight e none) (fun _ s₃ =>
    wpAny (model X.prog X.w) X.A (handleBy e X.env [.ExceptHandler (some (.Name x np)) (some n) [.Assign [.Name y np3] (.Name n np2) pos3] pos']) (SP X pins D) X.xe s₃) X.xe s₂) X.xe s₁) (fun u s' xx => ?_) PassesOwn.looking).run [] s σ H D (I.toTry _) h) (fun f s1 hsp => ?_) (fun e s1 he => he)
  · obtain ⟨a, B, sI, pins', σ', H', cls, d, rfl, J', nb, up, sky, na, os, ag, b, hb1, hyes, hno⟩ := xx
    have J : Inv X pins σ' H' sI := J'.ofTry ok
    have stk : Sky B (X.env :: X.outer) a (Zc cls d) X.env.locals s'.heap := hs ▸ sky
    show wpAny (model X.prog X.w) X.A (noteFrame (.ref a) X.env) _ _ _
    apply Sky.land Zc.steady hfr hf stk
    intro h3 fl3 up3
    have J3 : Inv X pins σ' H' { s' with heap := h3 } := Inv.landed J nb fl3.1 (up.trans up3) os ag
    obtain ⟨oe3, vs3, he3, hz3, hd3⟩ := fl3.there
    have nfr : a ∉ frs (X.env :: X.outer) := by
      intro hm
      obtain ⟨_, o', e', hnf⟩ := fl3.2.2.1.mem hm
      rw [he3] at e'
      cases e'
      exact hnf _ hd3
    have nS : a ∉ frs X.stack := hs ▸ nfr
    have nL : a ≠ X.env.locals := by
      intro z
      apply nfr
      exact List.mem_filterMap.mpr ⟨X.env, List.mem_cons_self, by rw [hf, z]⟩
    have nF : a ∉ X.fs := by
      intro hm
      obtain ⟨e1, he1, q1⟩ := List.mem_filterMap.mp hm
      apply nfr
      exact List.mem_filterMap.mpr ⟨e1, List.mem_cons_of_mem _ he1, q1⟩
    have hnI : sI.heap.get? a = none := by
      cases q : sI.heap.get? a with
      | none => rfl
      | some o =>
        have := nb a o q nS
        rw [fl3.2.1] at this
        cases this
    have hnS : X.s_0.heap.get? a = none := by
      cases q : X.s_0.heap.get? a with
      | none => rfl
      | some o =>
        obtain ⟨o', e'⟩ := J.base.there a o q (by rw [hex]; exact fun z => nomatch z)
        rw [hnI] at e'
        cases e'
    have hpa : ∀ p, p ∈ X.pn ++ pins → p.1 ≠ a := by
      intro p hp z
      obtain ⟨p1, _⟩ := J.pin p hp
      rw [z, hnI] at p1
      cases p1
    have S3 := J3.suite he3 hd3 na nL nF
    refine wpAny_handleBy_cons (codeAny_handlers_test ?_) (by intro q; cases q)
    have LTy : PySem.W.Looks (model X.prog X.w) h3 (typeOf (.ref a)) cls := by
      intro A Q E s k q
      refine wpAny_typeOf_ref (k _ _ he3) ?_
      rw [hz3.1]
      exact q
    have LM := PySem.W.exm_one (M := model X.prog X.w) (J3.kIn) LTy hb1
    have test : ∀ {Q : Value → Shared → Prop} {E : Value → Shared → Prop}, Q c { s' with heap := h3 } → wpAny (model X.prog X.w) (X.A.mark (some (.ref a))) (eval (.Name x np) X.env) Q E { s' with heap := h3 } := by
      intro Q E q
      obtain ⟨hg, hdbg, hm⟩ := hc
      rcases hm with hm | ⟨hm, hv, hnn⟩
      · exact ld_glob (X := X.suite a ((a, oe3) :: (X.pn ++ pins))) S3 hg hm q hdbg
      · exact ld_blt (X := X.suite a ((a, oe3) :: (X.pn ++ pins))) S3 hg hm hv q hnn hdbg
    refine test (LM.here ?_)
    cases b with
    | true =>
      apply codeAny_handlers_suite_as
      apply HandSPX.lands_againZ fl3
      intro h4 fl4 up4
      have J4 : Inv X pins σ' H' { s' with heap := h4 } := Inv.landed J nb fl4.1 ((up.trans up3).trans up4) os ag
      obtain ⟨oe4, vs4, he4, hz4, hd4⟩ := fl4.there
      have S4 := J4.suite he4 hd4 na nL nF
      refine store_ok (X := X.suite a ((a, oe4) :: (X.pn ++ pins))) (v := .ref a) S4 hN hi (.inl hln) rfl ?_ (.inr hln)
      intro s5 S5
      have st : PSs (X.suite a ((a, oe4) :: (X.pn ++ pins))) [.Assign [.Name y np3] (.Name n np2) pos3] (tAsg (tVar i) (gName k)) :=
        pss_one (ps_set (i := k) hN hk (.inl hly) (pe_var hi (.inl hln) hdn hcn) (hsw _) (.inr hly))
      have len : i < σ'.length := by
        rw [J4.len]
        exact (List.getElem?_eq_some_iff.mp hi).1
      refine wpAny_mono (st.run [] s5 _ H' { nx := fun σ6 H6 => σ6 = (σ'.set i (some (.ref a))).set k (some (.ref a)) ∧ H6 = H', rt := fun _ _ => False } S5 ⟨.ref a, by rw [List.getElem?_set_self len], rfl, rfl⟩) ?_ (fun _ _ z => False.elim z)
      intro f s6 hsp
      cases f with
      | next =>
        obtain ⟨σ6, H6, S6, rfl, rfl⟩ := hsp
        obtain ⟨q1, q2, q3, q4, q5⟩ := S6.pin (a, oe4) (List.mem_append_left _ List.mem_cons_self)
        have J6 := S6.unsuite ok
        have P6 : Inv X (pins ++ [(a, oe4)]) _ H6 s6 := J6.pins_of (by
          intro p hp
          rcases List.mem_append.mp hp with hp | hp
          · exact J6.pin p (List.mem_append_right _ hp)
          · rw [List.mem_singleton.mp hp]
            exact ⟨q1, q2, nL, nF, q5⟩)
        refine gone_ok P6 hN hi hln ?_
        intro s7 J7
        exact ⟨_, _, Inv.told J7 hnS hex hpa hz4 hd4, hyes rfl a na⟩
      | brk =>
        obtain ⟨_, _, _, z⟩ := hsp
        exact z.elim
      | cont =>
        obtain ⟨_, _, _, z⟩ := hsp
        exact z.elim
      | ret u =>
        obtain ⟨_, _, _, _, _, z⟩ := hsp
        exact z.elim
    | false =>
      show wpAny _ X.A (handleBy (.ref a) X.env []) _ _ _
      apply wpAny_handleBy_nil
      obtain ⟨k1, k2, k3, oe, vs, T, oT, ts', he, hz, hd, h1, hr⟩ := id fl3
      have fin : wpAny (model X.prog X.w) X.A (setFlight (.ref a) X.env.frame) (fun _ s4 => wpAny (model X.prog X.w) X.A (throw (.ref a) : Sem Flow) (SP X pins D) X.xe s4) X.xe { s' with heap := h3 } := by
        rw [hf]
        apply HandSPX.setFlight_upZ fl3
        intro h4 hh4 up4
        apply wpAny_throw
        apply tk
        exact ⟨a, B, sI, pins, σ', H', cls, d, rfl, J, nb, (up.trans up3).trans up4, .inr (.inr (hs ▸ hh4)), na, os, ag, hno rfl⟩
      unfold PySem.passOn
      refine wpAny_bind (wpAny_field he hd h1 ?_)
      rw [if_neg (show ¬ ((Value.ref T == Value.none) = true) by simp)]
      first
        | exact wpAny_bind (wpAny_pure (wpAny_bind fin))
        | exact wpAny_bind fin
  · cases f with
    | next =>
      obtain ⟨σ1, H1, J1, q⟩ := hsp
      exact wpAny_execs_nil ⟨σ1, H1, J1.ofTry ok, q⟩
    | brk =>
      obtain ⟨σ1, H1, J1, q⟩ := hsp
      exact ⟨σ1, H1, J1.ofTry ok, q⟩
    | cont =>
      obtain ⟨σ1, H1, J1, q⟩ := hsp
      exact ⟨σ1, H1, J1.ofTry ok, q⟩
    | ret u =>
      obtain ⟨v, σ1, H1, J1, r, q⟩ := hsp
      exact ⟨v, σ1, H1, J1.ofTry ok, r, q⟩
end
end LT
namespace LT
open PySem PySem.Spec PyProof.Rows L2
/-! ## what is the same, or equal item by item -/
def EqT (K : PySem.W.Frag) (H : Hp) : Nat → V → V → Prop
  | 0 => fun _ _ => False
  | n + 1 => fun x y => (x = y ∧ (flatB x = true ∨ ∃ a, x = .ref a)) ∨ (∃ a b xs ys, x = .ref a ∧ y = .ref b ∧ SqL K H a xs ∧ SqL K H b ys ∧ Paired (EqT K H n) xs ys) ∨
      (∃ a b xs ys, x = .ref a ∧ y = .ref b ∧ SqT K H a xs ∧ SqT K H b ys ∧ Paired (EqT K H n) xs ys)
theorem EqT.refl {K : PySem.W.Frag} {H : Hp} {n : Nat} (x : V) (h : flatB x = true ∨ ∃ a, x = .ref a) : EqT K H (n + 1) x x := .inl ⟨rfl, h⟩
theorem paired_refl {K : PySem.W.Frag} {H : Hp} {n : Nat} : ∀ {xs : List V}, (∀ x ∈ xs, flatB x = true ∨ ∃ a, x = .ref a) → Paired (EqT K H (n + 1)) xs xs
  | [], _ => .nil
  | x :: xs, h => .cons (EqT.refl x (h x List.mem_cons_self)) (paired_refl fun y hy => h y (List.mem_cons_of_mem _ hy))
theorem all_range {n : Nat} : ((List.range n).all fun _ => true) = true := List.all_eq_true.mpr fun _ _ => rfl
theorem eqItems {A : Around} {s : Shared} {F : V → V → Prop} (ih : ∀ x y v u, F x y → RelV x v → RelV y u → SeqAt.EqAt A s v u true) : ∀ {xs ys : List V}, Paired F xs ys → ∀ {us ws : List Value}, Vals xs us → Vals ys ws →
    ∀ j (h1 : j < us.length) (h2 : j < ws.length), SeqAt.EqAt A s us[j] ws[j] true
  | _, _, .nil, _, _, .nil, .nil, j, h1, _ => absurd h1 (Nat.not_lt_zero j)
  | _, _, .cons f _, _, _, .cons a _, .cons b _, 0, _, _ => ih _ _ _ _ f a b
  | _, _, .cons _ k, _, _, .cons _ r, .cons _ q, j + 1, h1, h2 => eqItems ih k r q j (Nat.lt_of_succ_lt_succ h1) (Nat.lt_of_succ_lt_succ h2)
section
variable {X : Cx} {pins : List (Addr × Obj)} {σ : L2.St} {H : Hp} {s : Shared}
theorem eqT_run (I : Inv X pins σ H s) : ∀ (n : Nat) (A : Around), A.units + n < cLine → ∀ (x y : V) (v u : Value), EqT X.K H n x y → RelV x v → RelV y u → SeqAt.EqAt A s v u true
  | 0, _, _, _, _, _, _, h, _, _ => (show False from h).elim
  | n + 1, A, hu, x, y, v, u, h, rx, ry => by
    have ih := eqT_run I n A.in1 (by show A.units + 1 + n < cLine; omega)
    rcases h with ⟨rfl, f⟩ | ⟨a, b, xs, ys, rfl, rfl, ha, hb, hp⟩ | ⟨a, b, xs, ys, rfl, rfl, ha, hb, hp⟩
    · rcases f with f | ⟨a, rfl⟩
      · exact eqAt_same rx ry f
      · cases (show v = Value.ref a from rx)
        cases (show u = Value.ref a from ry)
        exact SeqAt.EqAt.same _
    · cases (show v = Value.ref a from rx)
      cases (show u = Value.ref b from ry)
      by_cases e : a = b
      · subst e
        exact SeqAt.EqAt.same _
      obtain ⟨us, r1, p1, _⟩ := I.list ha
      obtain ⟨ws, r2, p2, _⟩ := I.list hb
      have hsz : us.toArray.size = ws.toArray.size := by
        rw [List.size_toArray, List.size_toArray, ← r1.length, ← r2.length]
        exact Paired.length hp
      have k := SeqAt.RcAt.lists (A := A) (e := fun _ => true) p1.isList p2.isList hsz (by omega) fun j h1 h2 => by
        have k := eqItems ih hp r1 r2 j (by simpa using h1) (by simpa using h2)
        simpa using k
      rw [all_range] at k
      exact SeqAt.EqAt.of_refs e k
    · cases (show v = Value.ref a from rx)
      cases (show u = Value.ref b from ry)
      by_cases e : a = b
      · subst e
        exact SeqAt.EqAt.same _
      obtain ⟨us, r1, p1, _⟩ := I.tuple ha
      obtain ⟨ws, r2, p2, _⟩ := I.tuple hb
      have hsz : us.toArray.size = ws.toArray.size := by
        rw [List.size_toArray, List.size_toArray, ← r1.length, ← r2.length]
        exact Paired.length hp
      have k := SeqAt.RcAt.tuples (A := A) (e := fun _ => true) p1 p2 (by omega) fun j h1 h2 => by
        have k := eqItems ih hp r1 r2 j (by simpa using h1) (by simpa using h2)
        simpa using k
      rw [all_range, hsz] at k
      simp only [Bool.true_and, beq_self_eq_true] at k
      exact SeqAt.EqAt.of_refs e k
/-- two lists, equal item by item: != is False, == is True -/
def rLsT (K : PySem.W.Frag) (b : Bool) : R2 := fun x y H Q => ∃ p q xs ys n, x = .ref p ∧ y = .ref q ∧ SqL K H p xs ∧ SqL K H q ys ∧ n ≤ 60 ∧ Paired (EqT K H n) xs ys ∧ Q (.bl b) H
theorem op_neT (hu : X.A.units + 64 < cLine) : OpR X (compareOp .NotEq) (rLsT X.K false) := by
  rintro pins s σ H x y v u Q I rx ry ⟨p, q, xs, ys, n, rfl, rfl, ha, hb, hn, hp, hQ⟩
  cases (show v = Value.ref p from rx)
  cases (show u = Value.ref q from ry)
  obtain ⟨us, r1, p1, _⟩ := I.list ha
  obtain ⟨ws, r2, p2, _⟩ := I.list hb
  have hsz : us.toArray.size = ws.toArray.size := by
    rw [List.size_toArray, List.size_toArray, ← r1.length, ← r2.length]
    exact Paired.length hp
  have ih := eqT_run I n X.A.in1 (by show X.A.units + 1 + n < cLine; omega)
  have k := SeqAt.RcNeAt.lists (A := X.A) (e := fun _ => true) p1.isList p2.isList hsz (by omega) fun j h1 h2 => by
    have k := eqItems ih hp r1 r2 j (by simpa using h1) (by simpa using h2)
    simpa using k
  rw [all_range] at k
  exact k _ _ _ _ ⟨.bl false, H, I, rfl, hQ⟩
theorem op_eqT (hu : X.A.units + 64 < cLine) : OpR X (compareOp .Eq) (rLsT X.K true) := by
  rintro pins s σ H x y v u Q I rx ry ⟨p, q, xs, ys, n, rfl, rfl, ha, hb, hn, hp, hQ⟩
  cases (show v = Value.ref p from rx)
  cases (show u = Value.ref q from ry)
  obtain ⟨us, r1, p1, _⟩ := I.list ha
  obtain ⟨ws, r2, p2, _⟩ := I.list hb
  have hsz : us.toArray.size = ws.toArray.size := by
    rw [List.size_toArray, List.size_toArray, ← r1.length, ← r2.length]
    exact Paired.length hp
  have ih := eqT_run I n X.A.in1 (by show X.A.units + 1 + n < cLine; omega)
  have k := SeqAt.RcAt.lists (A := X.A) (e := fun _ => true) p1.isList p2.isList hsz (by omega) fun j h1 h2 => by
    have k := eqItems ih hp r1 r2 j (by simpa using h1) (by simpa using h2)
    simpa using k
  rw [all_range] at k
  exact k _ _ _ _ ⟨.bl true, H, I, rfl, hQ⟩
end
/-! ## errors as values -/
/-- an error of the class at C (made here, or caught), its own dict holding f (where it has one) -/
inductive IsEx (H : Hp) (C : Addr) : Addr → List (Str × V) → Prop
  | made {a dx : Addr} {fs : List (Str × V)} : H a = some (exo a C (some dx)) → H dx = some (exd dx fs) → IsEx H C a fs
  | bare {a : Addr} : H a = some (exo a C none) → IsEx H C a []
  | kept {a dx : Addr} {fs : List (Str × V)} : H a = some (ExV a (.ref C) (some dx)) → H dx = some (.xd fs) → IsEx H C a fs
  | kept0 {a : Addr} : H a = some (ExV a (.ref C) none) → IsEx H C a []
theorem Fx.isEx {H H1 : Hp} {C a : Addr} {fs : List (Str × V)} (h : Fx [] H H1) (e : IsEx H C a fs) : IsEx H1 C a fs := by
  cases e with
  | made e1 e2 => exact .made (h.all e1) (h.all e2)
  | bare e1 => exact .bare (h.all e1)
  | kept e1 e2 => exact .kept (h.all e1) (h.all e2)
  | kept0 e1 => exact .kept0 (h.all e1)
section
variable {X : Cx} {pins : List (Addr × Obj)} {σ : L2.St} {H : Hp} {s : Shared} {C a : Addr} {fs : List (Str × V)}
theorem notCls_fields {oe : Obj} {vs : Array Value} (h : oe.data = .fields vs) : PySem.W.notCls oe = true := by
  unfold PySem.W.notCls
  rw [h]
/-- the object and its dict in the heap -/
theorem IsEx.inst (e : IsEx H C a fs) (I : Inv X pins σ H s) : ∃ oe od, PySem.W.InstAt s.heap a oe C od ∧ (od = none ∧ fs = [] ∨ ∃ o, od = some o ∧ ∃ mA : Str → Option Value, (∀ f, RelO (fs.lookup f) (mA f)) ∧ ∀ name, PySem.W.lookIn name o = some (mA name)) := by
  cases e with
  | made e1 e2 =>
    obtain ⟨t1, h1⟩ := exo_at I.hok e1
    obtain ⟨mA, hns, rel⟩ := exd_at I.hok e2
    obtain ⟨od, ho, hl⟩ := lookIn_ns hns
    exact ⟨_, some od, ⟨h1, rfl, notCls_fields rfl, ho⟩, .inr ⟨od, rfl, mA, rel, hl⟩⟩
  | bare e1 =>
    obtain ⟨t1, h1⟩ := exo_at I.hok e1
    exact ⟨_, none, ⟨h1, rfl, notCls_fields rfl, trivial⟩, .inl ⟨rfl, rfl⟩⟩
  | kept e1 e2 =>
    obtain ⟨⟨oe, vs, h1, z, g⟩, _⟩ := I.hok a _ e1
    have hx : ObjOk X.prog X.w H s.heap _ (.xd fs) := I.hok _ _ e2
    obtain ⟨mA, hns, rel⟩ := hx
    obtain ⟨od, ho, hl⟩ := lookIn_ns hns
    refine ⟨oe, some od, ⟨h1, z.1, notCls_fields g, ?_⟩, .inr ⟨od, rfl, mA, rel, hl⟩⟩
    rw [z.2]
    exact ho
  | kept0 e1 =>
    obtain ⟨⟨oe, vs, h1, z, g⟩, _⟩ := I.hok a _ e1
    refine ⟨oe, none, ⟨h1, z.1, notCls_fields g, ?_⟩, .inl ⟨rfl, rfl⟩⟩
    rw [z.2]
    trivial
/-- e.f -/
def tExf (K : PySem.W.Frag) (f : Str) (te : TE) : TE := fun σ H Q => te σ H fun x H1 => ∃ C a fs v, x = .ref a ∧ IsEx H1 C a fs ∧ fs.lookup f = some v ∧ XfC K C ∧ PySem.W.findIn K (.ref C) f = some none ∧ Q v H1
theorem pe_exf {e : Expr} {te : TE} {pos : Pos} {n : Str} (he : PE X e te) (hb : attributeBase e n X.env (eval e X.env) = eval e X.env := by rfl) : PE X (.Attribute e n pos) (tExf X.K n te) := by
  constructor
  intro pins s σ H Q I h
  refine attr_of hb (thn (he.run pins s σ H _ I h) ?_)
  rintro u s1 ⟨x, H1, I1, rx, C, a, fs, v, rfl, ie, l, T, hno, q⟩
  cases (show u = Value.ref a from rx)
  obtain ⟨oe, od, J, r⟩ := ie.inst I1
  rcases r with ⟨_, rfl⟩ | ⟨o, rfl, mA, rel, hl⟩
  · cases l
  · obtain ⟨u, hu, ru⟩ := RelO.some_of (v := v) (o := mA n) (by rw [← l]; exact rel n)
    exact HandSPX.exc_get I1.kIn J T.ga T.gg T.exC (PySem.W.findObj_own T.hdC hno rfl (by rw [hl, hu])) (handed_of ru) ⟨v, H1, I1.tok _, ru, q⟩
/-- isinstance(e, c) of an error, of None, or of data -/
inductive TyE (K : PySem.W.Frag) (H : Hp) : V → Value → Prop
  | dat {x : V} {t : Value} : TyX K H x t → TyE K H x t
  | exc {C a : Addr} {fs : List (Str × V)} : IsEx H C a fs → ExcC K C → TyE K H (.ref a) (.ref C)
def rIsE (K : PySem.W.Frag) : List V → Hp → VK → Prop := fun xs H Q => ∃ (x c : V) (t u : Value) (b : Bool), xs = [x, c] ∧ ClsV c u ∧ TyE K H x t ∧ PySem.W.kitOne K t u = some b ∧ Q (.bl b) H
theorem call_isV (K : PySem.W.Frag) (h : X.K = K) : CallR X (.builtin "isinstance") (rIsE K) := by
  subst h
  rintro pins s σ H xs us Q I r ⟨x, c, t, u, b, rfl, k, ty, e, q⟩
  cases ty with
  | dat ty => exact call_isi pins s σ H [x, c] us Q I r ⟨x, c, t, u, b, rfl, k, ty, e, q⟩
  | @exc C a fs ie ec =>
    obtain ⟨u1, u2, rfl, r1, r2⟩ := vals2 r
    have e2 := k.eq r2
    subst e2
    cases (show u1 = Value.ref a from r1)
    obtain ⟨oe, od, J, _⟩ := ie.inst I
    refine PySem.W.kia_one (PySem.W.kitx_exc ?_ ec.hg ec.hk ec.hs ec.ha ec.hn ec.ht ec.hm) I.kIn J e (fun z => nomatch z) fun tk => ⟨.bl b, H, I.tok tk, rfl, q⟩
    obtain ⟨cd, hc, _⟩ := PySem.W.any_some ec.hd
    rw [hc]
    rfl
end
end LT
/-! an own error made by keywords -/
namespace PySem
namespace LTK
open Builtin Builtin.ObjectAttr HandSPX
section
variable {M : Model} {A : Around} {E : Value → Shared → Prop} {h : Heap} {g : Array GenState} {d : Drawn} {t : Nat} {os : OsState}
variable {nm q : Str} {C N : Addr} {bs bm bmB : List Value} {hdct : Bool} {sn : List Str} {sub : List Value} {ab : Bool} {col : Option Bool} {dd : Option Addr} {k0 k1 k2 k3 k5 : Option Value} {B newId initId : String}
theorem check_new_kw (F : ExcBaseFacts B newId initId bmB) (hT : ∀ X : String, bm.contains (.type X) = bmB.contains (.type X)) {rest : List Value} {f : Str} {v : Value} {Q : Unit → Shared → Prop}
    (hC : h.get? C = some (excClassObj nm q C N bs bm hdct sn sub ab col dd k0 k1 k2 k3 k5 newId)) (hq : Q () ⟨h, g, d, t, os⟩) :
    wpAny M A (checkBuiltinCall newId ⟨.ref C :: rest, [(f, v)]⟩) Q E ⟨h, g, d, t, os⟩ := by
  have hcont : (Value.ref C :: bm).contains (.type B) = true := by
    rw [List.contains_cons, hT, F.hasB]
    exact Bool.or_true _
  have hs := F.noStar
  simp only [checkBuiltinCall, F.newKind, F.newSplit, F.newRow]
  repeat (first | refine wpAny_loadPart_at hC ?_ | (refine wpAny_isSubtype_exc hC ?_; rw [hcont]) | refine wpAny_staticBase_exc hC ?_ | refine wpAny_madeBy_exc hC ?_ | simp only [bne_self_eq_false, Bool.false_eq_true, if_false] | wp_step)
  exact hq
end
section
variable {prog : Program} {w : World} {A : Around} {E : Value → Shared → Prop} {R : Result → Shared → Prop} {h : Heap} {g : Array GenState} {d : Drawn} {t : Nat} {os : OsState}
variable {nm q : Str} {C N : Addr} {bs bm bmB : List Value} {hdct : Bool} {sn : List Str} {sub : List Value} {ab : Bool} {col : Option Bool} {dd : Option Addr} {k0 k1 k2 k3 k5 : Option Value} {B newId initId : String}
theorem new_kw (F : ExcBaseFacts B newId initId bmB) (hT : ∀ X : String, bm.contains (.type X) = bmB.contains (.type X)) {rest : List Value} {f : Str} {v : Value}
    (hC : h.get? C = some (excClassObj nm q C N bs bm hdct sn sub ab col dd k0 k1 k2 k3 k5 newId))
    (hq : R (.ok (.ret (.ref (h.objs.size + 1)))) ⟨(h.push { cls := .type "tuple", data := .seq rest.toArray }).push { cls := .ref C, data := .fields #[.ref h.objs.size, .none, .none, .none, .bool false, .none] }, g, d, t, os⟩)
    (hrest : rest.length ≤ sizeLine) : codeAny (model prog w) A (.builtin newId ⟨.ref C :: rest, [(f, v)]⟩) R ⟨h, g, d, t, os⟩ := by
  have he := F.ends
  have c1 : (Value.ref C :: bm).contains (.type B) = true := by
    rw [List.contains_cons, hT, F.hasB]
    exact Bool.or_true _
  have c2 : (Value.ref C :: bm).contains (.type "AttributeError") = false := by
    rw [List.contains_cons, hT, F.noAttr]
    rfl
  have c3 : (Value.ref C :: bm).contains (.type "NameError") = false := by
    rw [List.contains_cons, hT, F.noName]
    rfl
  apply codeAny_builtinAt F.entry
  unfold Builtin.«BaseException.__new__»
  apply wpAt_bind
  show wpAt _ _ _ (stack >>= _) _ _ _
  refine wpAt_bind (wpAt_stack fun p below => ?_)
  apply wpAt_of_wpAny
  wp_walk
  apply wpAt_of_wpAny
  rw [F.owner]
  repeat (first | with_reducible refine wpAny_madeHere_exc F.canon hC ?_ | with_reducible refine wpAny_loadPart_at hC ?_ | (with_reducible refine wpAny_isSubtype_exc hC ?_; first | rw [c1] | rw [c2] | rw [c3]) | wp_step)
  show R _ _
  rw [Heap.size_push]
  exact hq
theorem type_call_kw (F : ExcBaseFacts B newId initId bmB) (hT : ∀ X : String, bm.contains (.type X) = bmB.contains (.type X)) {rest : List Value} {f : Str} {v : Value} {fI : Addr} {Q : Fin → Shared → Prop}
    (hC : h.get? C = some (excClassObj nm q C N bs bm hdct sn sub ab col dd k0 k1 k2 k3 k5 newId))
    (hi : W.Looks (model prog w) h (typeLookup (.ref C) "__init__") (some (.ref fI))) (hb : ∀ self, W.Looks (model prog w) h (bindSpecial (.ref fI) self) (.ref fI, [self])) (hrest : rest.length ≤ sizeLine)
    (hq : codeAny (model prog w) A (.call (.ref fI) ⟨.ref (h.objs.size + 1) :: rest, [(f, v)]⟩)
      (fun r s' => match r with | .ok (.ret v) => v = .none ∧ Q (.done (.ret (.ref (h.objs.size + 1)))) s' | .ok _ => False | .error e => E e s') ⟨(h.push (W.kdv_tup rest)).push (excO C h.objs.size), g, d, t, os⟩) :
    wpAny (model prog w) A (Builtin.«type.__call__» ⟨.ref C :: rest, [(f, v)]⟩) Q E ⟨h, g, d, t, os⟩ := by
  repeat (first | with_reducible refine wpAny_loadPart_at hC ?_ | with_reducible refine wpAny_madeBy_exc hC ?_ | wp_step)
  apply codeAny_call_builtin_code (Code.quiet_builtin _ F.quiet) (check_new_kw F hT hC _)
  apply new_kw F hT hC _ hrest
  show wpAny _ _ _ _ _ _
  have k : ∀ b o, h.get? b = some o → ((h.push (W.kdv_tup rest)).push (excO C h.objs.size)).get? b = some o := by
    intro b o e
    exact Heap.get?_push_of_some _ (Heap.get?_push_of_some _ e)
  have hC1 := k _ _ hC
  have hget : ((h.push (W.kdv_tup rest)).push (excO C h.objs.size)).get? (h.objs.size + 1) = some (excO C h.objs.size) := by
    heap_get
  have hcC : (Value.ref C :: bm).contains (.ref C) = true := by
    simp
  have i1 := hi.keeps k
  have b1 := (hb (.ref (h.objs.size + 1))).keeps k
  unfold isInstance
  repeat (first | with_reducible refine wpAny_loadPart_at hget ?_ | (with_reducible refine wpAny_isSubtype_exc hC1 ?_; rw [hcC]) | wp_step)
  show wpAny _ _ (typeLookup (.ref C) _) _ _ _
  apply i1.at
  refine wpAny_holding (wpAny_bind (b1.at ?_))
  apply wpAny_bind
  refine wpAny_call (codeAny_mono hq ?_)
  intro r s' z
  rcases r with e | (v | _ | _ | _) <;> first | exact z | exact z.elim | skip
  obtain ⟨rfl, z⟩ := z
  first
    | exact wpAny_pure (wpAny_pure z)
    | (wp_walk; exact z)
theorem call_kw (F : ExcBaseFacts B newId initId bmB) (hT : ∀ X : String, bm.contains (.type X) = bmB.contains (.type X)) {rest : List Value} {f : Str} {v : Value} {fI : Addr}
    (hC : h.get? C = some (excClassObj nm q C N bs bm hdct sn sub ab col dd k0 k1 k2 k3 k5 newId))
    (hi : W.Looks (model prog w) h (typeLookup (.ref C) "__init__") (some (.ref fI))) (hb : ∀ self, W.Looks (model prog w) h (bindSpecial (.ref fI) self) (.ref fI, [self])) (hrest : rest.length ≤ sizeLine)
    (hq : codeAny (model prog w) (A.under (.builtin "type.__call__" ⟨.ref C :: rest, [(f, v)]⟩)) (.call (.ref fI) ⟨.ref (h.objs.size + 1) :: rest, [(f, v)]⟩) (W.InitBack (h.objs.size + 1) R) ⟨(h.push (W.kdv_tup rest)).push (excO C h.objs.size), g, d, t, os⟩) :
    codeAny (model prog w) A (.call (.ref C) ⟨rest, [(f, v)]⟩) R ⟨h, g, d, t, os⟩ := by
  have l1 := tc_lookup
  have l2 := tc_bind (.ref C)
  have hTy : (⟨h, g, d, t, os⟩ : Shared).TypeIs (.ref C) "type" := ⟨_, hC, rfl⟩
  apply codeAny_of_tree
  show wpAny _ _ (callAny (.ref C) _) _ _ _
  repeat (any_goals (first | assumption | with_reducible refine wpAny_loadPart_at hC ?_ | wp_step))
  refine ⟨rfl, ?_⟩
  refine codeAny_call_builtin_at (Code.quiet_builtin _ (by decide +kernel)) entry_typeCall (wpAny_check_type_call_sub hC (type_call_kw F hT hC hi hb hrest ?_))
  refine codeAny_mono hq ?_
  intro r s' z
  rcases r with e | (v | _ | _ | _) <;> exact z
end
end LTK
end PySem
namespace LT
open PySem PySem.Spec PyProof.Rows L2
/-! ## own errors made as values -/
/-- an own error class with one field, None where it is left out -/
structure ErrV (P : Program) (w : World) (K : PySem.W.Frag) (mg : Str → Option Value) (base : Heap) (x f : Str) (C : Addr) : Prop where
  T : OexC K C
  gl : mg x = some (.ref C)
  nf : PySem.W.findIn K (.ref C) f = some none
  xf : XfC K C
  ex : ExcC K C
  ini : ∃ fI fd, PySem.W.findIn K (.ref C) "__init__" = some (some (.ref fI)) ∧ PySem.W.typeIn K (.ref fI) = some (.type "function") ∧ FnOk P w K mg base CX0 1 fI fd ["self", f] (spInit K C f) ∧
    (∀ (s : Shared) (e u : Value), K.In s.heap → BindsTo s fd ⟨[e, u], []⟩ [("self", e), (f, u)]) ∧ (∀ (s : Shared) (e : Value), K.In s.heap → BindsTo s fd ⟨[e], []⟩ [("self", e), (f, .none)]) ∧
    (∀ (s : Shared) (e u : Value), K.In s.heap → BindsTo s fd ⟨[e], [(f, u)]⟩ [("self", e), (f, u)])
theorem ErrV.errC {P : Program} {w : World} {K : PySem.W.Frag} {mg : Str → Option Value} {base : Heap} {x f : Str} {C : Addr} (c : ErrV P w K mg base x f C) : ErrC P w K mg base x f C := by
  obtain ⟨fI, fd, iC, tI, F, b1, _⟩ := c.ini
  refine ⟨c.T, c.gl, c.nf, c.xf, c.ex, fI, fd, iC, tI, F, fun s us X hl => ?_⟩
  match us, hl with
  | [e, u], _ => exact b1 s e u X
/-- the error made, its dict at dx -/
def mkH (C a dx : Addr) (f : Str) (v : V) (H : Hp) : Hp := upd (upd H dx (exd dx [(f, v)])) a (exo a C (some dx))
def mkQ (C : Addr) (f : Str) (v : V) (H : Hp) (Q : VK) : Prop := ∀ a dx, H a = none → H dx = none → dx ≠ a → Q (.ref a) (mkH C a dx f v H)
section
variable {X : Cx} {pins : List (Addr × Obj)} {σ : L2.St} {H : Hp} {x f : Str} {C : Addr} {e : Expr} {te : TE} {p pos : Pos} {j : Nat} {hp : Heap} {g : Array GenState} {dr : Drawn} {tk : Nat} {os : OsState}
theorem mk_run {us : List Value} {kw : List (Str × Value)} {v : V} {u : Value} {Q : VK} (T : OexC X.K C) (hus : us.length ≤ 1) (hkw : kw = [] ∨ ∃ u0, kw = [(f, u0)]) {fI : Addr} {fd : FuncData} (iC : PySem.W.findIn X.K (.ref C) "__init__" = some (some (.ref fI)))
    (tI : PySem.W.typeIn X.K (.ref fI) = some (.type "function")) (F1 : FnOk X.prog X.w X.K X.mg X.base CX0 1 fI fd ["self", f] (spInit X.K C f)) (hr : Room 2 X.A) (I1 : Inv X pins σ H ⟨hp, g, dr, tk, os⟩)
    (hb : ∀ (s : Shared) (e : Value), X.K.In s.heap → BindsTo s fd ⟨e :: us, kw⟩ [("self", e), (f, u)]) (r : RelV v u) (q : mkQ C f v H Q) :
    wpAny (model X.prog X.w) X.A (call (.ref C) us kw) (EP X pins σ Q) X.xe ⟨hp, g, dr, tk, os⟩ := by
  obtain ⟨nm, qn, N, bs, bm, sn, sub, ab, col, dd, k0, k1, k2, k3, k5, hC, hbm⟩ := T.cls
  have hsz : hp.objs.size ≤ hp.objs.size + 1 := Nat.le_succ _
  have hn : H (hp.objs.size + 1) = none := I1.hok.fresh hsz
  have kk : ∀ b o, hp.get? b = some o → ((hp.push (PySem.W.kdv_tup us)).push (PySem.HandSPX.excO C hp.objs.size)).get? b = some o := fun b o e => Heap.get?_push_of_some _ (Heap.get?_push_of_some _ e)
  have hget : ((hp.push (PySem.W.kdv_tup us)).push (PySem.HandSPX.excO C hp.objs.size)).get? (hp.objs.size + 1) = some (PySem.HandSPX.excO C hp.objs.size) := by heap_get
  have I2 : Inv X pins σ (upd H (hp.objs.size + 1) (exo (hp.objs.size + 1) C none)) ⟨(hp.push (PySem.W.kdv_tup us)).push (PySem.HandSPX.excO C hp.objs.size), g, dr, tk, os⟩ :=
    I1.laid (t' := tk) (a := hp.objs.size + 1) (o := exo (hp.objs.size + 1) C none) (h' := (hp.push (PySem.W.kdv_tup us)).push (PySem.HandSPX.excO C hp.objs.size)) kk hsz (exo_ok hget)
  have hus' : us.length ≤ sizeLine := by
    rw [sizeLine_eq]
    omega
  have sp : spInit X.K C f [V.ref (hp.objs.size + 1), v] (upd H (hp.objs.size + 1) (exo (hp.objs.size + 1) C none)) (fun z H2 => z = .non ∧ Q (.ref (hp.objs.size + 1)) H2) (fun _ _ _ => False) := by
    refine ⟨_, v, rfl, upd_same, fun dx hdx ne => ⟨rfl, ?_⟩⟩
    rw [upd_ne ne] at hdx
    rw [upd_upd3 ne]
    exact q _ dx hn hdx ne
  have core : codeAny (model X.prog X.w) (X.A.under (.builtin "type.__call__" ⟨.ref C :: us, kw⟩)) (.call (.ref fI) ⟨.ref (hp.objs.size + 1) :: us, kw⟩)
      (PySem.W.InitBack (hp.objs.size + 1) fun r s' => match r with | .ok (.ret v) => EP X pins σ Q v s' | .ok _ => False | .error e => X.xe e s') ⟨(hp.push (PySem.W.kdv_tup us)).push (PySem.HandSPX.excO C hp.objs.size), g, dr, tk, os⟩ := by
    refine codeAny_mono (F1.run _ X.stack _ _ ⟨Value.ref (hp.objs.size + 1) :: us, kw⟩ [.ref (hp.objs.size + 1), u] _ _ (fun _ _ _ => False) (hr.make C us kw) (I2.env0.make C us kw) (hb _ (Value.ref (hp.objs.size + 1)) I2.kIn) (Paired.cons (show RelV (V.ref (hp.objs.size + 1)) (Value.ref (hp.objs.size + 1)) from rfl) (.cons r .nil)) sp) fun r s' hq' => ?_
    cases r with
    | error er => exact hq'.elim
    | ok fl =>
      cases fl with
      | ret u =>
        obtain ⟨z, H2, J, rv, ev, q2⟩ := I2.after hq'
        subst ev
        cases rv
        exact ⟨rfl, .ref (hp.objs.size + 1), H2, J, rfl, q2⟩
      | next => exact hq'.elim
      | brk => exact hq'.elim
      | cont => exact hq'.elim
  rcases hkw with rfl | ⟨u0, rfl⟩
  · exact wpAny_call (PySem.HandSPX.call_own F.excBase_ValueError (fun Y => PySem.HandSPX.refsVE_contains Y bm hbm) (I1.kIn _ _ hC) (PySem.W.looks_findIn I1.kIn iC) (fun self => PySem.W.bind_fn I1.kIn self tI) hus' core)
  · exact wpAny_call (PySem.LTK.call_kw F.excBase_ValueError (fun Y => PySem.HandSPX.refsVE_contains Y bm hbm) (I1.kIn _ _ hC) (PySem.W.looks_findIn I1.kIn iC) (fun self => PySem.W.bind_fn I1.kIn self tI) hus' core)
def tMkP (C : Addr) (f : Str) (te : TE) : TE := fun σ H Q => te σ H fun v H1 => mkQ C f v H1 Q
def tMk0 (C : Addr) (f : Str) : TE := fun σ H Q => mkQ C f .non H Q
def tMkK (C : Addr) (f : Str) (tk : TA) : TE := fun σ H Q => tk σ H fun zs H1 => ∃ v, zs = [v] ∧ mkQ C f v H1 Q
/-- C(e) -/
theorem pe_mkP (c : ErrV X.prog X.w X.K X.mg X.base x f C) (hr : Room j X.A) (hg : Gl X x) (he : PE X e te) (hj : 2 ≤ j := by decide) (hdb : (x == ("__debug__" : Str)) = false := by decide)
    (hst : starEach [e] X.env = (false, eval e X.env) :: starEach [] X.env := by rfl) (hpl : (backTo pos (starEach [] X.env)).any (·.1) = false := by rfl) :
    PE X (.Call (.Name x p) [e] [] pos) (tMkP C f te) := by
  obtain ⟨fI, fd, iC, tI, F1, b1, b2, b3⟩ := c.ini
  constructor
  intro pins s σ H Q I h
  apply wpAny_Call_Name_kw
  apply ld_glob I hg c.gl _ hdb
  apply PySem.W.callWith_K (h₀ := X.base) I.ok.mod.kin c.T.kC _ hst hpl
  rw [hst]
  show wpAny _ _ (spliced ((false, eval e X.env) :: backTo pos (starEach [] X.env))) _ _ s
  apply Calls.spliced_cons
  refine thn (he.run pins s σ H _ I h) ?_
  rintro u s1 ⟨v, H1, I1, r1, q1⟩
  refine Calls.spliced_nil ⟨I1.kIn, ?_⟩
  obtain ⟨hp, g, dr, tk, os⟩ := s1
  exact mk_run (us := [u]) (kw := []) c.T (Nat.le_refl _) (.inl rfl) iC tI F1 (hr.mono hj) I1 (fun s e X => b1 s e u X) r1 q1
/-- C() -/
theorem pe_mk0 (c : ErrV X.prog X.w X.K X.mg X.base x f C) (hr : Room j X.A) (hg : Gl X x) (hj : 2 ≤ j := by decide) (hdb : (x == ("__debug__" : Str)) = false := by decide) :
    PE X (.Call (.Name x p) [] [] pos) (tMk0 C f) := by
  obtain ⟨fI, fd, iC, tI, F1, b1, b2, b3⟩ := c.ini
  constructor
  intro pins s σ H Q I h
  apply wpAny_Call_Name_kw
  apply ld_glob I hg c.gl _ hdb
  apply PySem.W.callWith_K0 I.kIn c.T.kC
  obtain ⟨hp, g, dr, tk, os⟩ := s
  exact mk_run (us := []) (kw := []) c.T (Nat.zero_le _) (.inl rfl) iC tI F1 (hr.mono hj) I (fun s e X => b2 s e X) (show RelV .non .none from rfl) h
/-- C(f = e) -/
theorem pe_mkK {kws : List Keyword} {tk : TA} (c : ErrV X.prog X.w X.K X.mg X.base x f C) (hr : Room j X.A) (hg : Gl X x) (hkw : PK X kws tk) (hj : 2 ≤ j := by decide)
    (hall : (backToKw pos (keywordEach kws X.env)).all (·.1.isSome) = true := by rfl) (hks : (backToKw pos (keywordEach kws X.env)).filterMap (·.1) = [f] := by rfl)
    (hdb : (x == ("__debug__" : Str)) = false := by decide)
    (hpl : ((backTo pos (starEach [] X.env)).any (·.1) || (backToKw pos (keywordEach kws X.env)).any (·.1.isNone)) = false := by rfl) :
    PE X (.Call (.Name x p) [] kws pos) (tMkK C f tk) := by
  obtain ⟨fI, fd, iC, tI, F1, b1, b2, b3⟩ := c.ini
  constructor
  intro pins s σ H Q I h
  apply wpAny_Call_Name_kw
  apply ld_glob I hg c.gl _ hdb
  apply PySem.W.callWith_KW0 (h₀ := X.base) I.ok.mod.kin c.T.kC hall _ hpl
  refine thn (hkw.run pos pins s σ H _ I h) ?_
  rintro ws s2 ⟨zs, H2, I2, rz, v, rfl, q2⟩
  refine And.intro I2.kIn ?_
  rw [hks]
  cases rz with
  | cons r rn =>
    rename_i u us
    cases rn
    obtain ⟨hp, g, dr, tk, os⟩ := s2
    exact mk_run (us := []) (kw := [(f, u)]) c.T (Nat.zero_le _) (.inr ⟨u, rfl⟩) iC tI F1 (hr.mono hj) I2 (fun s e X => b3 s e u X) r q2
/-- C(), an own class without own __init__ -/
def tMkE (cls : Value) : TE := fun _ H Q => ∀ a, H a = none → Q (.ref a) (upd H a (ExV a cls none))
theorem pe_exc0 {bmB : List Value} {B newId initId : String} (F : ExcBaseFacts B newId initId bmB) (q : PySem.W.excIn X.K C bmB newId = true) (gC : X.mg x = some (.ref C)) (kC : PySem.W.keepIn X.K (.ref C) = true) (hg : Gl X x) (hdb : (x == ("__debug__" : Str)) = false := by decide) :
    PE X (.Call (.Name x p) [] [] pos) (tMkE (.ref C)) := by
  constructor
  intro pins s σ H Q I h
  apply wpAny_Call_Name_kw
  apply ld_glob I hg gC _ hdb
  apply PySem.W.callWith_K0 I.kIn kC
  show wpAny _ _ (call (.ref C) []) _ _ _
  obtain ⟨bm, N, nm, qn, bs, hdct, sn, sub, ab, col, dd, k0, k1, k2, k3, k5, mN, hC, hN, hni, T⟩ := exc_obj I.kIn q
  obtain ⟨hp, g, dr, tk, os⟩ := s
  refine wpAny_call_exc_subT F T hC hN hni (fun h' a hm => ?_) (by show 0 ≤ sizeLine; exact Nat.zero_le _)
  have hn : H a = none := I.hok.gone hm.new
  obtain ⟨t, ht, _, _⟩ := hm.there
  exact ⟨.ref a, upd H a (ExV a (.ref C) none), I.laidN hm.keeps hm.new hn (exV_ok ht ⟨rfl, rfl⟩ rfl), rfl, h a hn⟩
/-- ValueError() -/
def rMkB : List V → Hp → VK → Prop := fun xs H Q => xs = [] ∧ ∀ a, H a = none → Q (.ref a) (upd H a (ExV a (.type "ValueError") none))
theorem call_mkB : CallR X (.type "ValueError") rMkB := by
  rintro pins s σ H xs us Q I r ⟨rfl, h⟩
  cases r
  obtain ⟨hp, g, dr, tk, os⟩ := s
  refine wpAny_call_exc PySem.F.excCall_ValueError (fun h' a hm => ?_) (by show 0 ≤ sizeLine; exact Nat.zero_le _)
  have hn : H a = none := I.hok.gone hm.new
  obtain ⟨t, ht, _, _⟩ := hm.there
  exact ⟨.ref a, upd H a (ExV a (.type "ValueError") none), I.laidN hm.keeps hm.new hn (exV_ok ht ⟨rfl, rfl⟩ rfl), rfl, h a hn⟩
/-- isinstance of what stands as an error of ValueError's own -/
inductive TyF (K : PySem.W.Frag) (H : Hp) : V → Value → Prop
  | own {x : V} {t : Value} : TyE K H x t → TyF K H x t
  | blt {a : Addr} : H a = some (ExV a (.type "ValueError") none) → TyF K H (.ref a) (.type "ValueError")
def rIsF (K : PySem.W.Frag) : List V → Hp → VK → Prop := fun xs H Q => ∃ (x c : V) (t u : Value) (b : Bool), xs = [x, c] ∧ ClsV c u ∧ TyF K H x t ∧ PySem.W.kitOne K t u = some b ∧ Q (.bl b) H
theorem call_isF (K : PySem.W.Frag) (h : X.K = K) : CallR X (.builtin "isinstance") (rIsF K) := by
  subst h
  rintro pins s σ H xs us Q I r ⟨x, c, t, u, b, rfl, k, ty, e, q⟩
  cases ty with
  | own ty => exact call_isV X.K rfl pins s σ H [x, c] us Q I r ⟨x, c, t, u, b, rfl, k, ty, e, q⟩
  | @blt a ha =>
    obtain ⟨u1, u2, rfl, r1, r2⟩ := vals2 r
    have e2 := k.eq r2
    subst e2
    cases (show u1 = Value.ref a from r1)
    obtain ⟨⟨oe, vs, h1, z, _⟩, _⟩ := I.hok a _ ha
    refine PySem.W.kia_one (PySem.W.kitx_bexc PySem.F.excAttr_ValueError (by kernel_rfl) (by kernel_rfl) (by decide)) I.kIn ⟨oe, h1, z.1⟩ e (fun z => nomatch z) fun tk => ⟨.bl b, H, I.tok tk, rfl, q⟩
end
end LT
namespace LT
open PySem PySem.Spec PyProof.Rows L2
/-! ## displays of many items, put together piece by piece -/
section
variable {A : Type} {R : Hp → A → V → Prop} {H H0 H1 H' : Hp} {σ : L2.St} {t te : TE} {ts : TA} {p : A} {ps qs : List A} {k : Nat} {Dn : Ends} {xs : List V} {a : Addr}
def MonoR (R : Hp → A → V → Prop) : Prop := ∀ H H' p x, Fx [] H H' → R H p x → R H' p x
/-- the reading t leads to an item that stands for p, and changes nothing that stood -/
def El (R : Hp → A → V → Prop) (H0 : Hp) (σ : L2.St) (t : TE) (p : A) : Prop := ∀ H Q, Fx [] H0 H → (∀ x H', Fx [] H H' → R H' p x → Q x H') → t σ H Q
def Els (R : Hp → A → V → Prop) (H0 : Hp) (σ : L2.St) (ts : TA) (ps : List A) : Prop := ∀ H Q, Fx [] H0 H → (∀ xs H', Fx [] H H' → Paired (R H') ps xs → Q xs H') → ts σ H Q
theorem els_nil : Els R H0 σ tNil ([] : List A) := fun H Q _ q => q [] H (Fx.refl _ _) .nil
theorem els_cons (m : MonoR R) (e : El R H0 σ t p) (es : Els R H0 σ ts ps) : Els R H0 σ (tCons t ts) (p :: ps) := fun H Q f q =>
  e H _ f fun x H1 f1 r => es H1 _ (f.trans f1) fun xs H2 f2 rs => q (x :: xs) H2 (f1.trans f2) (.cons (m _ _ _ _ f2 r) rs)
theorem paired_len (h : Paired (R H) ps xs) : xs.length = ps.length := (Paired.length h).symm
theorem paired_app {ys : List V} : ∀ {ps : List A} {zs : List V}, Paired (R H) ps zs → Paired (R H) qs ys → Paired (R H) (ps ++ qs) (zs ++ ys)
  | _, _, .nil, b => b
  | _, _, .cons x r, b => .cons x (paired_app r b)
theorem paired_fx (m : MonoR R) (f : Fx [] H H') (h : Paired (R H) ps xs) : Paired (R H') ps xs := h.mono fun a b r => m _ _ _ _ f r
/-- slot k holds a list of such items -/
def AtL (R : Hp → A → V → Prop) (H : Hp) (σ : L2.St) (k : Nat) (ps : List A) : Prop := ∃ a xs, σ[k]? = some (some (.ref a)) ∧ H a = some (.lst xs) ∧ Paired (R H) ps xs
def IsL (R : Hp → A → V → Prop) (H : Hp) (ps : List A) (v : V) : Prop := ∃ a xs, v = .ref a ∧ H a = some (.lst xs) ∧ Paired (R H) ps xs
theorem el_lst (m : MonoR R) (es : Els R H0 σ ts ps) (sz : ps.length ≤ 1000) : El (IsL R) H0 σ (tLst ts) ps := fun H Q f q =>
  es H _ f fun xs H1 f1 pr => ⟨by rw [paired_len pr, sizeLine_eq]; omega, fun a ha => q _ _ (f1.trans (Fx.new _ ha)) ⟨a, xs, rfl, upd_same, paired_fx m (Fx.new _ ha) pr⟩⟩
theorem st_lst (m : MonoR R) (es : Els R H σ ts ps) (sz : ps.length ≤ 1000) (h : ∀ a xs H', Fx [] H H' → H' a = some (.lst xs) → Paired (R H') ps xs → Dn.nx (σ.set k (some (.ref a))) H') : tAsg (tLst ts) (gName k) Dn σ H :=
  es H _ (Fx.refl _ _) fun xs H1 f1 pr => ⟨by rw [paired_len pr, sizeLine_eq]; omega, fun a ha => h a xs _ (f1.trans (Fx.new _ ha)) upd_same (paired_fx m (Fx.new _ ha) pr)⟩
theorem op_cat_el (m : MonoR R) {j : Nat} (hs : σ[j]? = some (some (.ref a))) (ha : H a = some (.lst xs)) (hp : Paired (R H) ps xs) (es : Els R H σ ts qs) (sz : ps.length + qs.length ≤ 1000) {Q : VK}
    (h : ∀ a xs H', Fx [] H H' → H' a = some (.lst xs) → Paired (R H') (ps ++ qs) xs → Q (.ref a) H') : tOp rCat (tVar j) (tLst ts) σ H Q :=
  ⟨_, hs, es H _ (Fx.refl _ _) fun ys H1 f1 pr => ⟨by rw [paired_len pr, sizeLine_eq]; omega, fun b hb => by
    have f2 := f1.trans (Fx.new (o := .lst ys) [] hb)
    refine ⟨a, b, xs, ys, rfl, rfl, f2.all ha, upd_same, by rw [paired_len pr, paired_len hp, sizeLine_eq]; omega, fun c hc => ?_⟩
    have f3 := Fx.new (o := HO.lst (xs ++ ys)) [] hc
    exact h c _ _ (f2.trans f3) upd_same (paired_app (paired_fx m (f2.trans f3) hp) (paired_fx m ((Fx.new (o := .lst ys) [] hb).trans f3) pr))⟩⟩
theorem st_cat (m : MonoR R) (hs : σ[k]? = some (some (.ref a))) (ha : H a = some (.lst xs)) (hp : Paired (R H) ps xs) (es : Els R H σ ts qs) (sz : ps.length + qs.length ≤ 1000)
    (h : ∀ a xs H', Fx [] H H' → H' a = some (.lst xs) → Paired (R H') (ps ++ qs) xs → Dn.nx (σ.set k (some (.ref a))) H') : tAsg (tOp rCat (tVar k) (tLst ts)) (gName k) Dn σ H :=
  op_cat_el m hs ha hp es sz fun a xs H' f e pr => h a xs H' f e pr
theorem rt_cat (m : MonoR R) (hs : σ[k]? = some (some (.ref a))) (ha : H a = some (.lst xs)) (hp : Paired (R H) ps xs) (es : Els R H σ ts qs) (sz : ps.length + qs.length ≤ 1000)
    (h : ∀ a xs H', Fx [] H H' → H' a = some (.lst xs) → Paired (R H') (ps ++ qs) xs → Dn.rt (.ref a) H') : tRet (tOp rCat (tVar k) (tLst ts)) Dn σ H :=
  op_cat_el m hs ha hp es sz fun a xs H' f e pr => h a xs H' f e pr
end
/-! ### kinds of items -/
/-- the item itself -/
def RV (_ : Hp) (p x : V) : Prop := x = p
theorem mono_RV : MonoR RV := fun _ _ _ _ _ h => h
theorem rv_eq {H : Hp} : ∀ {ps xs : List V}, Paired (RV H) ps xs → xs = ps
  | _, _, .nil => rfl
  | _, _, .cons a r => by
    cases (show _ = _ from a)
    rw [rv_eq r]
/-- an error -/
def RE (H : Hp) (p : Addr × List (Str × V)) (x : V) : Prop := ∃ a, x = .ref a ∧ IsEx H p.1 a p.2
theorem mono_RE : MonoR RE := fun _ _ _ _ f ⟨a, e, h⟩ => ⟨a, e, f.isEx h⟩
section
variable {H H0 : Hp} {σ : L2.St} {C a dx : Addr} {f : Str} {v : V} {fs : List (Str × V)} {K : PySem.W.Frag}
theorem mkH_fx (ha : H a = none) (hd : H dx = none) (ne : dx ≠ a) : Fx [] H (mkH C a dx f v H) := (Fx.new [] hd).trans (Fx.new [] (by rw [upd_ne (Ne.symm ne)]; exact ha))
theorem mkQ_of {Q : VK} (h : ∀ x H', Fx [] H H' → RE H' (C, [(f, v)]) x → Q x H') : mkQ C f v H Q := fun a dx ha hd ne =>
  h _ _ (mkH_fx ha hd ne) ⟨a, rfl, .made upd_same (by show mkH C a dx f v H dx = _; unfold mkH; rw [upd_ne ne, upd_same])⟩
theorem el_mkP {i : Nat} (hs : σ[i]? = some (some v)) : El RE H0 σ (tMkP C f (tVar i)) (C, [(f, v)]) := fun H Q _ q => ⟨v, hs, mkQ_of q⟩
theorem el_mkK {i : Nat} (hs : σ[i]? = some (some v)) : El RE H0 σ (tMkK C f (tCons (tVar i) tNil)) (C, [(f, v)]) := fun H Q _ q => ⟨v, hs, v, rfl, mkQ_of q⟩
theorem el_mk0 : El RE H0 σ (tMk0 C f) (C, [(f, .non)]) := fun H Q _ q => mkQ_of q
theorem el_mkE : El RE H0 σ (tMkE (.ref C)) (C, []) := fun H Q _ q a ha => q _ _ (Fx.new [] ha) ⟨a, rfl, .kept0 upd_same⟩
end
section
variable {P : Program} {w : World} {K : PySem.W.Frag} {mg : Str → Option Value} {base : Heap} {x f qual : Str} {params : Arguments} {body : List Stmt} {scope : Scope} {C fI : Addr} {fd : FuncData}
/-- an own error class by the text of its __init__ -/
theorem errV_of (F : FunD K "__init__" qual params body scope [.non] [] fI fd) (S : FnScope ["self", f] ["self", f] scope) (T : OexC K C) (nf : PySem.W.findIn K (.ref C) f = some none) (gl : mg x = some (.ref C)) (xf : XfC K C) (ex : ExcC K C)
    (iC : PySem.W.findIn K (.ref C) "__init__" = some (some (.ref fI))) (tI : PySem.W.typeIn K (.ref fI) = some (.type "function"))
    (hb : ∀ (cdv : Value) (A : Around) (outer : List Env) (s : Shared) (H : Hp) (E : XK), PSs (cxOf CX0 P w K mg base ["self", f] qual scope fI cdv A outer s H E).nox body (tOst K f (tVar 0) (tVar 1)))
    (bP : ∀ (T : Addr) (kV doc pm : Value) (an : Option Addr) (cdv ct e u : Value) (its : List Value), its.length = 1 →
      ∃ k, bindArgs (PySem.W.fnOf "__init__" qual params body scope (.ref T) kV doc pm an cdv ct) ⟨[e, u], []⟩ = seqItems? (.ref T) >>= k ∧ k (some its.toArray) = pure [(("self" : Str), e), (f, u)])
    (bK : ∀ (T : Addr) (kV doc pm : Value) (an : Option Addr) (cdv ct e u : Value) (its : List Value), its.length = 1 →
      ∃ k, bindArgs (PySem.W.fnOf "__init__" qual params body scope (.ref T) kV doc pm an cdv ct) ⟨[e], [(f, u)]⟩ = seqItems? (.ref T) >>= k ∧ k (some its.toArray) = pure [(("self" : Str), e), (f, u)])
    (bD : ∀ (T : Addr) (kV doc pm : Value) (an : Option Addr) (cdv ct : Value) (us its : List Value), us.length = 1 → its.length = 1 →
      ∃ k, bindArgs (PySem.W.fnOf "__init__" qual params body scope (.ref T) kV doc pm an cdv ct) ⟨us, []⟩ = seqItems? (.ref T) >>= k ∧ k (some its.toArray) = pure ((["self", f] : List Str).zip (us ++ its.drop 0))) : ErrV P w K mg base x f C := by
  refine ⟨T, gl, nf, xf, ex, fI, fd, iC, tI, F.ok S (fun vs H Q E h => ?_) (fun cdv A outer s H vs Q E hr h => ⟨_, (hb cdv A outer s H E).nox, ?_⟩), ?_, ?_, ?_⟩
  · obtain ⟨a, v, rfl, _⟩ := h
    rfl
  · obtain ⟨a, v, rfl, ha, q⟩ := h
    exact ⟨_, rfl, _, rfl, a, C, rfl, T, nf, .inl ⟨ha, q⟩⟩
  · obtain ⟨oc, od, dV, kV, doc, pm, an, cdv, ct, osl, rfl, lk, hcd, hD, hK⟩ := F.ex
    rcases hD with ⟨e, _⟩ | ⟨_, D, o, its, m, rfl, lT, oT, rT⟩
    · cases e
    · intro s e u X
      obtain ⟨k, e1, e2⟩ := bP D kV doc pm an cdv ct e u its rT.length.symm
      refine BindsTo.of_looks fun M => ?_
      rw [e1]
      exact looks_items X lT oT (.of_pure e2)
  · obtain ⟨ds, r, b⟩ := F.binds1 (ps := ["self", f]) 1 0 (fun z => nomatch z) rfl bD
    intro s e X
    have z : ds = [.none] := by
      cases r with
      | cons r1 r2 =>
        cases r2
        cases r1
        rfl
    subst z
    exact b s [e] X rfl
  · obtain ⟨oc, od, dV, kV, doc, pm, an, cdv, ct, osl, rfl, lk, hcd, hD, hK⟩ := F.ex
    rcases hD with ⟨e, _⟩ | ⟨_, D, o, its, m, rfl, lT, oT, rT⟩
    · cases e
    · intro s e u X
      obtain ⟨k, e1, e2⟩ := bK D kV doc pm an cdv ct e u its rT.length.symm
      refine BindsTo.of_looks fun M => ?_
      rw [e1]
      exact looks_items X lT oT (.of_pure e2)
end
end LT
namespace LT
open PySem PySem.Spec PyProof.Rows L2
section
variable {H H0 : Hp} {σ : L2.St} {C D a dx : Addr} {f : Str} {v : V} {fs : List (Str × V)} {K : PySem.W.Frag} {j : Nat} {b : Bool} {xs : List V} {ps : List (Addr × List (Str × V))}
theorem paired_nth {A B : Type} {F : A → B → Prop} : ∀ {ps : List A} {xs : List B} {i : Nat} {p : A}, Paired F ps xs → ps[i]? = some p → ∃ x, xs[i]? = some x ∧ F p x
  | _, _, 0, _, .cons h _, e => by
    cases e
    exact ⟨_, rfl, h⟩
  | _, _, i + 1, _, .cons _ r, e => paired_nth (i := i) r e
/-- errors[i].f -/
theorem el_fld (i : Nat) (n : Int) (hn : n = i) (hs : σ[j]? = some (some (.ref a))) (ha : H0 a = some (.lst xs)) (pr : Paired (RE H0) ps xs) (hp : ps[i]? = some (C, [(f, v)])) (xf : XfC K C) (nf : PySem.W.findIn K (.ref C) f = some none) :
    El RV H0 σ (tExf K f (tOp rIxl (tVar j) (tC (.int n)))) v := by
  intro H Q fx q
  obtain ⟨x, hx, b, rfl, ie⟩ := paired_nth pr hp
  subst hn
  exact ⟨_, hs, a, xs, _, .ref b, rfl, rfl, fx.all ha, atI_nat hx, C, b, [(f, v)], v, rfl, fx.isEx ie, by simp [List.lookup], xf, nf, q v H (Fx.refl _ _) rfl⟩
/-- isinstance(error, D) -/
theorem el_is (hs : σ[j]? = some (some (.ref a))) (ie : IsEx H0 C a fs) (ec : ExcC K C) (hk : PySem.W.kitOne K (.ref C) (.ref D) = some b) : El RV H0 σ (tCB (rIsF K) (tCons (tVar j) (tCons (tC (.ref D)) tNil))) (.bl b) :=
  fun H Q fx q => ⟨_, hs, .ref a, .ref D, .ref C, .ref D, b, rfl, .own D, .own (.exc (fx.isEx ie) ec), hk, q _ H (Fx.refl _ _) rfl⟩
end
end LT
namespace LT
open PySem PySem.Spec PyProof.Rows L2
/-- what is equal to itself -/
def RF (_ : Hp) (_ : Unit) (x : V) : Prop := flatB x = true ∨ ∃ a, x = .ref a
theorem mono_RF : MonoR RF := fun _ _ _ _ _ h => h
def IsV (H : Hp) (vs : List V) (x : V) : Prop := ∃ a, x = .ref a ∧ H a = some (.lst vs)
theorem mono_IsV : MonoR IsV := fun _ _ _ _ f ⟨a, e, h⟩ => ⟨a, e, f.all h⟩
theorem mono_IsL {A : Type} {R : Hp → A → V → Prop} (m : MonoR R) : MonoR (IsL R) := fun _ _ _ _ f ⟨a, xs, e, h, p⟩ => ⟨a, xs, e, f.all h, paired_fx m f p⟩
section
variable {H H0 : Hp} {σ : L2.St} {v : V} {ts : TA} {us : List Unit} {K : PySem.W.Frag} {j : Nat}
theorem el_cF (h : flatB v = true) : El RF H0 σ (tC v) () := fun H Q _ q => q v H (Fx.refl _ _) (.inl h)
theorem el_tupF (es : Els RF H0 σ ts us) (sz : us.length ≤ 1000) : El RF H0 σ (tTup ts) () := fun H Q f q =>
  es H _ f fun xs H1 f1 pr => ⟨by rw [paired_len pr, sizeLine_eq]; omega, fun a ha => q _ _ (f1.trans (Fx.new _ ha)) (.inr ⟨a, rfl⟩)⟩
theorem el_lstF (es : Els RF H0 σ ts us) (sz : us.length ≤ 1000) : El RF H0 σ (tLst ts) () := fun H Q f q =>
  es H _ f fun xs H1 f1 pr => ⟨by rw [paired_len pr, sizeLine_eq]; omega, fun a ha => q _ _ (f1.trans (Fx.new _ ha)) (.inr ⟨a, rfl⟩)⟩
theorem el_negF {i : Int} : El RF H0 σ (tUn (rU fun i => .int (-i)) (tC (.int i))) () := fun H Q _ q => ⟨i, rfl, q _ _ (Fx.refl _ _) (.inl rfl)⟩
theorem el_powF {i k : Int} (h : CPowB i k) : El RF H0 σ (tOp (rI CPowB fun i j => .int (i ^ j.toNat)) (tC (.int i)) (tC (.int k))) () := fun H Q _ q => ⟨i, k, rfl, rfl, h, q _ _ (Fx.refl _ _) (.inl rfl)⟩
/-- {s: i} -/
theorem el_disF {s : Str} {i : Int} : El RF H0 σ (tDisp [(tC (.str s), tC (.int i))]) () := fun H Q _ q p hp =>
  ⟨upd_same, [(.inr s, .int i)], rfl, (show 1 ≤ 15 by decide), by
    rw [upd_upd]
    exact q _ _ (Fx.new _ hp) (.inr ⟨p, rfl⟩)⟩
theorem el_rep (n : Nat) (hn : n ≤ 1000) (hs : σ[j]? = some (some v)) (k : Int) (hk : k = n) : El IsV H0 σ (tOp rRep (tLst (tCons (tVar j) tNil)) (tC (.int k))) (List.replicate n v) := by
  intro H Q f q
  subst hk
  refine ⟨v, hs, Nat.le_trans (show 1 ≤ 1000 by decide) (by rw [sizeLine_eq]; decide), fun p hp => ⟨p, n, [v], rfl, rfl, upd_same, by omega, by omega, ?_, fun a ha => ?_⟩⟩
  · rw [sizeLine_eq]
    show 1 * n ≤ _
    omega
  · refine q _ _ ((Fx.new (o := .lst [v]) [] hp).trans (Fx.new _ ha)) ⟨a, rfl, ?_⟩
    rw [upd_same]
    have e : ∀ n, (List.replicate n [v]).flatten = List.replicate n v := by
      intro n
      induction n with
      | zero => rfl
      | succ n ih =>
        rw [List.replicate_succ, List.flatten_cons, ih]
        rfl
    show some (HO.lst (List.replicate n [v]).flatten) = _
    rw [e]
/-- two lists of equal lists -/
theorem isV_eq {ls : List (List V)} : ∀ {xs ys : List V}, Paired (IsV H) ls xs → Paired (IsV H) ls ys → (∀ l ∈ ls, ∀ x ∈ l, flatB x = true ∨ ∃ a, x = .ref a) → Paired (EqT K H 2) xs ys := by
  induction ls with
  | nil =>
    intro xs ys a b _
    cases a
    cases b
    exact .nil
  | cons l ls ih =>
    intro xs ys a b h
    cases a with
    | cons a1 a2 =>
      cases b with
      | cons b1 b2 =>
        obtain ⟨p, rfl, hp⟩ := a1
        obtain ⟨q, rfl, hq⟩ := b1
        exact .cons (.inr (.inl ⟨p, q, l, l, rfl, rfl, SqL.of hp, SqL.of hq, paired_refl (h l List.mem_cons_self)⟩)) (ih a2 b2 fun m hm => h m (List.mem_cons_of_mem _ hm))
end
end LT
namespace LT
open PySem PySem.Spec PyProof.Rows L2
/-! ### what the top has written of an own error class, as one word -/
def clsB (K : PySem.W.Frag) (C : Addr) : Bool :=
  decide (PySem.W.findIn K (.ref C) "__setattr__" = some (some (.builtin "object.__setattr__"))) && (xfB K C && (decide (PySem.W.typeIn K (.ref C) = some (.type "type")) && (PySem.W.keepIn K (.ref C) &&
    (decide (PySem.W.findIn K (.ref C) "__class__" = some (some (.builtin "object.__class__"))) && (decide (PySem.W.specialIn K (.builtin "object.__class__") "__get__" = some (some (.builtin "getset_descriptor.__get__"))) &&
      (decide (PySem.W.takesIn K (.builtin "object.__class__") = some true) && decide (PySem.W.mroIn K C (.type "object") = some true)))))))
def iniB (K : PySem.W.Frag) (C fI : Addr) (f : Str) : Bool := clsB K C && (decide (PySem.W.findIn K (.ref C) f = some none) && decide (PySem.W.typeIn K (.ref fI) = some (.type "function")))
section
variable {K : PySem.W.Frag} {C fI : Addr} {f : Str}
theorem clsB_ok (h : clsB K C = true) : PySem.W.findIn K (.ref C) "__setattr__" = some (some (.builtin "object.__setattr__")) ∧ XfC K C ∧ PySem.W.typeIn K (.ref C) = some (.type "type") ∧ PySem.W.keepIn K (.ref C) = true ∧ ExcC K C := by
  obtain ⟨h1, h⟩ := Bool.and_eq_true_iff.mp h
  obtain ⟨h2, h⟩ := Bool.and_eq_true_iff.mp h
  obtain ⟨h3, h⟩ := Bool.and_eq_true_iff.mp h
  obtain ⟨h4, h⟩ := Bool.and_eq_true_iff.mp h
  obtain ⟨h5, h⟩ := Bool.and_eq_true_iff.mp h
  obtain ⟨h6, h⟩ := Bool.and_eq_true_iff.mp h
  obtain ⟨h7, h8⟩ := Bool.and_eq_true_iff.mp h
  have x := xfB_ok h2
  exact ⟨of_decide_eq_true h1, x, of_decide_eq_true h3, h4, x.ga, x.gg, x.exC, x.hdC, of_decide_eq_true h5, of_decide_eq_true h6, of_decide_eq_true h7, of_decide_eq_true h8⟩
theorem iniB_ok {nm q : Str} {N : Addr} {bs bm : List Value} {sn : List Str} {sub : List Value} {ab : Bool} {col : Option Bool} {dd : Option Addr} {k0 k1 k2 k3 k5 : Option Value} (hC : K.lookup C = some (excClassObj nm q C N bs bm true sn sub ab col dd k0 k1 k2 k3 k5 "ValueError.__new__"))
    (hbm : PySem.HandSPX.refsVE bm = true) (h : iniB K C fI f = true) : OexC K C ∧ XfC K C ∧ ExcC K C ∧ PySem.W.findIn K (.ref C) f = some none ∧ PySem.W.typeIn K (.ref fI) = some (.type "function") := by
  obtain ⟨h1, h⟩ := Bool.and_eq_true_iff.mp h
  obtain ⟨h2, h3⟩ := Bool.and_eq_true_iff.mp h
  obtain ⟨sa, x, t, k, e⟩ := clsB_ok h1
  exact ⟨⟨⟨nm, q, N, bs, bm, sn, sub, ab, col, dd, k0, k1, k2, k3, k5, hC, hbm⟩, sa, x.exC, t, k⟩, x, e, of_decide_eq_true h2, of_decide_eq_true h3⟩
def csOf (l : List Addr) (i : Nat) : Addr := l.getD i 0
def tabB (K : PySem.W.Frag) (l : List Addr) (n : Nat) : Bool := (List.range n).all fun i => (List.range n).all fun k => decide (PySem.W.kitOne K (.ref (csOf l i)) (.ref (csOf l k)) = some (decide (i = k)))
theorem tabB_ok {l : List Addr} {n : Nat} (h : tabB K l n = true) : ∀ i k, i < n → k < n → PySem.W.kitOne K (.ref (csOf l i)) (.ref (csOf l k)) = some (decide (i = k)) := fun i k hi hk =>
  of_decide_eq_true (List.all_eq_true.mp (List.all_eq_true.mp h i (List.mem_range.mpr hi)) k (List.mem_range.mpr hk))
def belowB (K : PySem.W.Frag) (l : List Addr) (n m : Nat) : Bool := (List.range n).all fun i => decide (PySem.W.kitOne K (.ref (csOf l i)) (.ref (csOf l m)) = some true) && decide (PySem.W.kitOne K (.ref (csOf l i)) (.type "ValueError") = some true)
theorem belowB_ok {l : List Addr} {n m : Nat} (h : belowB K l n m = true) (i : Nat) (hi : i < n) : PySem.W.kitOne K (.ref (csOf l i)) (.ref (csOf l m)) = some true ∧ PySem.W.kitOne K (.ref (csOf l i)) (.type "ValueError") = some true := by
  obtain ⟨a, b⟩ := Bool.and_eq_true_iff.mp (List.all_eq_true.mp h i (List.mem_range.mpr hi))
  exact ⟨of_decide_eq_true a, of_decide_eq_true b⟩
def excB (K : PySem.W.Frag) (l : List Addr) (n : Nat) : Bool := (List.range n).all fun i => clsB K (csOf l i)
theorem excB_ok {l : List Addr} {n : Nat} (h : excB K l n = true) (i : Nat) (hi : i < n) : ExcC K (csOf l i) := (clsB_ok (List.all_eq_true.mp h i (List.mem_range.mpr hi))).2.2.2.2
end
end LT
namespace K06
open PySem PySem.Spec PyProof.Rows L2 LT
def topS (i : Nat) : Stmt := PySem.Challenge.pw_lazytags_k06_errors_and_their_fields.main.body.getD i (.Pass ⟨0, 0, 0, 0⟩)
abbrev s_InvalidSize___init__ : Stmt := inClass (topS 2) 0
theorem sc_InvalidSize___init__ : FnScope ["self", "size"] ["self", "size"] (defScope s_InvalidSize___init__) := ⟨rfl, rfl, rfl, by decide +kernel, rfl, by decide +kernel, by decide +kernel⟩
abbrev s_InvalidMachine___init__ : Stmt := inClass (topS 3) 0
theorem sc_InvalidMachine___init__ : FnScope ["self", "thing"] ["self", "thing"] (defScope s_InvalidMachine___init__) := ⟨rfl, rfl, rfl, by decide +kernel, rfl, by decide +kernel, by decide +kernel⟩
abbrev s_InvalidRow___init__ : Stmt := inClass (topS 4) 0
theorem sc_InvalidRow___init__ : FnScope ["self", "thing"] ["self", "thing"] (defScope s_InvalidRow___init__) := ⟨rfl, rfl, rfl, by decide +kernel, rfl, by decide +kernel, by decide +kernel⟩
abbrev s_InvalidMap___init__ : Stmt := inClass (topS 5) 0
theorem sc_InvalidMap___init__ : FnScope ["self", "thing"] ["self", "thing"] (defScope s_InvalidMap___init__) := ⟨rfl, rfl, rfl, by decide +kernel, rfl, by decide +kernel, by decide +kernel⟩
abbrev s_NotASetting___init__ : Stmt := inClass (topS 6) 0
theorem sc_NotASetting___init__ : FnScope ["self", "thing"] ["self", "thing"] (defScope s_NotASetting___init__) := ⟨rfl, rfl, rfl, by decide +kernel, rfl, by decide +kernel, by decide +kernel⟩
abbrev s_InvalidExpression___init__ : Stmt := inClass (topS 7) 0
theorem sc_InvalidExpression___init__ : FnScope ["self", "thing"] ["self", "thing"] (defScope s_InvalidExpression___init__) := ⟨rfl, rfl, rfl, by decide +kernel, rfl, by decide +kernel, by decide +kernel⟩
abbrev s_InvalidRecipe___init__ : Stmt := inClass (topS 8) 0
theorem sc_InvalidRecipe___init__ : FnScope ["self", "thing"] ["self", "thing"] (defScope s_InvalidRecipe___init__) := ⟨rfl, rfl, rfl, by decide +kernel, rfl, by decide +kernel, by decide +kernel⟩
abbrev s_InvalidForm___init__ : Stmt := inClass (topS 9) 0
theorem sc_InvalidForm___init__ : FnScope ["self", "thing"] ["self", "thing"] (defScope s_InvalidForm___init__) := ⟨rfl, rfl, rfl, by decide +kernel, rfl, by decide +kernel, by decide +kernel⟩
abbrev s_InvalidRange___init__ : Stmt := inClass (topS 10) 0
theorem sc_InvalidRange___init__ : FnScope ["self", "thing"] ["self", "thing"] (defScope s_InvalidRange___init__) := ⟨rfl, rfl, rfl, by decide +kernel, rfl, by decide +kernel, by decide +kernel⟩
abbrev s_InvalidMaps___init__ : Stmt := inClass (topS 11) 0
theorem sc_InvalidMaps___init__ : FnScope ["self", "name"] ["self", "name"] (defScope s_InvalidMaps___init__) := ⟨rfl, rfl, rfl, by decide +kernel, rfl, by decide +kernel, by decide +kernel⟩
abbrev s_InvalidAsks___init__ : Stmt := inClass (topS 12) 0
theorem sc_InvalidAsks___init__ : FnScope ["self", "name"] ["self", "name"] (defScope s_InvalidAsks___init__) := ⟨rfl, rfl, rfl, by decide +kernel, rfl, by decide +kernel, by decide +kernel⟩
abbrev s_NoSuchDeed___init__ : Stmt := inClass (topS 13) 0
theorem sc_NoSuchDeed___init__ : FnScope ["self", "name"] ["self", "name"] (defScope s_NoSuchDeed___init__) := ⟨rfl, rfl, rfl, by decide +kernel, rfl, by decide +kernel, by decide +kernel⟩
abbrev s_NoSuchAsk___init__ : Stmt := inClass (topS 14) 0
theorem sc_NoSuchAsk___init__ : FnScope ["self", "name"] ["self", "name"] (defScope s_NoSuchAsk___init__) := ⟨rfl, rfl, rfl, by decide +kernel, rfl, by decide +kernel, by decide +kernel⟩
abbrev s_InvalidTurning___init__ : Stmt := inClass (topS 15) 0
theorem sc_InvalidTurning___init__ : FnScope ["self", "turning"] ["self", "turning"] (defScope s_InvalidTurning___init__) := ⟨rfl, rfl, rfl, by decide +kernel, rfl, by decide +kernel, by decide +kernel⟩
abbrev s_InvalidDeeds___init__ : Stmt := inClass (topS 16) 0
theorem sc_InvalidDeeds___init__ : FnScope ["self", "place"] ["self", "place"] (defScope s_InvalidDeeds___init__) := ⟨rfl, rfl, rfl, by decide +kernel, rfl, by decide +kernel, by decide +kernel⟩
abbrev s_InvalidPlan___init__ : Stmt := inClass (topS 17) 0
theorem sc_InvalidPlan___init__ : FnScope ["self", "place"] ["self", "place"] (defScope s_InvalidPlan___init__) := ⟨rfl, rfl, rfl, by decide +kernel, rfl, by decide +kernel, by decide +kernel⟩
abbrev s_NotMade___init__ : Stmt := inClass (topS 18) 0
theorem sc_NotMade___init__ : FnScope ["self", "place"] ["self", "place"] (defScope s_NotMade___init__) := ⟨rfl, rfl, rfl, by decide +kernel, rfl, by decide +kernel, by decide +kernel⟩
abbrev s_InvalidLength___init__ : Stmt := inClass (topS 19) 0
theorem sc_InvalidLength___init__ : FnScope ["self", "length"] ["self", "length"] (defScope s_InvalidLength___init__) := ⟨rfl, rfl, rfl, by decide +kernel, rfl, by decide +kernel, by decide +kernel⟩
abbrev s_InvalidTable___init__ : Stmt := inClass (topS 20) 0
theorem sc_InvalidTable___init__ : FnScope ["self", "problem"] ["self", "problem"] (defScope s_InvalidTable___init__) := ⟨rfl, rfl, rfl, by decide +kernel, rfl, by decide +kernel, by decide +kernel⟩
abbrev s_InvalidTags___init__ : Stmt := inClass (topS 21) 0
theorem sc_InvalidTags___init__ : FnScope ["self", "problem"] ["self", "problem"] (defScope s_InvalidTags___init__) := ⟨rfl, rfl, rfl, by decide +kernel, rfl, by decide +kernel, by decide +kernel⟩
abbrev s_Unreadable___init__ : Stmt := inClass (topS 22) 0
theorem sc_Unreadable___init__ : FnScope ["self", "line"] ["self", "line"] (defScope s_Unreadable___init__) := ⟨rfl, rfl, rfl, by decide +kernel, rfl, by decide +kernel, by decide +kernel⟩
abbrev s__law_mixed : Stmt := topS 26
theorem sc__law_mixed : FnScope ["_law_cell", "_law_k", "_law_number"] ["_law_cell", "_law_k"] (defScope s__law_mixed) := ⟨rfl, rfl, rfl, by decide +kernel, rfl, by decide +kernel, by decide +kernel⟩
abbrev s__law_purse : Stmt := topS 27
theorem sc__law_purse : FnScope ["_law_script", "_law_at", "_law_cell"] ["_law_script", "_law_at"] (defScope s__law_purse) := ⟨rfl, rfl, rfl, by decide +kernel, rfl, by decide +kernel, by decide +kernel⟩
abbrev s__law_draw : Stmt := topS 28
theorem sc__law_draw : FnScope ["_law_purse_here", "_law_out_of", "_law_drawn"] ["_law_purse_here", "_law_out_of"] (defScope s__law_draw) := ⟨rfl, rfl, rfl, by decide +kernel, rfl, by decide +kernel, by decide +kernel⟩
abbrev s__law_by_place : Stmt := topS 29
theorem sc__law_by_place : FnScope ["_law_item", "_law_found"] ["_law_item"] (defScope s__law_by_place) := ⟨rfl, rfl, rfl, by decide +kernel, rfl, by decide +kernel, by decide +kernel⟩
abbrev s__law_by_name : Stmt := topS 30
theorem sc__law_by_name : FnScope ["_law_item", "_law_found"] ["_law_item"] (defScope s__law_by_name) := ⟨rfl, rfl, rfl, by decide +kernel, rfl, by decide +kernel, by decide +kernel⟩
abbrev s__law_bare : Stmt := topS 31
theorem sc__law_bare : FnScope ["_law_found"] [] (defScope s__law_bare) := ⟨rfl, rfl, rfl, by decide +kernel, rfl, by decide +kernel, by decide +kernel⟩
abbrev s__law_fields : Stmt := topS 32
theorem sc__law_fields : FnScope ["_law_errors", "_law_found"] ["_law_errors"] (defScope s__law_fields) := ⟨rfl, rfl, rfl, by decide +kernel, rfl, by decide +kernel, by decide +kernel⟩
abbrev s__law_classes : Stmt := topS 33
theorem sc__law_classes : FnScope ["_law_error", "_law_found"] ["_law_error"] (defScope s__law_classes) := ⟨rfl, rfl, rfl, by decide +kernel, rfl, by decide +kernel, by decide +kernel⟩
abbrev s_law : Stmt := topS 34
theorem sc_law : FnScope ["_law_script", "_law_some", "_law_k", "_law_error", "_law_at", "_law_purse_here", "_law_things", "_law_item", "_law_other", "_law_held"] ["_law_script"] (defScope s_law) := ⟨rfl, rfl, rfl, by decide +kernel, rfl, by decide +kernel, by decide +kernel⟩
structure Z (mg : Str → Option Value) : Prop where
  int : mg "int" = none
  isinstance : mg "isinstance" = none
  len : mg "len" = none
  max : mg "max" = none
  min : mg "min" = none
  range : mg "range" = none
  enumerate : mg "enumerate" = none
  ValueError : mg "ValueError" = none
abbrev bmB : List Value := [.type "ValueError", .type "Exception", .type "BaseException", .type "object"]
/-- the errors of the package, by their places in cs -/
structure Er (P : Program) (w : World) (K : PySem.W.Frag) (mg : Str → Option Value) (base : Heap) (cs : Nat → Addr) : Prop where
  InvalidSize : ErrV P w K mg base "InvalidSize" "size" (cs 0)
  InvalidMachine : ErrV P w K mg base "InvalidMachine" "thing" (cs 1)
  InvalidRow : ErrV P w K mg base "InvalidRow" "thing" (cs 2)
  InvalidMap : ErrV P w K mg base "InvalidMap" "thing" (cs 3)
  NotASetting : ErrV P w K mg base "NotASetting" "thing" (cs 4)
  InvalidExpression : ErrV P w K mg base "InvalidExpression" "thing" (cs 5)
  InvalidForm : ErrV P w K mg base "InvalidForm" "thing" (cs 6)
  InvalidRange : ErrV P w K mg base "InvalidRange" "thing" (cs 7)
  InvalidRecipe : ErrV P w K mg base "InvalidRecipe" "thing" (cs 8)
  InvalidMaps : ErrV P w K mg base "InvalidMaps" "name" (cs 9)
  InvalidAsks : ErrV P w K mg base "InvalidAsks" "name" (cs 10)
  NoSuchDeed : ErrV P w K mg base "NoSuchDeed" "name" (cs 11)
  NoSuchAsk : ErrV P w K mg base "NoSuchAsk" "name" (cs 12)
  InvalidTurning : ErrV P w K mg base "InvalidTurning" "turning" (cs 13)
  InvalidDeeds : ErrV P w K mg base "InvalidDeeds" "place" (cs 14)
  InvalidPlan : ErrV P w K mg base "InvalidPlan" "place" (cs 15)
  NotMade : ErrV P w K mg base "NotMade" "place" (cs 16)
  InvalidLength : ErrV P w K mg base "InvalidLength" "length" (cs 17)
  InvalidTable : ErrV P w K mg base "InvalidTable" "problem" (cs 18)
  InvalidTags : ErrV P w K mg base "InvalidTags" "problem" (cs 19)
  Unreadable : ErrV P w K mg base "Unreadable" "line" (cs 20)
  g_TooMany : mg "TooMany" = some (.ref (cs 21))
  q_TooMany : PySem.W.excIn K (cs 21) bmB "ValueError.__new__" = true
  k_TooMany : PySem.W.keepIn K (.ref (cs 21)) = true
  x_TooMany : ExcC K (cs 21)
  g_NothingToUndo : mg "NothingToUndo" = some (.ref (cs 22))
  q_NothingToUndo : PySem.W.excIn K (cs 22) bmB "ValueError.__new__" = true
  k_NothingToUndo : PySem.W.keepIn K (.ref (cs 22)) = true
  x_NothingToUndo : ExcC K (cs 22)
  g_LazyError : mg "LazyError" = some (.ref (cs 23))
  q_LazyError : PySem.W.excIn K (cs 23) bmB "ValueError.__new__" = true
  k_LazyError : PySem.W.keepIn K (.ref (cs 23)) = true
  x_LazyError : ExcC K (cs 23)
  tab : ∀ i k, i < 23 → k < 23 → PySem.W.kitOne K (.ref (cs i)) (.ref (cs k)) = some (decide (i = k))
  below : ∀ i, i < 24 → PySem.W.kitOne K (.ref (cs i)) (.ref (cs 23)) = some true ∧ PySem.W.kitOne K (.ref (cs i)) (.type "ValueError") = some true
  notB : PySem.W.kitOne K (.type "ValueError") (.ref (cs 23)) = some false
  exc : ∀ i, i < 24 → ExcC K (cs i)
theorem ini_InvalidSize {P : Program} {w : World} {K : PySem.W.Frag} {mg : Str → Option Value} {base : Heap} {C fI : Addr} {fd : FuncData} (F : FunD K "__init__" "InvalidSize.__init__" (defArgs s_InvalidSize___init__) (defBody s_InvalidSize___init__) (defScope s_InvalidSize___init__) [.non] [] fI fd) (T : OexC K C) (nf : PySem.W.findIn K (.ref C) "size" = some none)
    (gl : mg "InvalidSize" = some (.ref C)) (xf : XfC K C) (ex : ExcC K C) (iC : PySem.W.findIn K (.ref C) "__init__" = some (some (.ref fI))) (tI : PySem.W.typeIn K (.ref fI) = some (.type "function")) : ErrV P w K mg base "InvalidSize" "size" C :=
  errV_of F sc_InvalidSize___init__ T nf gl xf ex iC tI (fun _ _ _ _ _ _ => pss_one (ps_ost (pv 0) (pv 1))) (fun _ _ _ _ _ _ _ _ _ its h1 => match its, h1 with | [_], _ => ⟨_, rfl, rfl⟩) (fun _ _ _ _ _ _ _ _ _ its h1 => match its, h1 with | [_], _ => ⟨_, rfl, rfl⟩) (fun _ _ _ _ _ _ _ us its h1 h2 => match us, its, h1, h2 with | [_], [_], _, _ => ⟨_, rfl, rfl⟩)
theorem ini_InvalidMachine {P : Program} {w : World} {K : PySem.W.Frag} {mg : Str → Option Value} {base : Heap} {C fI : Addr} {fd : FuncData} (F : FunD K "__init__" "InvalidMachine.__init__" (defArgs s_InvalidMachine___init__) (defBody s_InvalidMachine___init__) (defScope s_InvalidMachine___init__) [.non] [] fI fd) (T : OexC K C) (nf : PySem.W.findIn K (.ref C) "thing" = some none)
    (gl : mg "InvalidMachine" = some (.ref C)) (xf : XfC K C) (ex : ExcC K C) (iC : PySem.W.findIn K (.ref C) "__init__" = some (some (.ref fI))) (tI : PySem.W.typeIn K (.ref fI) = some (.type "function")) : ErrV P w K mg base "InvalidMachine" "thing" C :=
  errV_of F sc_InvalidMachine___init__ T nf gl xf ex iC tI (fun _ _ _ _ _ _ => pss_one (ps_ost (pv 0) (pv 1))) (fun _ _ _ _ _ _ _ _ _ its h1 => match its, h1 with | [_], _ => ⟨_, rfl, rfl⟩) (fun _ _ _ _ _ _ _ _ _ its h1 => match its, h1 with | [_], _ => ⟨_, rfl, rfl⟩) (fun _ _ _ _ _ _ _ us its h1 h2 => match us, its, h1, h2 with | [_], [_], _, _ => ⟨_, rfl, rfl⟩)
theorem ini_InvalidRow {P : Program} {w : World} {K : PySem.W.Frag} {mg : Str → Option Value} {base : Heap} {C fI : Addr} {fd : FuncData} (F : FunD K "__init__" "InvalidRow.__init__" (defArgs s_InvalidRow___init__) (defBody s_InvalidRow___init__) (defScope s_InvalidRow___init__) [.non] [] fI fd) (T : OexC K C) (nf : PySem.W.findIn K (.ref C) "thing" = some none)
    (gl : mg "InvalidRow" = some (.ref C)) (xf : XfC K C) (ex : ExcC K C) (iC : PySem.W.findIn K (.ref C) "__init__" = some (some (.ref fI))) (tI : PySem.W.typeIn K (.ref fI) = some (.type "function")) : ErrV P w K mg base "InvalidRow" "thing" C :=
  errV_of F sc_InvalidRow___init__ T nf gl xf ex iC tI (fun _ _ _ _ _ _ => pss_one (ps_ost (pv 0) (pv 1))) (fun _ _ _ _ _ _ _ _ _ its h1 => match its, h1 with | [_], _ => ⟨_, rfl, rfl⟩) (fun _ _ _ _ _ _ _ _ _ its h1 => match its, h1 with | [_], _ => ⟨_, rfl, rfl⟩) (fun _ _ _ _ _ _ _ us its h1 h2 => match us, its, h1, h2 with | [_], [_], _, _ => ⟨_, rfl, rfl⟩)
theorem ini_InvalidMap {P : Program} {w : World} {K : PySem.W.Frag} {mg : Str → Option Value} {base : Heap} {C fI : Addr} {fd : FuncData} (F : FunD K "__init__" "InvalidMap.__init__" (defArgs s_InvalidMap___init__) (defBody s_InvalidMap___init__) (defScope s_InvalidMap___init__) [.non] [] fI fd) (T : OexC K C) (nf : PySem.W.findIn K (.ref C) "thing" = some none)
    (gl : mg "InvalidMap" = some (.ref C)) (xf : XfC K C) (ex : ExcC K C) (iC : PySem.W.findIn K (.ref C) "__init__" = some (some (.ref fI))) (tI : PySem.W.typeIn K (.ref fI) = some (.type "function")) : ErrV P w K mg base "InvalidMap" "thing" C :=
  errV_of F sc_InvalidMap___init__ T nf gl xf ex iC tI (fun _ _ _ _ _ _ => pss_one (ps_ost (pv 0) (pv 1))) (fun _ _ _ _ _ _ _ _ _ its h1 => match its, h1 with | [_], _ => ⟨_, rfl, rfl⟩) (fun _ _ _ _ _ _ _ _ _ its h1 => match its, h1 with | [_], _ => ⟨_, rfl, rfl⟩) (fun _ _ _ _ _ _ _ us its h1 h2 => match us, its, h1, h2 with | [_], [_], _, _ => ⟨_, rfl, rfl⟩)
theorem ini_NotASetting {P : Program} {w : World} {K : PySem.W.Frag} {mg : Str → Option Value} {base : Heap} {C fI : Addr} {fd : FuncData} (F : FunD K "__init__" "NotASetting.__init__" (defArgs s_NotASetting___init__) (defBody s_NotASetting___init__) (defScope s_NotASetting___init__) [.non] [] fI fd) (T : OexC K C) (nf : PySem.W.findIn K (.ref C) "thing" = some none)
    (gl : mg "NotASetting" = some (.ref C)) (xf : XfC K C) (ex : ExcC K C) (iC : PySem.W.findIn K (.ref C) "__init__" = some (some (.ref fI))) (tI : PySem.W.typeIn K (.ref fI) = some (.type "function")) : ErrV P w K mg base "NotASetting" "thing" C :=
  errV_of F sc_NotASetting___init__ T nf gl xf ex iC tI (fun _ _ _ _ _ _ => pss_one (ps_ost (pv 0) (pv 1))) (fun _ _ _ _ _ _ _ _ _ its h1 => match its, h1 with | [_], _ => ⟨_, rfl, rfl⟩) (fun _ _ _ _ _ _ _ _ _ its h1 => match its, h1 with | [_], _ => ⟨_, rfl, rfl⟩) (fun _ _ _ _ _ _ _ us its h1 h2 => match us, its, h1, h2 with | [_], [_], _, _ => ⟨_, rfl, rfl⟩)
theorem ini_InvalidExpression {P : Program} {w : World} {K : PySem.W.Frag} {mg : Str → Option Value} {base : Heap} {C fI : Addr} {fd : FuncData} (F : FunD K "__init__" "InvalidExpression.__init__" (defArgs s_InvalidExpression___init__) (defBody s_InvalidExpression___init__) (defScope s_InvalidExpression___init__) [.non] [] fI fd) (T : OexC K C) (nf : PySem.W.findIn K (.ref C) "thing" = some none)
    (gl : mg "InvalidExpression" = some (.ref C)) (xf : XfC K C) (ex : ExcC K C) (iC : PySem.W.findIn K (.ref C) "__init__" = some (some (.ref fI))) (tI : PySem.W.typeIn K (.ref fI) = some (.type "function")) : ErrV P w K mg base "InvalidExpression" "thing" C :=
  errV_of F sc_InvalidExpression___init__ T nf gl xf ex iC tI (fun _ _ _ _ _ _ => pss_one (ps_ost (pv 0) (pv 1))) (fun _ _ _ _ _ _ _ _ _ its h1 => match its, h1 with | [_], _ => ⟨_, rfl, rfl⟩) (fun _ _ _ _ _ _ _ _ _ its h1 => match its, h1 with | [_], _ => ⟨_, rfl, rfl⟩) (fun _ _ _ _ _ _ _ us its h1 h2 => match us, its, h1, h2 with | [_], [_], _, _ => ⟨_, rfl, rfl⟩)
theorem ini_InvalidForm {P : Program} {w : World} {K : PySem.W.Frag} {mg : Str → Option Value} {base : Heap} {C fI : Addr} {fd : FuncData} (F : FunD K "__init__" "InvalidForm.__init__" (defArgs s_InvalidForm___init__) (defBody s_InvalidForm___init__) (defScope s_InvalidForm___init__) [.non] [] fI fd) (T : OexC K C) (nf : PySem.W.findIn K (.ref C) "thing" = some none)
    (gl : mg "InvalidForm" = some (.ref C)) (xf : XfC K C) (ex : ExcC K C) (iC : PySem.W.findIn K (.ref C) "__init__" = some (some (.ref fI))) (tI : PySem.W.typeIn K (.ref fI) = some (.type "function")) : ErrV P w K mg base "InvalidForm" "thing" C :=
  errV_of F sc_InvalidForm___init__ T nf gl xf ex iC tI (fun _ _ _ _ _ _ => pss_one (ps_ost (pv 0) (pv 1))) (fun _ _ _ _ _ _ _ _ _ its h1 => match its, h1 with | [_], _ => ⟨_, rfl, rfl⟩) (fun _ _ _ _ _ _ _ _ _ its h1 => match its, h1 with | [_], _ => ⟨_, rfl, rfl⟩) (fun _ _ _ _ _ _ _ us its h1 h2 => match us, its, h1, h2 with | [_], [_], _, _ => ⟨_, rfl, rfl⟩)
theorem ini_InvalidRange {P : Program} {w : World} {K : PySem.W.Frag} {mg : Str → Option Value} {base : Heap} {C fI : Addr} {fd : FuncData} (F : FunD K "__init__" "InvalidRange.__init__" (defArgs s_InvalidRange___init__) (defBody s_InvalidRange___init__) (defScope s_InvalidRange___init__) [.non] [] fI fd) (T : OexC K C) (nf : PySem.W.findIn K (.ref C) "thing" = some none)
    (gl : mg "InvalidRange" = some (.ref C)) (xf : XfC K C) (ex : ExcC K C) (iC : PySem.W.findIn K (.ref C) "__init__" = some (some (.ref fI))) (tI : PySem.W.typeIn K (.ref fI) = some (.type "function")) : ErrV P w K mg base "InvalidRange" "thing" C :=
  errV_of F sc_InvalidRange___init__ T nf gl xf ex iC tI (fun _ _ _ _ _ _ => pss_one (ps_ost (pv 0) (pv 1))) (fun _ _ _ _ _ _ _ _ _ its h1 => match its, h1 with | [_], _ => ⟨_, rfl, rfl⟩) (fun _ _ _ _ _ _ _ _ _ its h1 => match its, h1 with | [_], _ => ⟨_, rfl, rfl⟩) (fun _ _ _ _ _ _ _ us its h1 h2 => match us, its, h1, h2 with | [_], [_], _, _ => ⟨_, rfl, rfl⟩)
theorem ini_InvalidRecipe {P : Program} {w : World} {K : PySem.W.Frag} {mg : Str → Option Value} {base : Heap} {C fI : Addr} {fd : FuncData} (F : FunD K "__init__" "InvalidRecipe.__init__" (defArgs s_InvalidRecipe___init__) (defBody s_InvalidRecipe___init__) (defScope s_InvalidRecipe___init__) [.non] [] fI fd) (T : OexC K C) (nf : PySem.W.findIn K (.ref C) "thing" = some none)
    (gl : mg "InvalidRecipe" = some (.ref C)) (xf : XfC K C) (ex : ExcC K C) (iC : PySem.W.findIn K (.ref C) "__init__" = some (some (.ref fI))) (tI : PySem.W.typeIn K (.ref fI) = some (.type "function")) : ErrV P w K mg base "InvalidRecipe" "thing" C :=
  errV_of F sc_InvalidRecipe___init__ T nf gl xf ex iC tI (fun _ _ _ _ _ _ => pss_one (ps_ost (pv 0) (pv 1))) (fun _ _ _ _ _ _ _ _ _ its h1 => match its, h1 with | [_], _ => ⟨_, rfl, rfl⟩) (fun _ _ _ _ _ _ _ _ _ its h1 => match its, h1 with | [_], _ => ⟨_, rfl, rfl⟩) (fun _ _ _ _ _ _ _ us its h1 h2 => match us, its, h1, h2 with | [_], [_], _, _ => ⟨_, rfl, rfl⟩)
theorem ini_InvalidMaps {P : Program} {w : World} {K : PySem.W.Frag} {mg : Str → Option Value} {base : Heap} {C fI : Addr} {fd : FuncData} (F : FunD K "__init__" "InvalidMaps.__init__" (defArgs s_InvalidMaps___init__) (defBody s_InvalidMaps___init__) (defScope s_InvalidMaps___init__) [.non] [] fI fd) (T : OexC K C) (nf : PySem.W.findIn K (.ref C) "name" = some none)
    (gl : mg "InvalidMaps" = some (.ref C)) (xf : XfC K C) (ex : ExcC K C) (iC : PySem.W.findIn K (.ref C) "__init__" = some (some (.ref fI))) (tI : PySem.W.typeIn K (.ref fI) = some (.type "function")) : ErrV P w K mg base "InvalidMaps" "name" C :=
  errV_of F sc_InvalidMaps___init__ T nf gl xf ex iC tI (fun _ _ _ _ _ _ => pss_one (ps_ost (pv 0) (pv 1))) (fun _ _ _ _ _ _ _ _ _ its h1 => match its, h1 with | [_], _ => ⟨_, rfl, rfl⟩) (fun _ _ _ _ _ _ _ _ _ its h1 => match its, h1 with | [_], _ => ⟨_, rfl, rfl⟩) (fun _ _ _ _ _ _ _ us its h1 h2 => match us, its, h1, h2 with | [_], [_], _, _ => ⟨_, rfl, rfl⟩)
theorem ini_InvalidAsks {P : Program} {w : World} {K : PySem.W.Frag} {mg : Str → Option Value} {base : Heap} {C fI : Addr} {fd : FuncData} (F : FunD K "__init__" "InvalidAsks.__init__" (defArgs s_InvalidAsks___init__) (defBody s_InvalidAsks___init__) (defScope s_InvalidAsks___init__) [.non] [] fI fd) (T : OexC K C) (nf : PySem.W.findIn K (.ref C) "name" = some none)
    (gl : mg "InvalidAsks" = some (.ref C)) (xf : XfC K C) (ex : ExcC K C) (iC : PySem.W.findIn K (.ref C) "__init__" = some (some (.ref fI))) (tI : PySem.W.typeIn K (.ref fI) = some (.type "function")) : ErrV P w K mg base "InvalidAsks" "name" C :=
  errV_of F sc_InvalidAsks___init__ T nf gl xf ex iC tI (fun _ _ _ _ _ _ => pss_one (ps_ost (pv 0) (pv 1))) (fun _ _ _ _ _ _ _ _ _ its h1 => match its, h1 with | [_], _ => ⟨_, rfl, rfl⟩) (fun _ _ _ _ _ _ _ _ _ its h1 => match its, h1 with | [_], _ => ⟨_, rfl, rfl⟩) (fun _ _ _ _ _ _ _ us its h1 h2 => match us, its, h1, h2 with | [_], [_], _, _ => ⟨_, rfl, rfl⟩)
theorem ini_NoSuchDeed {P : Program} {w : World} {K : PySem.W.Frag} {mg : Str → Option Value} {base : Heap} {C fI : Addr} {fd : FuncData} (F : FunD K "__init__" "NoSuchDeed.__init__" (defArgs s_NoSuchDeed___init__) (defBody s_NoSuchDeed___init__) (defScope s_NoSuchDeed___init__) [.non] [] fI fd) (T : OexC K C) (nf : PySem.W.findIn K (.ref C) "name" = some none)
    (gl : mg "NoSuchDeed" = some (.ref C)) (xf : XfC K C) (ex : ExcC K C) (iC : PySem.W.findIn K (.ref C) "__init__" = some (some (.ref fI))) (tI : PySem.W.typeIn K (.ref fI) = some (.type "function")) : ErrV P w K mg base "NoSuchDeed" "name" C :=
  errV_of F sc_NoSuchDeed___init__ T nf gl xf ex iC tI (fun _ _ _ _ _ _ => pss_one (ps_ost (pv 0) (pv 1))) (fun _ _ _ _ _ _ _ _ _ its h1 => match its, h1 with | [_], _ => ⟨_, rfl, rfl⟩) (fun _ _ _ _ _ _ _ _ _ its h1 => match its, h1 with | [_], _ => ⟨_, rfl, rfl⟩) (fun _ _ _ _ _ _ _ us its h1 h2 => match us, its, h1, h2 with | [_], [_], _, _ => ⟨_, rfl, rfl⟩)
theorem ini_NoSuchAsk {P : Program} {w : World} {K : PySem.W.Frag} {mg : Str → Option Value} {base : Heap} {C fI : Addr} {fd : FuncData} (F : FunD K "__init__" "NoSuchAsk.__init__" (defArgs s_NoSuchAsk___init__) (defBody s_NoSuchAsk___init__) (defScope s_NoSuchAsk___init__) [.non] [] fI fd) (T : OexC K C) (nf : PySem.W.findIn K (.ref C) "name" = some none)
    (gl : mg "NoSuchAsk" = some (.ref C)) (xf : XfC K C) (ex : ExcC K C) (iC : PySem.W.findIn K (.ref C) "__init__" = some (some (.ref fI))) (tI : PySem.W.typeIn K (.ref fI) = some (.type "function")) : ErrV P w K mg base "NoSuchAsk" "name" C :=
  errV_of F sc_NoSuchAsk___init__ T nf gl xf ex iC tI (fun _ _ _ _ _ _ => pss_one (ps_ost (pv 0) (pv 1))) (fun _ _ _ _ _ _ _ _ _ its h1 => match its, h1 with | [_], _ => ⟨_, rfl, rfl⟩) (fun _ _ _ _ _ _ _ _ _ its h1 => match its, h1 with | [_], _ => ⟨_, rfl, rfl⟩) (fun _ _ _ _ _ _ _ us its h1 h2 => match us, its, h1, h2 with | [_], [_], _, _ => ⟨_, rfl, rfl⟩)
theorem ini_InvalidTurning {P : Program} {w : World} {K : PySem.W.Frag} {mg : Str → Option Value} {base : Heap} {C fI : Addr} {fd : FuncData} (F : FunD K "__init__" "InvalidTurning.__init__" (defArgs s_InvalidTurning___init__) (defBody s_InvalidTurning___init__) (defScope s_InvalidTurning___init__) [.non] [] fI fd) (T : OexC K C) (nf : PySem.W.findIn K (.ref C) "turning" = some none)
    (gl : mg "InvalidTurning" = some (.ref C)) (xf : XfC K C) (ex : ExcC K C) (iC : PySem.W.findIn K (.ref C) "__init__" = some (some (.ref fI))) (tI : PySem.W.typeIn K (.ref fI) = some (.type "function")) : ErrV P w K mg base "InvalidTurning" "turning" C :=
  errV_of F sc_InvalidTurning___init__ T nf gl xf ex iC tI (fun _ _ _ _ _ _ => pss_one (ps_ost (pv 0) (pv 1))) (fun _ _ _ _ _ _ _ _ _ its h1 => match its, h1 with | [_], _ => ⟨_, rfl, rfl⟩) (fun _ _ _ _ _ _ _ _ _ its h1 => match its, h1 with | [_], _ => ⟨_, rfl, rfl⟩) (fun _ _ _ _ _ _ _ us its h1 h2 => match us, its, h1, h2 with | [_], [_], _, _ => ⟨_, rfl, rfl⟩)
theorem ini_InvalidDeeds {P : Program} {w : World} {K : PySem.W.Frag} {mg : Str → Option Value} {base : Heap} {C fI : Addr} {fd : FuncData} (F : FunD K "__init__" "InvalidDeeds.__init__" (defArgs s_InvalidDeeds___init__) (defBody s_InvalidDeeds___init__) (defScope s_InvalidDeeds___init__) [.non] [] fI fd) (T : OexC K C) (nf : PySem.W.findIn K (.ref C) "place" = some none)
    (gl : mg "InvalidDeeds" = some (.ref C)) (xf : XfC K C) (ex : ExcC K C) (iC : PySem.W.findIn K (.ref C) "__init__" = some (some (.ref fI))) (tI : PySem.W.typeIn K (.ref fI) = some (.type "function")) : ErrV P w K mg base "InvalidDeeds" "place" C :=
  errV_of F sc_InvalidDeeds___init__ T nf gl xf ex iC tI (fun _ _ _ _ _ _ => pss_one (ps_ost (pv 0) (pv 1))) (fun _ _ _ _ _ _ _ _ _ its h1 => match its, h1 with | [_], _ => ⟨_, rfl, rfl⟩) (fun _ _ _ _ _ _ _ _ _ its h1 => match its, h1 with | [_], _ => ⟨_, rfl, rfl⟩) (fun _ _ _ _ _ _ _ us its h1 h2 => match us, its, h1, h2 with | [_], [_], _, _ => ⟨_, rfl, rfl⟩)
theorem ini_InvalidPlan {P : Program} {w : World} {K : PySem.W.Frag} {mg : Str → Option Value} {base : Heap} {C fI : Addr} {fd : FuncData} (F : FunD K "__init__" "InvalidPlan.__init__" (defArgs s_InvalidPlan___init__) (defBody s_InvalidPlan___init__) (defScope s_InvalidPlan___init__) [.non] [] fI fd) (T : OexC K C) (nf : PySem.W.findIn K (.ref C) "place" = some none)
    (gl : mg "InvalidPlan" = some (.ref C)) (xf : XfC K C) (ex : ExcC K C) (iC : PySem.W.findIn K (.ref C) "__init__" = some (some (.ref fI))) (tI : PySem.W.typeIn K (.ref fI) = some (.type "function")) : ErrV P w K mg base "InvalidPlan" "place" C :=
  errV_of F sc_InvalidPlan___init__ T nf gl xf ex iC tI (fun _ _ _ _ _ _ => pss_one (ps_ost (pv 0) (pv 1))) (fun _ _ _ _ _ _ _ _ _ its h1 => match its, h1 with | [_], _ => ⟨_, rfl, rfl⟩) (fun _ _ _ _ _ _ _ _ _ its h1 => match its, h1 with | [_], _ => ⟨_, rfl, rfl⟩) (fun _ _ _ _ _ _ _ us its h1 h2 => match us, its, h1, h2 with | [_], [_], _, _ => ⟨_, rfl, rfl⟩)
theorem ini_NotMade {P : Program} {w : World} {K : PySem.W.Frag} {mg : Str → Option Value} {base : Heap} {C fI : Addr} {fd : FuncData} (F : FunD K "__init__" "NotMade.__init__" (defArgs s_NotMade___init__) (defBody s_NotMade___init__) (defScope s_NotMade___init__) [.non] [] fI fd) (T : OexC K C) (nf : PySem.W.findIn K (.ref C) "place" = some none)
    (gl : mg "NotMade" = some (.ref C)) (xf : XfC K C) (ex : ExcC K C) (iC : PySem.W.findIn K (.ref C) "__init__" = some (some (.ref fI))) (tI : PySem.W.typeIn K (.ref fI) = some (.type "function")) : ErrV P w K mg base "NotMade" "place" C :=
  errV_of F sc_NotMade___init__ T nf gl xf ex iC tI (fun _ _ _ _ _ _ => pss_one (ps_ost (pv 0) (pv 1))) (fun _ _ _ _ _ _ _ _ _ its h1 => match its, h1 with | [_], _ => ⟨_, rfl, rfl⟩) (fun _ _ _ _ _ _ _ _ _ its h1 => match its, h1 with | [_], _ => ⟨_, rfl, rfl⟩) (fun _ _ _ _ _ _ _ us its h1 h2 => match us, its, h1, h2 with | [_], [_], _, _ => ⟨_, rfl, rfl⟩)
theorem ini_InvalidLength {P : Program} {w : World} {K : PySem.W.Frag} {mg : Str → Option Value} {base : Heap} {C fI : Addr} {fd : FuncData} (F : FunD K "__init__" "InvalidLength.__init__" (defArgs s_InvalidLength___init__) (defBody s_InvalidLength___init__) (defScope s_InvalidLength___init__) [.non] [] fI fd) (T : OexC K C) (nf : PySem.W.findIn K (.ref C) "length" = some none)
    (gl : mg "InvalidLength" = some (.ref C)) (xf : XfC K C) (ex : ExcC K C) (iC : PySem.W.findIn K (.ref C) "__init__" = some (some (.ref fI))) (tI : PySem.W.typeIn K (.ref fI) = some (.type "function")) : ErrV P w K mg base "InvalidLength" "length" C :=
  errV_of F sc_InvalidLength___init__ T nf gl xf ex iC tI (fun _ _ _ _ _ _ => pss_one (ps_ost (pv 0) (pv 1))) (fun _ _ _ _ _ _ _ _ _ its h1 => match its, h1 with | [_], _ => ⟨_, rfl, rfl⟩) (fun _ _ _ _ _ _ _ _ _ its h1 => match its, h1 with | [_], _ => ⟨_, rfl, rfl⟩) (fun _ _ _ _ _ _ _ us its h1 h2 => match us, its, h1, h2 with | [_], [_], _, _ => ⟨_, rfl, rfl⟩)
theorem ini_InvalidTable {P : Program} {w : World} {K : PySem.W.Frag} {mg : Str → Option Value} {base : Heap} {C fI : Addr} {fd : FuncData} (F : FunD K "__init__" "InvalidTable.__init__" (defArgs s_InvalidTable___init__) (defBody s_InvalidTable___init__) (defScope s_InvalidTable___init__) [.non] [] fI fd) (T : OexC K C) (nf : PySem.W.findIn K (.ref C) "problem" = some none)
    (gl : mg "InvalidTable" = some (.ref C)) (xf : XfC K C) (ex : ExcC K C) (iC : PySem.W.findIn K (.ref C) "__init__" = some (some (.ref fI))) (tI : PySem.W.typeIn K (.ref fI) = some (.type "function")) : ErrV P w K mg base "InvalidTable" "problem" C :=
  errV_of F sc_InvalidTable___init__ T nf gl xf ex iC tI (fun _ _ _ _ _ _ => pss_one (ps_ost (pv 0) (pv 1))) (fun _ _ _ _ _ _ _ _ _ its h1 => match its, h1 with | [_], _ => ⟨_, rfl, rfl⟩) (fun _ _ _ _ _ _ _ _ _ its h1 => match its, h1 with | [_], _ => ⟨_, rfl, rfl⟩) (fun _ _ _ _ _ _ _ us its h1 h2 => match us, its, h1, h2 with | [_], [_], _, _ => ⟨_, rfl, rfl⟩)
theorem ini_InvalidTags {P : Program} {w : World} {K : PySem.W.Frag} {mg : Str → Option Value} {base : Heap} {C fI : Addr} {fd : FuncData} (F : FunD K "__init__" "InvalidTags.__init__" (defArgs s_InvalidTags___init__) (defBody s_InvalidTags___init__) (defScope s_InvalidTags___init__) [.non] [] fI fd) (T : OexC K C) (nf : PySem.W.findIn K (.ref C) "problem" = some none)
    (gl : mg "InvalidTags" = some (.ref C)) (xf : XfC K C) (ex : ExcC K C) (iC : PySem.W.findIn K (.ref C) "__init__" = some (some (.ref fI))) (tI : PySem.W.typeIn K (.ref fI) = some (.type "function")) : ErrV P w K mg base "InvalidTags" "problem" C :=
  errV_of F sc_InvalidTags___init__ T nf gl xf ex iC tI (fun _ _ _ _ _ _ => pss_one (ps_ost (pv 0) (pv 1))) (fun _ _ _ _ _ _ _ _ _ its h1 => match its, h1 with | [_], _ => ⟨_, rfl, rfl⟩) (fun _ _ _ _ _ _ _ _ _ its h1 => match its, h1 with | [_], _ => ⟨_, rfl, rfl⟩) (fun _ _ _ _ _ _ _ us its h1 h2 => match us, its, h1, h2 with | [_], [_], _, _ => ⟨_, rfl, rfl⟩)
theorem ini_Unreadable {P : Program} {w : World} {K : PySem.W.Frag} {mg : Str → Option Value} {base : Heap} {C fI : Addr} {fd : FuncData} (F : FunD K "__init__" "Unreadable.__init__" (defArgs s_Unreadable___init__) (defBody s_Unreadable___init__) (defScope s_Unreadable___init__) [.non] [] fI fd) (T : OexC K C) (nf : PySem.W.findIn K (.ref C) "line" = some none)
    (gl : mg "Unreadable" = some (.ref C)) (xf : XfC K C) (ex : ExcC K C) (iC : PySem.W.findIn K (.ref C) "__init__" = some (some (.ref fI))) (tI : PySem.W.typeIn K (.ref fI) = some (.type "function")) : ErrV P w K mg base "Unreadable" "line" C :=
  errV_of F sc_Unreadable___init__ T nf gl xf ex iC tI (fun _ _ _ _ _ _ => pss_one (ps_ost (pv 0) (pv 1))) (fun _ _ _ _ _ _ _ _ _ its h1 => match its, h1 with | [_], _ => ⟨_, rfl, rfl⟩) (fun _ _ _ _ _ _ _ _ _ its h1 => match its, h1 with | [_], _ => ⟨_, rfl, rfl⟩) (fun _ _ _ _ _ _ _ us its h1 h2 => match us, its, h1, h2 with | [_], [_], _, _ => ⟨_, rfl, rfl⟩)
end K06
namespace K06
open PySem PySem.Spec PyProof.Rows L2 LT
section
variable {P : Program} {w : World} {K : PySem.W.Frag} {mg : Str → Option Value} {base : Heap}
theorem ok_mixed (z : Z mg) {f : Addr} {fd : FuncData} (F : Fun K "_law_mixed" "_law_mixed" s__law_mixed f fd) : FnOk P w K mg base CX0 1 f fd ["_law_cell", "_law_k"] spMixed := by
  refine F.ok sc__law_mixed (fun vs H Q E h => ?_) (fun cdv A outer s H vs Q E hr h => ⟨_, (pss_cons (ps_set (i := 2) sc__law_mixed.nd rfl (.inl rfl) (pe_op op_mod (pe_callTy call_intI (by rfl) z.int (by decide +kernel) (pa_cons (pe_op op_add (pe_op op_add (pe_op op_add (pe_op op_mul (pv 0) pe_int) (pe_op op_mul (pe_op op_mul pe_int (pv 1)) (pv 1))) (pe_op op_mul pe_int (pv 1))) pe_int) pa_nil)) pe_int))
      (pss_one (ps_ret (pe_op op_fdiv (pe_op op_mod (pe_callTy call_intI (by rfl) z.int (by decide +kernel) (pa_cons (pe_op op_add (pe_op op_add (pe_op op_mul (pv 2) (pv 2)) (pe_op op_mul pe_int (pv 2))) pe_int) pa_nil)) pe_int) pe_int)))), ?_⟩)
  · obtain ⟨c, k, rfl, _⟩ := h
    rfl
  · obtain ⟨c, k, rfl, c0, c1, k0, k1, q⟩ := h
    simp only [tSeq, tAsg, tOp, tUn, tCB, tCons, tNil, tVar, tC, rI, rI0, rU, tRet, tRetN, gName, tIfS, tTest, tIf, tB, tNot, tAnd, tOr, tAndV, tOrV, tNotV, tCmp, t2I, tLst, tTup, tCall, tCalK0, tNext, tChain, tSl, tPart, tNoPart, tPar, tDrop, gSub, gTupT, gCons, gNil, rSetL, rIxl, rIxt, rSlt, rEq, rNe, L2.start, tLc_eq, tFor_eq, iTup, iList, iRng1, iRng2, iEnumT, tYes, pts_nil,
  List.map_cons, List.map_nil, List.length_cons, List.length_nil, List.replicate_succ, List.replicate_zero, Nat.reduceAdd, Nat.reduceSub, Nat.add_zero, Nat.zero_add, List.cons_append, List.nil_append, List.append_nil, List.getElem?_cons_zero, List.getElem?_cons_succ, List.set_cons_zero, List.set_cons_succ, wipe,
  Option.some.injEq, exists_eq_left', exists_eq_left, V.int.injEq, V.bl.injEq, V.str.injEq, V.ref.injEq, HO.lst.injEq, HO.tup.injEq, List.cons.injEq, and_true, true_and, reduceCtorEq, false_or, or_false, false_and, and_false, exists_false, exists_and_left, exists_eq, and_assoc, if_true, if_false, Bool.false_eq_true, decide_eq_true_eq, upd_same]
    generalize hn : (c * 2654435761 + 40503 * k * k + 97 * k + 13) % 2147483647 = n
    have n0 : 0 ≤ n ∧ n < 2147483647 := by
      rw [← hn]
      exact ⟨Int.emod_nonneg _ (by decide), Int.emod_lt_of_pos _ (by decide)⟩
    refine ⟨.inl ⟨by omega, by omega⟩, .inl ⟨by decide, by decide⟩, .inr ⟨by omega, by omega⟩, .inl ⟨by decide, by decide⟩, by decide, .inl ⟨by omega, by omega⟩, .inl ⟨by decide, by decide⟩, by decide, ⟨by decide, by decide⟩, ?_⟩
    have r0 := Int.emod_nonneg (n * n + 7 * n + 11) (show (2147483629 : Int) ≠ 0 by decide)
    have r1 := Int.emod_lt_of_pos (n * n + 7 * n + 11) (show (0 : Int) < 2147483629 by decide)
    exact q _ (by omega) (by omega)
theorem ok_draw (z : Z mg) (c__law_mixed : Cal P w K mg base CX0 "_law_mixed" 1 ["_law_cell", "_law_k"] spMixed) {f : Addr} {fd : FuncData} (F : Fun K "_law_draw" "_law_draw" s__law_draw f fd) :
    FnOk P w K mg base CX0 2 f fd ["_law_purse_here", "_law_out_of"] spDraw := by
  refine F.ok sc__law_draw (fun vs H Q E h => ?_) (fun cdv A outer s H vs Q E hr h => ⟨_, (pss_cons (ps_if (pt_cmpR op_gt (pe_ix ix_l (pv 0) pe_int (fun _ _ => rfl)) pe_int (nomark _)) (pss_cons (ps_set (i := 2) sc__law_draw.nd rfl (.inl rfl) (pe_op op_mod (pe_callTy call_intI (by rfl) z.int (by decide +kernel) (pa_cons (pe_ix ix_l (pv 0) pe_int (fun _ _ => rfl)) pa_nil)) (pv 1)))
      (pss_cons (ps_asg (pe_op op_fdiv (pe_ix ix_l (pv 0) pe_int (fun _ _ => rfl)) (pv 1)) (pg_sub (pv 0) pe_int set_list))
      (pss_one (ps_ret (pv 2))))) pss_nil)
      (pss_cons (ps_asg (pe_op op_add (pe_ix ix_l (pv 0) pe_int (fun _ _ => rfl)) pe_int) (pg_sub (pv 0) pe_int set_list))
      (pss_one (ps_ret (pe_op op_mod (pe_callTy call_intI (by rfl) z.int (by decide +kernel) (pa_cons (pe_cal c__law_mixed hr rfl pass0 (pa_cons (pe_ix ix_l (pv 0) pe_int (fun _ _ => rfl)) (pa_cons (pe_ix ix_l (pv 0) pe_int (fun _ _ => rfl)) pa_nil))) pa_nil)) (pv 1)))))), ?_⟩)
  · obtain ⟨p, n, N, rfl, _⟩ := h
    rfl
  · obtain ⟨p, n, N, rfl, n0, n1, ⟨a, b, c, hp, b0, b1, c0, c1⟩, hN, q⟩ := h
    have e0 : ∀ x y z' : V, atI [x, y, z'] (0 : Int) = some x := fun _ _ _ => rfl
    have e1 : ∀ x y z' : V, atI [x, y, z'] (1 : Int) = some y := fun _ _ _ => rfl
    have e2 : ∀ x y z' : V, atI [x, y, z'] (2 : Int) = some z' := fun _ _ _ => rfl
    have i0 : ixN 3 (0 : Int) = some 0 := rfl
    have i2 : ixN 3 (2 : Int) = some 2 := rfl
    simp only [tSeq, tAsg, tOp, tUn, tCB, tCons, tNil, tVar, tC, rI, rI0, rU, tRet, tRetN, gName, tIfS, tTest, tIf, tB, tNot, tAnd, tOr, tAndV, tOrV, tNotV, tCmp, t2I, tLst, tTup, tCall, tCalK0, tNext, tChain, tSl, tPart, tNoPart, tPar, tDrop, gSub, gTupT, gCons, gNil, rSetL, rIxl, rIxt, rSlt, rEq, rNe, L2.start, tLc_eq, tFor_eq, iTup, iList, iRng1, iRng2, iEnumT, tYes, pts_nil,
  List.map_cons, List.map_nil, List.length_cons, List.length_nil, List.replicate_succ, List.replicate_zero, Nat.reduceAdd, Nat.reduceSub, Nat.add_zero, Nat.zero_add, List.cons_append, List.nil_append, List.append_nil, List.getElem?_cons_zero, List.getElem?_cons_succ, List.set_cons_zero, List.set_cons_succ, wipe,
  Option.some.injEq, exists_eq_left', exists_eq_left, V.int.injEq, V.bl.injEq, V.str.injEq, V.ref.injEq, HO.lst.injEq, HO.tup.injEq, List.cons.injEq, and_true, true_and, reduceCtorEq, false_or, or_false, false_and, and_false, exists_false, exists_and_left, exists_eq, and_assoc, if_true, if_false, Bool.false_eq_true, decide_eq_true_eq, upd_same, hp, e0, e1, e2, i0, i2]
    by_cases ha : 0 < a
    · rw [if_pos ha]
      refine ⟨n0, ⟨n0, n1⟩, q _ _ (Int.emod_nonneg _ (by omega)) (Int.emod_lt_of_pos _ n0) (Fx.put List.mem_cons_self hp) ⟨_, _, _, upd_same, b0, b1, c0, by omega⟩⟩
    · rw [if_neg ha]
      refine ⟨b, c + 1, rfl, b0, b1, by omega, by omega, fun r r0 r1 => ⟨r, rfl, n0, ?_⟩⟩
      exact q _ _ (Int.emod_nonneg _ (by omega)) (Int.emod_lt_of_pos _ n0) (Fx.put List.mem_cons_self hp) ⟨_, _, _, upd_same, b0, b1, by omega, by omega⟩
theorem ok_purse (z : Z mg) {f : Addr} {fd : FuncData} (F : Fun K "_law_purse" "_law_purse" s__law_purse f fd) :
    FnOk P w K mg base CX0 1 f fd ["_law_script", "_law_at"] (spPurse K) := by
  refine F.ok sc__law_purse (fun vs H Q E h => ?_) (fun cdv A outer s H vs Q E hr h => ⟨_, (pss_cons (ps_set (i := 2) sc__law_purse.nd rfl (.inl rfl) pe_int)
      (pss_cons (ps_if (pt_cmpR op_lt (pv 1) (pe_callB call_len_seq (by rfl) z.len (by decide +kernel) (pa_cons (pv 0) pa_nil)) (nomark _)) (pss_one (ps_set (i := 2) sc__law_purse.nd rfl (.inl rfl) (pe_ix ix_list (pv 0) (pv 1) (fun _ _ => rfl)))) pss_nil)
      (pss_one (ps_ret (pe_lst (pa_cons (pe_op op_mod (pe_callTy call_intI (by rfl) z.int (by decide +kernel) (pa_cons (pe_callB (call_max2 rfl) (by rfl) z.max (by decide +kernel) (pa_cons (pe_op op_sub (pv 2) (pe_op op_powB pe_int pe_int)) (pa_cons pe_int pa_nil))) pa_nil)) (pe_op op_powB (pe_op op_powB pe_int pe_int) pe_int)) (pa_cons (pe_op op_mod (pe_callTy call_intI (by rfl) z.int (by decide +kernel) (pa_cons (pv 2) pa_nil)) pe_int) (pa_cons (pe_op op_mul pe_int (pv 1)) pa_nil)))))))), ?_⟩)
  · obtain ⟨p, n, N, rfl, _⟩ := h
    rfl
  · obtain ⟨a, ns, i, rfl, hS, hi, q⟩ := h
    have fin : ∀ c : Int, ∀ p, H p = none → Q (.ref p) (upd H p (.lst [.int ((if 0 > c - 10 ^ (18 : Int).toNat then 0 else c - 10 ^ (18 : Int).toNat) % (10 ^ (60 : Int).toNat) ^ (8 : Int).toNat), .int (c % 2147483647), .int (1000 * i)])) := by
      intro c p hp
      refine q p _ hp (Fx.new _ hp) ⟨_, _, _, upd_same, Int.emod_nonneg _ (by decide), Int.emod_lt_of_pos _ (by decide), by omega, by omega⟩
    simp only [tSeq, tAsg, tOp, tUn, tCB, tCons, tNil, tVar, tC, rI, rI0, rU, tRet, tRetN, gName, tIfS, tTest, tIf, tB, tNot, tAnd, tOr, tAndV, tOrV, tNotV, tCmp, t2I, tLst, tTup, tCall, tCalK0, tNext, tChain, tSl, tPart, tNoPart, tPar, tDrop, gSub, gTupT, gCons, gNil, rSetL, rIxl, rIxt, rSlt, rEq, rNe, L2.start, tLc_eq, tFor_eq, iTup, iList, iRng1, iRng2, iEnumT, tYes, pts_nil,
  List.map_cons, List.map_nil, List.length_cons, List.length_nil, List.replicate_succ, List.replicate_zero, Nat.reduceAdd, Nat.reduceSub, Nat.add_zero, Nat.zero_add, List.cons_append, List.nil_append, List.append_nil, List.getElem?_cons_zero, List.getElem?_cons_succ, List.set_cons_zero, List.set_cons_succ, wipe,
  Option.some.injEq, exists_eq_left', exists_eq_left, V.int.injEq, V.bl.injEq, V.str.injEq, V.ref.injEq, HO.lst.injEq, HO.tup.injEq, List.cons.injEq, and_true, true_and, reduceCtorEq, false_or, or_false, false_and, and_false, exists_false, exists_and_left, exists_eq, and_assoc, if_true, if_false, Bool.false_eq_true, decide_eq_true_eq, upd_same]
    have w1 : CPowB 10 18 := ⟨by decide, by decide +kernel⟩
    have w2 : CPowB 10 60 := ⟨by decide, by decide +kernel⟩
    have w3 : CPowB (10 ^ Int.toNat 60) 8 := ⟨by decide, by decide +kernel⟩
    have w4 : (0 : Int) < (10 ^ Int.toNat 60) ^ Int.toNat 8 := by decide +kernel
    have w5 : CMul 1000 (i : Int) := .inl ⟨by decide, by decide⟩
    have w6 : 3 ≤ sizeLine := by decide
    refine ⟨ns.map V.int, .inl hS, ?_⟩
    by_cases hi : (i : Int) < ((ns.map V.int).length : Int)
    · rw [if_pos hi]
      have hi' : i < ns.length := by rw [List.length_map] at hi; omega
      refine ⟨a, _, i, .int ns[i], rfl, rfl, hS, atI_nat (by rw [List.getElem?_map, List.getElem?_eq_getElem hi']; rfl), ?_⟩
      simp only [tSeq, tAsg, tOp, tUn, tCB, tCons, tNil, tVar, tC, rI, rI0, rU, tRet, tRetN, gName, tIfS, tTest, tIf, tB, tNot, tAnd, tOr, tAndV, tOrV, tNotV, tCmp, t2I, tLst, tTup, tCall, tCalK0, tNext, tChain, tSl, tPart, tNoPart, tPar, tDrop, gSub, gTupT, gCons, gNil, rSetL, rIxl, rIxt, rSlt, rEq, rNe, L2.start, tLc_eq, tFor_eq, iTup, iList, iRng1, iRng2, iEnumT, tYes, pts_nil,
  List.map_cons, List.map_nil, List.length_cons, List.length_nil, List.replicate_succ, List.replicate_zero, Nat.reduceAdd, Nat.reduceSub, Nat.add_zero, Nat.zero_add, List.cons_append, List.nil_append, List.append_nil, List.getElem?_cons_zero, List.getElem?_cons_succ, List.set_cons_zero, List.set_cons_succ, wipe,
  Option.some.injEq, exists_eq_left', exists_eq_left, V.int.injEq, V.bl.injEq, V.str.injEq, V.ref.injEq, HO.lst.injEq, HO.tup.injEq, List.cons.injEq, and_true, true_and, reduceCtorEq, false_or, or_false, false_and, and_false, exists_false, exists_and_left, exists_eq, and_assoc, if_true, if_false, Bool.false_eq_true, decide_eq_true_eq, upd_same]
      exact ⟨w1, w2, w3, w4, by decide, w5, w6, fun p hp => fin ns[i] p hp⟩
    · rw [if_neg hi]
      exact ⟨w1, w2, w3, w4, by decide, w5, w6, fun p hp => fin 0 p hp⟩
end
def tab (cs : Nat → Addr) (v : V) : List (Addr × List (Str × V)) := [(cs 0, [("size", v)]), (cs 1, [("thing", v)]), (cs 2, [("thing", v)]), (cs 3, [("thing", v)]), (cs 4, [("thing", v)]), (cs 5, [("thing", v)]), (cs 6, [("thing", v)]), (cs 7, [("thing", v)]), (cs 8, [("thing", v)]), (cs 9, [("name", v)]), (cs 10, [("name", v)]), (cs 11, [("name", v)]), (cs 12, [("name", v)]), (cs 13, [("turning", v)]), (cs 14, [("place", v)]), (cs 15, [("place", v)]), (cs 16, [("place", v)]), (cs 17, [("length", v)]), (cs 18, [("problem", v)]), (cs 19, [("problem", v)]), (cs 20, [("line", v)])]
def tab0 (cs : Nat → Addr) : List (Addr × List (Str × V)) := tab cs .non ++ [(cs 21, []), (cs 22, [])]
/-- a new list of errors -/
def spBy (cs : Nat → Addr) : Sp := fun vs H Q _ => ∃ v, vs = [v] ∧ ∀ a xs H', Fx [] H H' → H' a = some (.lst xs) → Paired (RE H') (tab cs v) xs → Q (.ref a) H'
def spBare (cs : Nat → Addr) : Sp := fun vs H Q _ => vs = [] ∧ ∀ a xs H', Fx [] H H' → H' a = some (.lst xs) → Paired (RE H') (tab0 cs) xs → Q (.ref a) H'
def spFields (cs : Nat → Addr) : Sp := fun vs H Q _ => ∃ a xs v ex, vs = [.ref a] ∧ H a = some (.lst xs) ∧ Paired (RE H) (tab cs v ++ ex) xs ∧ ∀ b H', Fx [] H H' → H' b = some (.lst (List.replicate 21 v)) → Q (.ref b) H'
def spClasses (cs : Nat → Addr) : Sp := fun vs H Q _ => ∃ a i fs, vs = [.ref a] ∧ i < 23 ∧ IsEx H (cs i) a fs ∧ ∀ b H', Fx [] H H' → H' b = some (.lst ((List.range 23).map fun k => .bl (decide (i = k)))) → Q (.ref b) H'
section
variable {P : Program} {w : World} {K : PySem.W.Frag} {mg : Str → Option Value} {base : Heap} {cs : Nat → Addr}

theorem ok_by_place (z : Z mg) (er : Er P w K mg base cs) {f : Addr} {fd : FuncData} (F : Fun K "_law_by_place" "_law_by_place" s__law_by_place f fd) : FnOk P w K mg base CX0 3 f fd ["_law_item"] (spBy cs) := by
  refine F.ok sc__law_by_place (fun vs H Q E h => ?_) (fun cdv A outer s H vs Q E hr h => ⟨_, (pss_cons (ps_set (i := 1) sc__law_by_place.nd rfl (.inl rfl) (pe_lst (pa_cons (pe_mkP er.InvalidSize hr rfl (pv 0)) (pa_cons (pe_mkP er.InvalidMachine hr rfl (pv 0)) (pa_cons (pe_mkP er.InvalidRow hr rfl (pv 0)) (pa_cons (pe_mkP er.InvalidMap hr rfl (pv 0)) pa_nil))))))
      (pss_cons (ps_set (i := 1) sc__law_by_place.nd rfl (.inl rfl) (pe_op op_cat (pv 1) (pe_lst (pa_cons (pe_mkP er.NotASetting hr rfl (pv 0)) (pa_cons (pe_mkP er.InvalidExpression hr rfl (pv 0)) (pa_cons (pe_mkP er.InvalidForm hr rfl (pv 0)) (pa_cons (pe_mkP er.InvalidRange hr rfl (pv 0)) pa_nil)))))))
      (pss_cons (ps_set (i := 1) sc__law_by_place.nd rfl (.inl rfl) (pe_op op_cat (pv 1) (pe_lst (pa_cons (pe_mkP er.InvalidRecipe hr rfl (pv 0)) (pa_cons (pe_mkP er.InvalidMaps hr rfl (pv 0)) (pa_cons (pe_mkP er.InvalidAsks hr rfl (pv 0)) (pa_cons (pe_mkP er.NoSuchDeed hr rfl (pv 0)) pa_nil)))))))
      (pss_cons (ps_set (i := 1) sc__law_by_place.nd rfl (.inl rfl) (pe_op op_cat (pv 1) (pe_lst (pa_cons (pe_mkP er.NoSuchAsk hr rfl (pv 0)) (pa_cons (pe_mkP er.InvalidTurning hr rfl (pv 0)) (pa_cons (pe_mkP er.InvalidDeeds hr rfl (pv 0)) (pa_cons (pe_mkP er.InvalidPlan hr rfl (pv 0)) pa_nil)))))))
      (pss_cons (ps_set (i := 1) sc__law_by_place.nd rfl (.inl rfl) (pe_op op_cat (pv 1) (pe_lst (pa_cons (pe_mkP er.NotMade hr rfl (pv 0)) (pa_cons (pe_mkP er.InvalidLength hr rfl (pv 0)) (pa_cons (pe_mkP er.InvalidTable hr rfl (pv 0)) (pa_cons (pe_mkP er.InvalidTags hr rfl (pv 0)) pa_nil)))))))
      (pss_one (ps_ret (pe_op op_cat (pv 1) (pe_lst (pa_cons (pe_mkP er.Unreadable hr rfl (pv 0)) pa_nil)))))))))), ?_⟩)
  · obtain ⟨v, rfl, _⟩ := h
    rfl
  · obtain ⟨v, rfl, q⟩ := h
    refine st_lst mono_RE (els_cons mono_RE (el_mkP rfl) (els_cons mono_RE (el_mkP rfl) (els_cons mono_RE (el_mkP rfl) (els_cons mono_RE (el_mkP rfl) els_nil)))) (Nat.le_of_ble_eq_true rfl) fun a1 xs1 H1 f1 e1 p1 => ?_
    have g1 := f1
    refine st_cat mono_RE rfl e1 p1 (els_cons mono_RE (el_mkP rfl) (els_cons mono_RE (el_mkP rfl) (els_cons mono_RE (el_mkP rfl) (els_cons mono_RE (el_mkP rfl) els_nil)))) (Nat.le_of_ble_eq_true rfl) fun a2 xs2 H2 f2 e2 p2 => ?_
    have g2 := g1.trans f2
    refine st_cat mono_RE rfl e2 p2 (els_cons mono_RE (el_mkP rfl) (els_cons mono_RE (el_mkP rfl) (els_cons mono_RE (el_mkP rfl) (els_cons mono_RE (el_mkP rfl) els_nil)))) (Nat.le_of_ble_eq_true rfl) fun a3 xs3 H3 f3 e3 p3 => ?_
    have g3 := g2.trans f3
    refine st_cat mono_RE rfl e3 p3 (els_cons mono_RE (el_mkP rfl) (els_cons mono_RE (el_mkP rfl) (els_cons mono_RE (el_mkP rfl) (els_cons mono_RE (el_mkP rfl) els_nil)))) (Nat.le_of_ble_eq_true rfl) fun a4 xs4 H4 f4 e4 p4 => ?_
    have g4 := g3.trans f4
    refine st_cat mono_RE rfl e4 p4 (els_cons mono_RE (el_mkP rfl) (els_cons mono_RE (el_mkP rfl) (els_cons mono_RE (el_mkP rfl) (els_cons mono_RE (el_mkP rfl) els_nil)))) (Nat.le_of_ble_eq_true rfl) fun a5 xs5 H5 f5 e5 p5 => ?_
    have g5 := g4.trans f5
    refine rt_cat mono_RE rfl e5 p5 (els_cons mono_RE (el_mkP rfl) els_nil) (Nat.le_of_ble_eq_true rfl) fun a6 xs6 H6 f6 e6 p6 => ?_
    have g6 := g5.trans f6
    exact q _ _ _ g6 e6 p6
theorem ok_by_name (z : Z mg) (er : Er P w K mg base cs) {f : Addr} {fd : FuncData} (F : Fun K "_law_by_name" "_law_by_name" s__law_by_name f fd) : FnOk P w K mg base CX0 3 f fd ["_law_item"] (spBy cs) := by
  refine F.ok sc__law_by_name (fun vs H Q E h => ?_) (fun cdv A outer s H vs Q E hr h => ⟨_, (pss_cons (ps_set (i := 1) sc__law_by_name.nd rfl (.inl rfl) (pe_lst (pa_cons (pe_mkK er.InvalidSize hr rfl (pk_cons (pv 0) pk_nil)) (pa_cons (pe_mkK er.InvalidMachine hr rfl (pk_cons (pv 0) pk_nil)) (pa_cons (pe_mkK er.InvalidRow hr rfl (pk_cons (pv 0) pk_nil)) pa_nil)))))
      (pss_cons (ps_set (i := 1) sc__law_by_name.nd rfl (.inl rfl) (pe_op op_cat (pv 1) (pe_lst (pa_cons (pe_mkK er.InvalidMap hr rfl (pk_cons (pv 0) pk_nil)) (pa_cons (pe_mkK er.NotASetting hr rfl (pk_cons (pv 0) pk_nil)) (pa_cons (pe_mkK er.InvalidExpression hr rfl (pk_cons (pv 0) pk_nil)) pa_nil))))))
      (pss_cons (ps_set (i := 1) sc__law_by_name.nd rfl (.inl rfl) (pe_op op_cat (pv 1) (pe_lst (pa_cons (pe_mkK er.InvalidForm hr rfl (pk_cons (pv 0) pk_nil)) (pa_cons (pe_mkK er.InvalidRange hr rfl (pk_cons (pv 0) pk_nil)) (pa_cons (pe_mkK er.InvalidRecipe hr rfl (pk_cons (pv 0) pk_nil)) pa_nil))))))
      (pss_cons (ps_set (i := 1) sc__law_by_name.nd rfl (.inl rfl) (pe_op op_cat (pv 1) (pe_lst (pa_cons (pe_mkK er.InvalidMaps hr rfl (pk_cons (pv 0) pk_nil)) (pa_cons (pe_mkK er.InvalidAsks hr rfl (pk_cons (pv 0) pk_nil)) (pa_cons (pe_mkK er.NoSuchDeed hr rfl (pk_cons (pv 0) pk_nil)) pa_nil))))))
      (pss_cons (ps_set (i := 1) sc__law_by_name.nd rfl (.inl rfl) (pe_op op_cat (pv 1) (pe_lst (pa_cons (pe_mkK er.NoSuchAsk hr rfl (pk_cons (pv 0) pk_nil)) (pa_cons (pe_mkK er.InvalidTurning hr rfl (pk_cons (pv 0) pk_nil)) (pa_cons (pe_mkK er.InvalidDeeds hr rfl (pk_cons (pv 0) pk_nil)) pa_nil))))))
      (pss_cons (ps_set (i := 1) sc__law_by_name.nd rfl (.inl rfl) (pe_op op_cat (pv 1) (pe_lst (pa_cons (pe_mkK er.InvalidPlan hr rfl (pk_cons (pv 0) pk_nil)) (pa_cons (pe_mkK er.NotMade hr rfl (pk_cons (pv 0) pk_nil)) (pa_cons (pe_mkK er.InvalidLength hr rfl (pk_cons (pv 0) pk_nil)) pa_nil))))))
      (pss_one (ps_ret (pe_op op_cat (pv 1) (pe_lst (pa_cons (pe_mkK er.InvalidTable hr rfl (pk_cons (pv 0) pk_nil)) (pa_cons (pe_mkK er.InvalidTags hr rfl (pk_cons (pv 0) pk_nil)) (pa_cons (pe_mkK er.Unreadable hr rfl (pk_cons (pv 0) pk_nil)) pa_nil))))))))))))), ?_⟩)
  · obtain ⟨v, rfl, _⟩ := h
    rfl
  · obtain ⟨v, rfl, q⟩ := h
    refine st_lst mono_RE (els_cons mono_RE (el_mkK rfl) (els_cons mono_RE (el_mkK rfl) (els_cons mono_RE (el_mkK rfl) els_nil))) (Nat.le_of_ble_eq_true rfl) fun a1 xs1 H1 f1 e1 p1 => ?_
    have g1 := f1
    refine st_cat mono_RE rfl e1 p1 (els_cons mono_RE (el_mkK rfl) (els_cons mono_RE (el_mkK rfl) (els_cons mono_RE (el_mkK rfl) els_nil))) (Nat.le_of_ble_eq_true rfl) fun a2 xs2 H2 f2 e2 p2 => ?_
    have g2 := g1.trans f2
    refine st_cat mono_RE rfl e2 p2 (els_cons mono_RE (el_mkK rfl) (els_cons mono_RE (el_mkK rfl) (els_cons mono_RE (el_mkK rfl) els_nil))) (Nat.le_of_ble_eq_true rfl) fun a3 xs3 H3 f3 e3 p3 => ?_
    have g3 := g2.trans f3
    refine st_cat mono_RE rfl e3 p3 (els_cons mono_RE (el_mkK rfl) (els_cons mono_RE (el_mkK rfl) (els_cons mono_RE (el_mkK rfl) els_nil))) (Nat.le_of_ble_eq_true rfl) fun a4 xs4 H4 f4 e4 p4 => ?_
    have g4 := g3.trans f4
    refine st_cat mono_RE rfl e4 p4 (els_cons mono_RE (el_mkK rfl) (els_cons mono_RE (el_mkK rfl) (els_cons mono_RE (el_mkK rfl) els_nil))) (Nat.le_of_ble_eq_true rfl) fun a5 xs5 H5 f5 e5 p5 => ?_
    have g5 := g4.trans f5
    refine st_cat mono_RE rfl e5 p5 (els_cons mono_RE (el_mkK rfl) (els_cons mono_RE (el_mkK rfl) (els_cons mono_RE (el_mkK rfl) els_nil))) (Nat.le_of_ble_eq_true rfl) fun a6 xs6 H6 f6 e6 p6 => ?_
    have g6 := g5.trans f6
    refine rt_cat mono_RE rfl e6 p6 (els_cons mono_RE (el_mkK rfl) (els_cons mono_RE (el_mkK rfl) (els_cons mono_RE (el_mkK rfl) els_nil))) (Nat.le_of_ble_eq_true rfl) fun a7 xs7 H7 f7 e7 p7 => ?_
    have g7 := g6.trans f7
    exact q _ _ _ g7 e7 p7
theorem ok_bare (z : Z mg) (er : Er P w K mg base cs) {f : Addr} {fd : FuncData} (F : Fun K "_law_bare" "_law_bare" s__law_bare f fd) : FnOk P w K mg base CX0 3 f fd [] (spBare cs) := by
  refine F.ok sc__law_bare (fun vs H Q E h => ?_) (fun cdv A outer s H vs Q E hr h => ⟨_, (pss_cons (ps_set (i := 0) sc__law_bare.nd rfl (.inl rfl) (pe_lst (pa_cons (pe_mk0 er.InvalidSize hr rfl) (pa_cons (pe_mk0 er.InvalidMachine hr rfl) (pa_cons (pe_mk0 er.InvalidRow hr rfl) (pa_cons (pe_mk0 er.InvalidMap hr rfl) (pa_cons (pe_mk0 er.NotASetting hr rfl) pa_nil)))))))
      (pss_cons (ps_set (i := 0) sc__law_bare.nd rfl (.inl rfl) (pe_op op_cat (pv 0) (pe_lst (pa_cons (pe_mk0 er.InvalidExpression hr rfl) (pa_cons (pe_mk0 er.InvalidForm hr rfl) (pa_cons (pe_mk0 er.InvalidRange hr rfl) (pa_cons (pe_mk0 er.InvalidRecipe hr rfl) (pa_cons (pe_mk0 er.InvalidMaps hr rfl) pa_nil))))))))
      (pss_cons (ps_set (i := 0) sc__law_bare.nd rfl (.inl rfl) (pe_op op_cat (pv 0) (pe_lst (pa_cons (pe_mk0 er.InvalidAsks hr rfl) (pa_cons (pe_mk0 er.NoSuchDeed hr rfl) (pa_cons (pe_mk0 er.NoSuchAsk hr rfl) (pa_cons (pe_mk0 er.InvalidTurning hr rfl) (pa_cons (pe_mk0 er.InvalidDeeds hr rfl) pa_nil))))))))
      (pss_cons (ps_set (i := 0) sc__law_bare.nd rfl (.inl rfl) (pe_op op_cat (pv 0) (pe_lst (pa_cons (pe_mk0 er.InvalidPlan hr rfl) (pa_cons (pe_mk0 er.NotMade hr rfl) (pa_cons (pe_mk0 er.InvalidLength hr rfl) (pa_cons (pe_mk0 er.InvalidTable hr rfl) (pa_cons (pe_mk0 er.InvalidTags hr rfl) pa_nil))))))))
      (pss_one (ps_ret (pe_op op_cat (pv 0) (pe_lst (pa_cons (pe_mk0 er.Unreadable hr rfl) (pa_cons (pe_exc0 PySem.F.excBase_ValueError er.q_TooMany er.g_TooMany er.k_TooMany rfl) (pa_cons (pe_exc0 PySem.F.excBase_ValueError er.q_NothingToUndo er.g_NothingToUndo er.k_NothingToUndo rfl) pa_nil))))))))))), ?_⟩)
  · obtain ⟨rfl, _⟩ := h
    rfl
  · obtain ⟨rfl, q⟩ := h
    refine st_lst mono_RE (els_cons mono_RE el_mk0 (els_cons mono_RE el_mk0 (els_cons mono_RE el_mk0 (els_cons mono_RE el_mk0 (els_cons mono_RE el_mk0 els_nil))))) (Nat.le_of_ble_eq_true rfl) fun a1 xs1 H1 f1 e1 p1 => ?_
    have g1 := f1
    refine st_cat mono_RE rfl e1 p1 (els_cons mono_RE el_mk0 (els_cons mono_RE el_mk0 (els_cons mono_RE el_mk0 (els_cons mono_RE el_mk0 (els_cons mono_RE el_mk0 els_nil))))) (Nat.le_of_ble_eq_true rfl) fun a2 xs2 H2 f2 e2 p2 => ?_
    have g2 := g1.trans f2
    refine st_cat mono_RE rfl e2 p2 (els_cons mono_RE el_mk0 (els_cons mono_RE el_mk0 (els_cons mono_RE el_mk0 (els_cons mono_RE el_mk0 (els_cons mono_RE el_mk0 els_nil))))) (Nat.le_of_ble_eq_true rfl) fun a3 xs3 H3 f3 e3 p3 => ?_
    have g3 := g2.trans f3
    refine st_cat mono_RE rfl e3 p3 (els_cons mono_RE el_mk0 (els_cons mono_RE el_mk0 (els_cons mono_RE el_mk0 (els_cons mono_RE el_mk0 (els_cons mono_RE el_mk0 els_nil))))) (Nat.le_of_ble_eq_true rfl) fun a4 xs4 H4 f4 e4 p4 => ?_
    have g4 := g3.trans f4
    refine rt_cat mono_RE rfl e4 p4 (els_cons mono_RE el_mk0 (els_cons mono_RE el_mkE (els_cons mono_RE el_mkE els_nil))) (Nat.le_of_ble_eq_true rfl) fun a5 xs5 H5 f5 e5 p5 => ?_
    have g5 := g4.trans f5
    exact q _ _ _ g5 e5 p5
theorem ok_fields (z : Z mg) (er : Er P w K mg base cs) {f : Addr} {fd : FuncData} (F : Fun K "_law_fields" "_law_fields" s__law_fields f fd) : FnOk P w K mg base CX0 1 f fd ["_law_errors"] (spFields cs) := by
  refine F.ok sc__law_fields (fun vs H Q E h => ?_) (fun cdv A outer s H vs Q E hr h => ⟨_, (pss_cons (ps_set (i := 1) sc__law_fields.nd rfl (.inl rfl) (pe_lst (pa_cons (pe_exf (pe_ix ix_l (pv 0) pe_int (fun _ _ => rfl))) (pa_cons (pe_exf (pe_ix ix_l (pv 0) pe_int (fun _ _ => rfl))) (pa_cons (pe_exf (pe_ix ix_l (pv 0) pe_int (fun _ _ => rfl))) (pa_cons (pe_exf (pe_ix ix_l (pv 0) pe_int (fun _ _ => rfl))) (pa_cons (pe_exf (pe_ix ix_l (pv 0) pe_int (fun _ _ => rfl))) pa_nil)))))))
      (pss_cons (ps_set (i := 1) sc__law_fields.nd rfl (.inl rfl) (pe_op op_cat (pv 1) (pe_lst (pa_cons (pe_exf (pe_ix ix_l (pv 0) pe_int (fun _ _ => rfl))) (pa_cons (pe_exf (pe_ix ix_l (pv 0) pe_int (fun _ _ => rfl))) (pa_cons (pe_exf (pe_ix ix_l (pv 0) pe_int (fun _ _ => rfl))) (pa_cons (pe_exf (pe_ix ix_l (pv 0) pe_int (fun _ _ => rfl))) (pa_cons (pe_exf (pe_ix ix_l (pv 0) pe_int (fun _ _ => rfl))) pa_nil))))))))
      (pss_cons (ps_set (i := 1) sc__law_fields.nd rfl (.inl rfl) (pe_op op_cat (pv 1) (pe_lst (pa_cons (pe_exf (pe_ix ix_l (pv 0) pe_int (fun _ _ => rfl))) (pa_cons (pe_exf (pe_ix ix_l (pv 0) pe_int (fun _ _ => rfl))) (pa_cons (pe_exf (pe_ix ix_l (pv 0) pe_int (fun _ _ => rfl))) (pa_cons (pe_exf (pe_ix ix_l (pv 0) pe_int (fun _ _ => rfl))) pa_nil)))))))
      (pss_cons (ps_set (i := 1) sc__law_fields.nd rfl (.inl rfl) (pe_op op_cat (pv 1) (pe_lst (pa_cons (pe_exf (pe_ix ix_l (pv 0) pe_int (fun _ _ => rfl))) (pa_cons (pe_exf (pe_ix ix_l (pv 0) pe_int (fun _ _ => rfl))) (pa_cons (pe_exf (pe_ix ix_l (pv 0) pe_int (fun _ _ => rfl))) (pa_cons (pe_exf (pe_ix ix_l (pv 0) pe_int (fun _ _ => rfl))) pa_nil)))))))
      (pss_one (ps_ret (pe_op op_cat (pv 1) (pe_lst (pa_cons (pe_exf (pe_ix ix_l (pv 0) pe_int (fun _ _ => rfl))) (pa_cons (pe_exf (pe_ix ix_l (pv 0) pe_int (fun _ _ => rfl))) (pa_cons (pe_exf (pe_ix ix_l (pv 0) pe_int (fun _ _ => rfl))) pa_nil))))))))))), ?_⟩)
  · obtain ⟨a, xs, v, ex, rfl, _⟩ := h
    rfl
  · obtain ⟨a, xs, v, ex, rfl, ha, pr, q⟩ := h
    refine st_lst mono_RV (els_cons mono_RV (el_fld 0 0 rfl rfl ha pr rfl er.InvalidSize.xf er.InvalidSize.nf) (els_cons mono_RV (el_fld 1 1 rfl rfl ha pr rfl er.InvalidMachine.xf er.InvalidMachine.nf) (els_cons mono_RV (el_fld 2 2 rfl rfl ha pr rfl er.InvalidRow.xf er.InvalidRow.nf) (els_cons mono_RV (el_fld 3 3 rfl rfl ha pr rfl er.InvalidMap.xf er.InvalidMap.nf) (els_cons mono_RV (el_fld 4 4 rfl rfl ha pr rfl er.NotASetting.xf er.NotASetting.nf) els_nil))))) (Nat.le_of_ble_eq_true rfl) fun a1 xs1 H1 f1 e1 p1 => ?_
    have g1 := f1
    refine st_cat mono_RV rfl e1 p1 (els_cons mono_RV (el_fld 5 5 rfl rfl (g1.all ha) (paired_fx mono_RE g1 pr) rfl er.InvalidExpression.xf er.InvalidExpression.nf) (els_cons mono_RV (el_fld 6 6 rfl rfl (g1.all ha) (paired_fx mono_RE g1 pr) rfl er.InvalidForm.xf er.InvalidForm.nf) (els_cons mono_RV (el_fld 7 7 rfl rfl (g1.all ha) (paired_fx mono_RE g1 pr) rfl er.InvalidRange.xf er.InvalidRange.nf) (els_cons mono_RV (el_fld 8 8 rfl rfl (g1.all ha) (paired_fx mono_RE g1 pr) rfl er.InvalidRecipe.xf er.InvalidRecipe.nf) (els_cons mono_RV (el_fld 9 9 rfl rfl (g1.all ha) (paired_fx mono_RE g1 pr) rfl er.InvalidMaps.xf er.InvalidMaps.nf) els_nil))))) (Nat.le_of_ble_eq_true rfl) fun a2 xs2 H2 f2 e2 p2 => ?_
    have g2 := g1.trans f2
    refine st_cat mono_RV rfl e2 p2 (els_cons mono_RV (el_fld 10 10 rfl rfl (g2.all ha) (paired_fx mono_RE g2 pr) rfl er.InvalidAsks.xf er.InvalidAsks.nf) (els_cons mono_RV (el_fld 11 11 rfl rfl (g2.all ha) (paired_fx mono_RE g2 pr) rfl er.NoSuchDeed.xf er.NoSuchDeed.nf) (els_cons mono_RV (el_fld 12 12 rfl rfl (g2.all ha) (paired_fx mono_RE g2 pr) rfl er.NoSuchAsk.xf er.NoSuchAsk.nf) (els_cons mono_RV (el_fld 13 13 rfl rfl (g2.all ha) (paired_fx mono_RE g2 pr) rfl er.InvalidTurning.xf er.InvalidTurning.nf) els_nil)))) (Nat.le_of_ble_eq_true rfl) fun a3 xs3 H3 f3 e3 p3 => ?_
    have g3 := g2.trans f3
    refine st_cat mono_RV rfl e3 p3 (els_cons mono_RV (el_fld 14 14 rfl rfl (g3.all ha) (paired_fx mono_RE g3 pr) rfl er.InvalidDeeds.xf er.InvalidDeeds.nf) (els_cons mono_RV (el_fld 15 15 rfl rfl (g3.all ha) (paired_fx mono_RE g3 pr) rfl er.InvalidPlan.xf er.InvalidPlan.nf) (els_cons mono_RV (el_fld 16 16 rfl rfl (g3.all ha) (paired_fx mono_RE g3 pr) rfl er.NotMade.xf er.NotMade.nf) (els_cons mono_RV (el_fld 17 17 rfl rfl (g3.all ha) (paired_fx mono_RE g3 pr) rfl er.InvalidLength.xf er.InvalidLength.nf) els_nil)))) (Nat.le_of_ble_eq_true rfl) fun a4 xs4 H4 f4 e4 p4 => ?_
    have g4 := g3.trans f4
    refine rt_cat mono_RV rfl e4 p4 (els_cons mono_RV (el_fld 18 18 rfl rfl (g4.all ha) (paired_fx mono_RE g4 pr) rfl er.InvalidTable.xf er.InvalidTable.nf) (els_cons mono_RV (el_fld 19 19 rfl rfl (g4.all ha) (paired_fx mono_RE g4 pr) rfl er.InvalidTags.xf er.InvalidTags.nf) (els_cons mono_RV (el_fld 20 20 rfl rfl (g4.all ha) (paired_fx mono_RE g4 pr) rfl er.Unreadable.xf er.Unreadable.nf) els_nil))) (Nat.le_of_ble_eq_true rfl) fun a5 xs5 H5 f5 e5 p5 => ?_
    have g5 := g4.trans f5
    have t := rv_eq p5
    subst t
    exact q _ _ g5 e5
theorem ok_classes (z : Z mg) (er : Er P w K mg base cs) {f : Addr} {fd : FuncData} (F : Fun K "_law_classes" "_law_classes" s__law_classes f fd) : FnOk P w K mg base CX0 1 f fd ["_law_error"] (spClasses cs) := by
  refine F.ok sc__law_classes (fun vs H Q E h => ?_) (fun cdv A outer s H vs Q E hr h => ⟨_, (pss_cons (ps_set (i := 1) sc__law_classes.nd rfl (.inl rfl) (pe_lst (pa_cons (pe_callB (call_isF K rfl) (by rfl) z.isinstance (by decide +kernel) (pa_cons (pv 0) (pa_cons (pe_glob (v := .ref (cs 0)) rfl er.InvalidSize.gl rfl) pa_nil))) (pa_cons (pe_callB (call_isF K rfl) (by rfl) z.isinstance (by decide +kernel) (pa_cons (pv 0) (pa_cons (pe_glob (v := .ref (cs 1)) rfl er.InvalidMachine.gl rfl) pa_nil))) pa_nil))))
      (pss_cons (ps_set (i := 1) sc__law_classes.nd rfl (.inl rfl) (pe_op op_cat (pv 1) (pe_lst (pa_cons (pe_callB (call_isF K rfl) (by rfl) z.isinstance (by decide +kernel) (pa_cons (pv 0) (pa_cons (pe_glob (v := .ref (cs 2)) rfl er.InvalidRow.gl rfl) pa_nil))) (pa_cons (pe_callB (call_isF K rfl) (by rfl) z.isinstance (by decide +kernel) (pa_cons (pv 0) (pa_cons (pe_glob (v := .ref (cs 3)) rfl er.InvalidMap.gl rfl) pa_nil))) pa_nil)))))
      (pss_cons (ps_set (i := 1) sc__law_classes.nd rfl (.inl rfl) (pe_op op_cat (pv 1) (pe_lst (pa_cons (pe_callB (call_isF K rfl) (by rfl) z.isinstance (by decide +kernel) (pa_cons (pv 0) (pa_cons (pe_glob (v := .ref (cs 4)) rfl er.NotASetting.gl rfl) pa_nil))) (pa_cons (pe_callB (call_isF K rfl) (by rfl) z.isinstance (by decide +kernel) (pa_cons (pv 0) (pa_cons (pe_glob (v := .ref (cs 5)) rfl er.InvalidExpression.gl rfl) pa_nil))) pa_nil)))))
      (pss_cons (ps_set (i := 1) sc__law_classes.nd rfl (.inl rfl) (pe_op op_cat (pv 1) (pe_lst (pa_cons (pe_callB (call_isF K rfl) (by rfl) z.isinstance (by decide +kernel) (pa_cons (pv 0) (pa_cons (pe_glob (v := .ref (cs 6)) rfl er.InvalidForm.gl rfl) pa_nil))) (pa_cons (pe_callB (call_isF K rfl) (by rfl) z.isinstance (by decide +kernel) (pa_cons (pv 0) (pa_cons (pe_glob (v := .ref (cs 7)) rfl er.InvalidRange.gl rfl) pa_nil))) pa_nil)))))
      (pss_cons (ps_set (i := 1) sc__law_classes.nd rfl (.inl rfl) (pe_op op_cat (pv 1) (pe_lst (pa_cons (pe_callB (call_isF K rfl) (by rfl) z.isinstance (by decide +kernel) (pa_cons (pv 0) (pa_cons (pe_glob (v := .ref (cs 8)) rfl er.InvalidRecipe.gl rfl) pa_nil))) (pa_cons (pe_callB (call_isF K rfl) (by rfl) z.isinstance (by decide +kernel) (pa_cons (pv 0) (pa_cons (pe_glob (v := .ref (cs 9)) rfl er.InvalidMaps.gl rfl) pa_nil))) pa_nil)))))
      (pss_cons (ps_set (i := 1) sc__law_classes.nd rfl (.inl rfl) (pe_op op_cat (pv 1) (pe_lst (pa_cons (pe_callB (call_isF K rfl) (by rfl) z.isinstance (by decide +kernel) (pa_cons (pv 0) (pa_cons (pe_glob (v := .ref (cs 10)) rfl er.InvalidAsks.gl rfl) pa_nil))) (pa_cons (pe_callB (call_isF K rfl) (by rfl) z.isinstance (by decide +kernel) (pa_cons (pv 0) (pa_cons (pe_glob (v := .ref (cs 11)) rfl er.NoSuchDeed.gl rfl) pa_nil))) pa_nil)))))
      (pss_cons (ps_set (i := 1) sc__law_classes.nd rfl (.inl rfl) (pe_op op_cat (pv 1) (pe_lst (pa_cons (pe_callB (call_isF K rfl) (by rfl) z.isinstance (by decide +kernel) (pa_cons (pv 0) (pa_cons (pe_glob (v := .ref (cs 12)) rfl er.NoSuchAsk.gl rfl) pa_nil))) (pa_cons (pe_callB (call_isF K rfl) (by rfl) z.isinstance (by decide +kernel) (pa_cons (pv 0) (pa_cons (pe_glob (v := .ref (cs 13)) rfl er.InvalidTurning.gl rfl) pa_nil))) pa_nil)))))
      (pss_cons (ps_set (i := 1) sc__law_classes.nd rfl (.inl rfl) (pe_op op_cat (pv 1) (pe_lst (pa_cons (pe_callB (call_isF K rfl) (by rfl) z.isinstance (by decide +kernel) (pa_cons (pv 0) (pa_cons (pe_glob (v := .ref (cs 14)) rfl er.InvalidDeeds.gl rfl) pa_nil))) (pa_cons (pe_callB (call_isF K rfl) (by rfl) z.isinstance (by decide +kernel) (pa_cons (pv 0) (pa_cons (pe_glob (v := .ref (cs 15)) rfl er.InvalidPlan.gl rfl) pa_nil))) pa_nil)))))
      (pss_cons (ps_set (i := 1) sc__law_classes.nd rfl (.inl rfl) (pe_op op_cat (pv 1) (pe_lst (pa_cons (pe_callB (call_isF K rfl) (by rfl) z.isinstance (by decide +kernel) (pa_cons (pv 0) (pa_cons (pe_glob (v := .ref (cs 16)) rfl er.NotMade.gl rfl) pa_nil))) (pa_cons (pe_callB (call_isF K rfl) (by rfl) z.isinstance (by decide +kernel) (pa_cons (pv 0) (pa_cons (pe_glob (v := .ref (cs 17)) rfl er.InvalidLength.gl rfl) pa_nil))) pa_nil)))))
      (pss_cons (ps_set (i := 1) sc__law_classes.nd rfl (.inl rfl) (pe_op op_cat (pv 1) (pe_lst (pa_cons (pe_callB (call_isF K rfl) (by rfl) z.isinstance (by decide +kernel) (pa_cons (pv 0) (pa_cons (pe_glob (v := .ref (cs 18)) rfl er.InvalidTable.gl rfl) pa_nil))) (pa_cons (pe_callB (call_isF K rfl) (by rfl) z.isinstance (by decide +kernel) (pa_cons (pv 0) (pa_cons (pe_glob (v := .ref (cs 19)) rfl er.InvalidTags.gl rfl) pa_nil))) pa_nil)))))
      (pss_cons (ps_set (i := 1) sc__law_classes.nd rfl (.inl rfl) (pe_op op_cat (pv 1) (pe_lst (pa_cons (pe_callB (call_isF K rfl) (by rfl) z.isinstance (by decide +kernel) (pa_cons (pv 0) (pa_cons (pe_glob (v := .ref (cs 20)) rfl er.Unreadable.gl rfl) pa_nil))) (pa_cons (pe_callB (call_isF K rfl) (by rfl) z.isinstance (by decide +kernel) (pa_cons (pv 0) (pa_cons (pe_glob (v := .ref (cs 21)) rfl er.g_TooMany rfl) pa_nil))) pa_nil)))))
      (pss_one (ps_ret (pe_op op_cat (pv 1) (pe_lst (pa_cons (pe_callB (call_isF K rfl) (by rfl) z.isinstance (by decide +kernel) (pa_cons (pv 0) (pa_cons (pe_glob (v := .ref (cs 22)) rfl er.g_NothingToUndo rfl) pa_nil))) pa_nil)))))))))))))))), ?_⟩)
  · obtain ⟨a, i, fs, rfl, _⟩ := h
    rfl
  · obtain ⟨a, i, fs, rfl, hi, ie, q⟩ := h
    refine st_lst mono_RV (els_cons mono_RV (el_is rfl ie (er.exc i (by omega)) (er.tab i 0 hi (by decide))) (els_cons mono_RV (el_is rfl ie (er.exc i (by omega)) (er.tab i 1 hi (by decide))) els_nil)) (Nat.le_of_ble_eq_true rfl) fun a1 xs1 H1 f1 e1 p1 => ?_
    have g1 := f1
    refine st_cat mono_RV rfl e1 p1 (els_cons mono_RV (el_is rfl (g1.isEx ie) (er.exc i (by omega)) (er.tab i 2 hi (by decide))) (els_cons mono_RV (el_is rfl (g1.isEx ie) (er.exc i (by omega)) (er.tab i 3 hi (by decide))) els_nil)) (Nat.le_of_ble_eq_true rfl) fun a2 xs2 H2 f2 e2 p2 => ?_
    have g2 := g1.trans f2
    refine st_cat mono_RV rfl e2 p2 (els_cons mono_RV (el_is rfl (g2.isEx ie) (er.exc i (by omega)) (er.tab i 4 hi (by decide))) (els_cons mono_RV (el_is rfl (g2.isEx ie) (er.exc i (by omega)) (er.tab i 5 hi (by decide))) els_nil)) (Nat.le_of_ble_eq_true rfl) fun a3 xs3 H3 f3 e3 p3 => ?_
    have g3 := g2.trans f3
    refine st_cat mono_RV rfl e3 p3 (els_cons mono_RV (el_is rfl (g3.isEx ie) (er.exc i (by omega)) (er.tab i 6 hi (by decide))) (els_cons mono_RV (el_is rfl (g3.isEx ie) (er.exc i (by omega)) (er.tab i 7 hi (by decide))) els_nil)) (Nat.le_of_ble_eq_true rfl) fun a4 xs4 H4 f4 e4 p4 => ?_
    have g4 := g3.trans f4
    refine st_cat mono_RV rfl e4 p4 (els_cons mono_RV (el_is rfl (g4.isEx ie) (er.exc i (by omega)) (er.tab i 8 hi (by decide))) (els_cons mono_RV (el_is rfl (g4.isEx ie) (er.exc i (by omega)) (er.tab i 9 hi (by decide))) els_nil)) (Nat.le_of_ble_eq_true rfl) fun a5 xs5 H5 f5 e5 p5 => ?_
    have g5 := g4.trans f5
    refine st_cat mono_RV rfl e5 p5 (els_cons mono_RV (el_is rfl (g5.isEx ie) (er.exc i (by omega)) (er.tab i 10 hi (by decide))) (els_cons mono_RV (el_is rfl (g5.isEx ie) (er.exc i (by omega)) (er.tab i 11 hi (by decide))) els_nil)) (Nat.le_of_ble_eq_true rfl) fun a6 xs6 H6 f6 e6 p6 => ?_
    have g6 := g5.trans f6
    refine st_cat mono_RV rfl e6 p6 (els_cons mono_RV (el_is rfl (g6.isEx ie) (er.exc i (by omega)) (er.tab i 12 hi (by decide))) (els_cons mono_RV (el_is rfl (g6.isEx ie) (er.exc i (by omega)) (er.tab i 13 hi (by decide))) els_nil)) (Nat.le_of_ble_eq_true rfl) fun a7 xs7 H7 f7 e7 p7 => ?_
    have g7 := g6.trans f7
    refine st_cat mono_RV rfl e7 p7 (els_cons mono_RV (el_is rfl (g7.isEx ie) (er.exc i (by omega)) (er.tab i 14 hi (by decide))) (els_cons mono_RV (el_is rfl (g7.isEx ie) (er.exc i (by omega)) (er.tab i 15 hi (by decide))) els_nil)) (Nat.le_of_ble_eq_true rfl) fun a8 xs8 H8 f8 e8 p8 => ?_
    have g8 := g7.trans f8
    refine st_cat mono_RV rfl e8 p8 (els_cons mono_RV (el_is rfl (g8.isEx ie) (er.exc i (by omega)) (er.tab i 16 hi (by decide))) (els_cons mono_RV (el_is rfl (g8.isEx ie) (er.exc i (by omega)) (er.tab i 17 hi (by decide))) els_nil)) (Nat.le_of_ble_eq_true rfl) fun a9 xs9 H9 f9 e9 p9 => ?_
    have g9 := g8.trans f9
    refine st_cat mono_RV rfl e9 p9 (els_cons mono_RV (el_is rfl (g9.isEx ie) (er.exc i (by omega)) (er.tab i 18 hi (by decide))) (els_cons mono_RV (el_is rfl (g9.isEx ie) (er.exc i (by omega)) (er.tab i 19 hi (by decide))) els_nil)) (Nat.le_of_ble_eq_true rfl) fun a10 xs10 H10 f10 e10 p10 => ?_
    have g10 := g9.trans f10
    refine st_cat mono_RV rfl e10 p10 (els_cons mono_RV (el_is rfl (g10.isEx ie) (er.exc i (by omega)) (er.tab i 20 hi (by decide))) (els_cons mono_RV (el_is rfl (g10.isEx ie) (er.exc i (by omega)) (er.tab i 21 hi (by decide))) els_nil)) (Nat.le_of_ble_eq_true rfl) fun a11 xs11 H11 f11 e11 p11 => ?_
    have g11 := g10.trans f11
    refine rt_cat mono_RV rfl e11 p11 (els_cons mono_RV (el_is rfl (g11.isEx ie) (er.exc i (by omega)) (er.tab i 22 hi (by decide))) els_nil) (Nat.le_of_ble_eq_true rfl) fun a12 xs12 H12 f12 e12 p12 => ?_
    have g12 := g11.trans f12
    have t := rv_eq p12
    subst t
    exact q _ _ g12 e12
end

end K06
namespace K06
open PySem PySem.Spec PyProof.Rows L2 LT
section
variable {P : Program} {w : World} {K : PySem.W.Frag} {mg : Str → Option Value} {base : Heap} {cs : Nat → Addr}
theorem paired_nth' {A B : Type} {F : A → B → Prop} : ∀ {ps : List A} {xs : List B} {i : Nat} {x : B}, Paired F ps xs → xs[i]? = some x → ∃ p, ps[i]? = some p ∧ F p x
  | _, _, 0, _, .cons h _, e => by
    cases e
    exact ⟨_, rfl, h⟩
  | _, _, i + 1, _, .cons _ r, e => paired_nth' (i := i) r e
theorem tab0_at {i : Nat} {p : Addr × List (Str × V)} (h : (tab0 cs)[i]? = some p) : i < 23 ∧ p.1 = cs i := by
  have e : (tab0 cs).map Prod.fst = (List.range 23).map cs := rfl
  have e1 : ((tab0 cs).map Prod.fst)[i]? = some p.1 := by rw [List.getElem?_map, h]; rfl
  rw [e, List.getElem?_map] at e1
  have hl : i < 23 := by
    by_cases hi : i < 23
    · exact hi
    · rw [List.getElem?_eq_none (by rw [List.length_range]; omega)] at e1
      cases e1
  rw [List.getElem?_range hl] at e1
  exact ⟨hl, (Option.some.inj e1).symm⟩
theorem is_err {H : Hp} {C a : Addr} {fs : List (Str × V)} {c : V} {u : Value} {b : Bool} {Q : VK} (ie : IsEx H C a fs) (ec : ExcC K C) (k : ClsV c u) (hk : PySem.W.kitOne K (.ref C) u = some b) (q : Q (.bl b) H) : rIsF K [.ref a, c] H Q :=
  ⟨.ref a, c, .ref C, u, b, rfl, k, .own (.exc ie ec), hk, q⟩
theorem seq_fx {t u : TS} {Dn : Ends} {σ : L2.St} {H : Hp} (F : ∀ rest : L2.St → Hp → Prop, (∀ H3, Fx [] H H3 → rest σ H3) → t { Dn with nx := rest } σ H) (h : ∀ H3, Fx [] H H3 → u Dn σ H3) : tSeq t u Dn σ H := F (u Dn) h
section
variable {H0 : Hp} {σ : L2.St} {j : Nat} {v : V} {tl tr : TE} {ls : List (List V)} {h : Addr} {hs : List V} {pss : List (List (Addr × List (Str × V)))}
theorem el_by (hσ : σ[j]? = some (some v)) : El (IsL RE) H0 σ (tCall (spBy cs) [] E0 (tCons (tVar j) tNil)) (tab cs v) := fun H Q _ q => ⟨v, hσ, v, rfl, fun a xs H' f e p => q _ H' f ⟨a, xs, rfl, e, p⟩⟩
theorem el_bare : El (IsL RE) H0 σ (tCall (spBare cs) [] E0 tNil) (tab0 cs) := fun H Q _ q => ⟨rfl, fun a xs H' f e p => q _ H' f ⟨a, xs, rfl, e, p⟩⟩
theorem el_flds (i : Nat) (n : Int) (hn : n = i) (hσ : σ[j]? = some (some (.ref h))) (ha : H0 h = some (.lst hs)) (pr : Paired (IsL RE H0) pss hs) (hp : pss[i]? = some (tab cs v)) :
    El IsV H0 σ (tCall (spFields cs) [] E0 (tCons (tOp rIxl (tVar j) (tC (.int n))) tNil)) (List.replicate 21 v) := by
  intro H Q fx q
  subst hn
  obtain ⟨x, hx, a, xs, rfl, e, p⟩ := paired_nth (paired_fx (mono_IsL mono_RE) fx pr) hp
  exact ⟨_, hσ, h, hs, _, .ref a, rfl, rfl, fx.all ha, atI_nat hx, a, xs, v, [], rfl, e, (by rw [List.append_nil]; exact p), fun b H' f' e' => q _ _ f' ⟨b, rfl, e'⟩⟩
theorem el_ne {Q : VK} (l : El (IsL IsV) H0 σ tl ls) (r : El (IsL IsV) H0 σ tr ls) (ok : ∀ l ∈ ls, ∀ x ∈ l, flatB x = true ∨ ∃ a, x = .ref a) (q : ∀ H', Fx [] H0 H' → Q (.bl false) H') : tOp (rLsT K false) tl tr σ H0 Q :=
  l H0 _ (Fx.refl _ _) fun x H1 f1 ⟨a, xs, ex, e, p⟩ => r H1 _ f1 fun y H2 f2 ⟨b, ys, ey, e', p'⟩ =>
    ⟨a, b, xs, ys, 2, ex, ey, SqL.of (f2.all e), SqL.of e', by decide, isV_eq (paired_fx mono_IsV f2 p) p' ok, q _ (f1.trans f2)⟩
end
theorem for_rng {wi : TI} {g : TG} {tb : TS} {Dn : Ends} {σ : L2.St} {H : Hp} {T : Nat → Prop} (F : ∀ go : It → Hp → Prop, (∀ n, T n → go (Itr 0 n) H) → wi σ H go) (h : ∀ n, T n → ForGo (Itr 0 n) g tb Dn σ H) : tFor wi g tb Dn σ H := F (fun J H1 => ForGo J g tb Dn σ H1) h
def spLaw (K : PySem.W.Frag) : Sp := fun vs H Q _ => ∃ (a : Addr) (ns : List Int), vs = [.ref a] ∧ SqL K H a (ns.map V.int) ∧ ns.length ≤ 63 ∧ ∀ H', Q (.bl true) H'
theorem ok_law (z : Z mg) (er : Er P w K mg base cs) (c__law_purse : Cal P w K mg base CX0 "_law_purse" 1 ["_law_script", "_law_at"] (spPurse K)) (c__law_draw : Cal P w K mg base CX0 "_law_draw" 2 ["_law_purse_here", "_law_out_of"] spDraw)
    (c__law_by_place : Cal P w K mg base CX0 "_law_by_place" 3 ["_law_item"] (spBy cs)) (c__law_by_name : Cal P w K mg base CX0 "_law_by_name" 3 ["_law_item"] (spBy cs)) (c__law_bare : Cal P w K mg base CX0 "_law_bare" 3 [] (spBare cs))
    (c__law_fields : Cal P w K mg base CX0 "_law_fields" 1 ["_law_errors"] (spFields cs)) (c__law_classes : Cal P w K mg base CX0 "_law_classes" 1 ["_law_error"] (spClasses cs))
    {f : Addr} {fd : FuncData} (F : Fun K "law" "law" s_law f fd) : FnOk P w K mg base CX0 6 f fd ["_law_script"] (spLaw K) := by
  refine F.ok sc_law (fun vs H Q E h => ?_) (fun cdv A outer s H vs Q E hr h => ⟨_, (pss_cons (ps_set (i := 1) sc_law.nd rfl (.inl rfl) (pe_cal0 c__law_bare hr rfl pass0))
      (pss_cons (ps_for PassesOwn.never rfl (pi_enum (by rfl) z.enumerate (pa_cons (pv 1) pa_nil)) (pg_tT 2 rfl (pgs_cons (pg_name (i := 2) sc_law.nd rfl (.inr rfl)) (pgs_cons (pg_name (i := 3) sc_law.nd rfl (.inl rfl)) pgs_nil)))
      (pss_cons (ps_if (pt_cmpR (op_neT hr.units) (pe_cal c__law_classes hr rfl pass0 (pa_cons (pv 3) pa_nil)) (pe_lc (own := [("_law_other", 8)]) rfl sc_law.nd (pi_range1 (by rfl) z.range (pa_cons pe_int pa_nil)) (blkOk_by (own := [("_law_other", 8)]) (N := ["_law_script", "_law_some", "_law_k", "_law_error", "_law_at", "_law_purse_here", "_law_things", "_law_item", "_law_other", "_law_held"]) (sc := (defScope s_law)) (by decide +kernel)) (fun _ _ _ _ _ => (pg_name (i := 8) sc_law.nd rfl (.inl rfl))) (fun _ _ _ _ _ => pts_nil) (fun _ _ _ _ _ => (pe_cmpR op_eq (pv 2) (pv 8) (nomark _)))) (nomark _)) (pss_one (ps_ret pe_bl)) pss_nil)
      (pss_one (ps_if (PW.pt (pw_or (pt_not (pt_val (pe_callB (call_isF K rfl) (by rfl) z.isinstance (by decide +kernel) (pa_cons (pv 3) (pa_cons (pe_glob (v := .ref (cs 23)) rfl er.g_LazyError rfl) pa_nil))))) (pw_or1 (pt_not (pt_val (pe_callB (call_isF K rfl) (by rfl) z.isinstance (by decide +kernel) (pa_cons (pv 3) (pa_cons (pe_bltn (v := .ty "ValueError") (by rfl) z.ValueError (by decide +kernel) rfl) pa_nil)))))))) (pss_one (ps_ret pe_bl)) pss_nil))))
      (pss_cons (ps_if (PW.pt (pw_or (pt_not (pt_val (pe_callB (call_isF K rfl) (by rfl) z.isinstance (by decide +kernel) (pa_cons (pe_exc0 PySem.F.excBase_ValueError er.q_LazyError er.g_LazyError er.k_LazyError rfl) (pa_cons (pe_bltn (v := .ty "ValueError") (by rfl) z.ValueError (by decide +kernel) rfl) pa_nil))))) (pw_or (pt_val (pe_callB (call_isF K rfl) (by rfl) z.isinstance (by decide +kernel) (pa_cons (pe_callTy0 call_mkB (by rfl) z.ValueError (by rfl)) (pa_cons (pe_glob (v := .ref (cs 23)) rfl er.g_LazyError rfl) pa_nil)))) (pw_or1 (pt_cmpR op_ne (pe_callB call_lenL (by rfl) z.len (by decide +kernel) (pa_cons (pe_cal c__law_fields hr rfl pass0 (pa_cons (pv 1) pa_nil)) pa_nil)) pe_int (nomark _)))))) (pss_one (ps_ret pe_bl)) pss_nil)
      (pss_cons (ps_for PassesOwn.never rfl (pi_range1 (by rfl) z.range (pa_cons (pe_op op_add pe_int (pe_callB (call_min2 rfl) (by rfl) z.min (by decide +kernel) (pa_cons pe_int (pa_cons (pe_callB call_len_seq (by rfl) z.len (by decide +kernel) (pa_cons (pv 0) pa_nil)) pa_nil)))) pa_nil)) (pg_name (i := 4) sc_law.nd rfl (.inl rfl))
      (pss_cons (ps_set (i := 5) sc_law.nd rfl (.inl rfl) (pe_cal c__law_purse hr rfl pass0 (pa_cons (pv 0) (pa_cons (pv 4) pa_nil))))
      (pss_cons (ps_set (i := 6) sc_law.nd rfl (.inl rfl) (pe_lst (pa_cons pe_non (pa_cons pe_int (pa_cons pe_str (pa_cons pe_str (pa_cons (pe_tup (pa_cons pe_int (pa_cons pe_int pa_nil))) (pa_cons (pe_lst (pa_cons pe_int (pa_cons (pe_lst (pa_cons pe_int pa_nil)) pa_nil))) (pa_cons (pe_disp (pps_cons pe_str pe_int pps_nil) rfl rfl (fun z => nomatch z) (by decide)) (pa_cons pe_bl (pa_cons (pe_un un_neg pe_int) (pa_cons (pe_op op_powB pe_int pe_int) (pa_cons (pe_tup (pa_cons pe_str (pa_cons pe_str (pa_cons (pe_tup (pa_cons pe_str pa_nil)) pa_nil)))) (pa_cons (pe_tup pa_nil) pa_nil))))))))))))))
      (pss_cons (ps_par (i := 7) (j := 8) (by rfl) sc_law.nd rfl rfl (by decide) rfl rfl (pa_cons (pe_ix ix_l (pv 6) (pe_cal c__law_draw hr rfl pass0 (pa_cons (pv 5) (pa_cons pe_int pa_nil))) (fun _ _ => rfl)) (pa_cons (pe_ix ix_l (pv 6) (pe_cal c__law_draw hr rfl pass0 (pa_cons (pv 5) (pa_cons pe_int pa_nil))) (fun _ _ => rfl)) pa_nil)) (by rfl))
      (pss_cons (ps_set (i := 9) sc_law.nd rfl (.inl rfl) (pe_lst (pa_cons (pe_cal c__law_by_place hr rfl pass0 (pa_cons (pv 7) pa_nil)) (pa_cons (pe_cal c__law_by_name hr rfl pass0 (pa_cons (pv 8) pa_nil)) (pa_cons (pe_cal0 c__law_bare hr rfl pass0) (pa_cons (pe_cal c__law_by_place hr rfl pass0 (pa_cons (pv 8) pa_nil)) (pa_cons (pe_cal c__law_by_name hr rfl pass0 (pa_cons (pv 7) pa_nil)) pa_nil)))))))
      (pss_cons (ps_if (pt_cmpR (op_neT hr.units) (pe_lst (pa_cons (pe_cal c__law_fields hr rfl pass0 (pa_cons (pe_ix ix_l (pv 9) pe_int (fun _ _ => rfl)) pa_nil)) (pa_cons (pe_cal c__law_fields hr rfl pass0 (pa_cons (pe_ix ix_l (pv 9) pe_int (fun _ _ => rfl)) pa_nil)) pa_nil))) (pe_lst (pa_cons (pe_op op_rep (pe_lst (pa_cons (pv 7) pa_nil)) pe_int) (pa_cons (pe_op op_rep (pe_lst (pa_cons (pv 8) pa_nil)) pe_int) pa_nil))) (nomark _)) (pss_one (ps_ret pe_bl)) pss_nil)
      (pss_one (ps_if (pt_cmpR (op_neT hr.units) (pe_lst (pa_cons (pe_cal c__law_fields hr rfl pass0 (pa_cons (pe_ix ix_l (pv 9) pe_int (fun _ _ => rfl)) pa_nil)) (pa_cons (pe_cal c__law_fields hr rfl pass0 (pa_cons (pe_ix ix_l (pv 9) pe_int (fun _ _ => rfl)) pa_nil)) pa_nil))) (pe_lst (pa_cons (pe_op op_rep (pe_lst (pa_cons (pv 8) pa_nil)) pe_int) (pa_cons (pe_op op_rep (pe_lst (pa_cons (pv 7) pa_nil)) pe_int) pa_nil))) (nomark _)) (pss_one (ps_ret pe_bl)) pss_nil))))))))
      (pss_one (ps_ret pe_bl)))))), ?_⟩)
  · obtain ⟨a, ns, rfl, _⟩ := h
    rfl
  · obtain ⟨a, ns, rfl, hS, hl, q⟩ := h
    refine ⟨rfl, fun a1 xs1 H1 f1 e1 p1 => ?_⟩
    refine ⟨_, rfl, a1, xs1, rfl, SqL.of e1, ?_⟩
    refine for_go (walk_enum (xs := xs1)) (fun i σ H' => Fx [] H1 H' ∧ ∃ x2 x3, σ = [some (.ref a), some (.ref a1), x2, x3, none, none, none, none, none, none]) ⟨Fx.refl _ _, none, none, rfl⟩ ?_ ?_ ?_
    · rintro i σ H' hi ⟨fx, _⟩
      exact fx.sql (SqL.of e1)
    · rintro i x σ H2 H3 hi ⟨fx, x2, x3, rfl⟩ ⟨T, y1, y2, rfl, hT, rfl, g1, g2⟩
      cases Option.some.inj g1
      obtain ⟨pr, hp, b, rfl, ie⟩ := paired_nth' p1 g2
      obtain ⟨i23, ec⟩ := tab0_at hp
      have f3 : Fx [] H1 (upd H2 T (.tup [.int i, .ref b])) := fx.trans (Fx.new _ hT)
      simp only [tSeq, tAsg, tOp, tUn, tCB, tCons, tNil, tVar, tC, rI, rI0, rU, tRet, tRetN, gName, tIfS, tTest, tIf, tB, tNot, tAnd, tOr, tAndV, tOrV, tNotV, tCmp, t2I, tLst, tTup, tCall, tCalK0, tNext, tChain, tSl, tPart, tNoPart, tPar, tDrop, gSub, gTupT, gCons, gNil, rSetL, rIxl, rIxt, rSlt, rEq, rNe, L2.start, tLc_eq, tFor_eq, iTup, iList, iRng1, iRng2, iEnumT, tYes, pts_nil,
  List.map_cons, List.map_nil, List.length_cons, List.length_nil, List.replicate_succ, List.replicate_zero, Nat.reduceAdd, Nat.reduceSub, Nat.add_zero, Nat.zero_add, List.cons_append, List.nil_append, List.append_nil, List.getElem?_cons_zero, List.getElem?_cons_succ, List.set_cons_zero, List.set_cons_succ, wipe,
  Option.some.injEq, exists_eq_left', exists_eq_left, V.int.injEq, V.bl.injEq, V.str.injEq, V.ref.injEq, HO.lst.injEq, HO.tup.injEq, List.cons.injEq, and_true, true_and, reduceCtorEq, false_or, or_false, false_and, and_false, exists_false, exists_and_left, exists_eq, and_assoc, if_true, if_false, Bool.false_eq_true, decide_eq_true_eq, upd_same]
      refine ⟨b, i, pr.2, rfl, i23, ec ▸ f3.isEx ie, fun c H4 f4 e4 => ?_⟩
      refine ⟨by decide, by decide, fun D hD => ?_⟩
      refine lc_new (M := []) walk_range (by decide) hD (fun b z => nomatch z) (fun j H ys => ys = (List.range j).map fun k => V.bl (decide (i = k))) (fun _ _ _ _ _ _ z => z) rfl ?_ ?_ ?_
      · intros; trivial
      · rintro j x H5 H6 ys N N' hj f6 rfl ⟨rfl, rfl⟩ hN hN'
        simp only [tSeq, tAsg, tOp, tUn, tCB, tCons, tNil, tVar, tC, rI, rI0, rU, tRet, tRetN, gName, tIfS, tTest, tIf, tB, tNot, tAnd, tOr, tAndV, tOrV, tNotV, tCmp, t2I, tLst, tTup, tCall, tCalK0, tNext, tChain, tSl, tPart, tNoPart, tPar, tDrop, gSub, gTupT, gCons, gNil, rSetL, rIxl, rIxt, rSlt, rEq, rNe, L2.start, tLc_eq, tFor_eq, iTup, iList, iRng1, iRng2, iEnumT, tYes, pts_nil,
  List.map_cons, List.map_nil, List.length_cons, List.length_nil, List.replicate_succ, List.replicate_zero, Nat.reduceAdd, Nat.reduceSub, Nat.add_zero, Nat.zero_add, List.cons_append, List.nil_append, List.append_nil, List.getElem?_cons_zero, List.getElem?_cons_succ, List.set_cons_zero, List.set_cons_succ, wipe,
  Option.some.injEq, exists_eq_left', exists_eq_left, V.int.injEq, V.bl.injEq, V.str.injEq, V.ref.injEq, HO.lst.injEq, HO.tup.injEq, List.cons.injEq, and_true, true_and, reduceCtorEq, false_or, or_false, false_and, and_false, exists_false, exists_and_left, exists_eq, and_assoc, if_true, if_false, Bool.false_eq_true, decide_eq_true_eq, upd_same]
        refine ⟨rfl, hN _ _ (Fx.refl _ _) ?_⟩
        rw [List.range_succ, List.map_append]
        have e : decide ((i : Int) = 0 + (j : Int)) = decide (i = j) := decide_eq_decide.mpr (by omega)
        rw [e]
        rfl
      · rintro H7 ys f7 rfl eD
        have f8 := f3.trans (f4.trans f7)
        refine ⟨c, D, _, _, 1, rfl, rfl, SqL.of (f7.all e4), SqL.of eD, by decide, paired_refl (n := 0) (fun x hx => ?_), false, rfl, ?_⟩
        · obtain ⟨k, _, rfl⟩ := List.mem_map.mp hx
          exact .inl rfl
        · rw [if_neg (by decide)]
          have ie8 : IsEx H7 (cs i) b pr.2 := ec ▸ f8.isEx ie
          obtain ⟨b1, b2⟩ := er.below i (by omega)
          refine is_err ie8 (er.exc i (by omega)) (.own _) b1 ⟨true, rfl, ?_⟩
          rw [if_neg (by decide)]
          refine is_err ie8 (er.exc i (by omega)) (.ty _) b2 ⟨true, rfl, ?_⟩
          rw [if_neg (by decide)]
          exact ⟨f8, _, rfl⟩
    · rintro σ H2 ⟨fx, x2, x3, rfl⟩
      dsimp only
      refine seq_fx (fun rest hrest => ?_) fun H3 f3 => ?_
      · simp only [tSeq, tAsg, tOp, tUn, tCB, tCons, tNil, tVar, tC, rI, rI0, rU, tRet, tRetN, gName, tIfS, tTest, tIf, tB, tNot, tAnd, tOr, tAndV, tOrV, tNotV, tCmp, t2I, tLst, tTup, tCall, tCalK0, tNext, tChain, tSl, tPart, tNoPart, tPar, tDrop, gSub, gTupT, gCons, gNil, rSetL, rIxl, rIxt, rSlt, rEq, rNe, L2.start, tLc_eq, tFor_eq, iTup, iList, iRng1, iRng2, iEnumT, tYes, pts_nil,
  List.map_cons, List.map_nil, List.length_cons, List.length_nil, List.replicate_succ, List.replicate_zero, Nat.reduceAdd, Nat.reduceSub, Nat.add_zero, Nat.zero_add, List.cons_append, List.nil_append, List.append_nil, List.getElem?_cons_zero, List.getElem?_cons_succ, List.set_cons_zero, List.set_cons_succ, wipe,
  Option.some.injEq, exists_eq_left', exists_eq_left, V.int.injEq, V.bl.injEq, V.str.injEq, V.ref.injEq, HO.lst.injEq, HO.tup.injEq, List.cons.injEq, and_true, true_and, reduceCtorEq, false_or, or_false, false_and, and_false, exists_false, exists_and_left, exists_eq, and_assoc, if_true, if_false, Bool.false_eq_true, decide_eq_true_eq, upd_same]
        intro a0 h0
        have g0 : Fx [] H2 (upd H2 a0 (ExV a0 (.ref (cs 23)) none)) := Fx.new _ h0
        refine is_err (.kept0 upd_same) (er.exc 23 (by omega)) (.ty _) (er.below 23 (by omega)).2 ⟨true, rfl, ?_⟩
        rw [if_neg (by decide)]
        refine ⟨rfl, fun a5 h5 => ?_⟩
        have g5 := g0.trans (Fx.new (o := ExV a5 (.type "ValueError") none) [] h5)
        refine ⟨.ref a5, .ref (cs 23), .type "ValueError", .ref (cs 23), false, rfl, .own _, .blt upd_same, er.notB, false, rfl, ?_⟩
        rw [if_neg (by decide)]
        have g6 := fx.trans g5
        refine ⟨a1, xs1, .non, [(cs 21, []), (cs 22, [])], rfl, g6.all e1, paired_fx mono_RE g6 p1, fun b H4 f4 e4 => ⟨b, rfl, _, e4, rfl, ?_⟩⟩
        rw [if_neg (by rw [List.length_replicate]; decide)]
        exact hrest _ (g5.trans f4)
      · have f13 := fx.trans f3
        refine for_rng (T := fun n => n ≤ 5) (fun go hgo => ?_) fun n hn => ?_
        · simp only [tSeq, tAsg, tOp, tUn, tCB, tCons, tNil, tVar, tC, rI, rI0, rU, tRet, tRetN, gName, tIfS, tTest, tIf, tB, tNot, tAnd, tOr, tAndV, tOrV, tNotV, tCmp, t2I, tLst, tTup, tCall, tCalK0, tNext, tChain, tSl, tPart, tNoPart, tPar, tDrop, gSub, gTupT, gCons, gNil, rSetL, rIxl, rIxt, rSlt, rEq, rNe, L2.start, tLc_eq, tFor_eq, iTup, iList, iRng1, iRng2, iEnumT, tYes, pts_nil,
  List.map_cons, List.map_nil, List.length_cons, List.length_nil, List.replicate_succ, List.replicate_zero, Nat.reduceAdd, Nat.reduceSub, Nat.add_zero, Nat.zero_add, List.cons_append, List.nil_append, List.append_nil, List.getElem?_cons_zero, List.getElem?_cons_succ, List.set_cons_zero, List.set_cons_succ, wipe,
  Option.some.injEq, exists_eq_left', exists_eq_left, V.int.injEq, V.bl.injEq, V.str.injEq, V.ref.injEq, HO.lst.injEq, HO.tup.injEq, List.cons.injEq, and_true, true_and, reduceCtorEq, false_or, or_false, false_and, and_false, exists_false, exists_and_left, exists_eq, and_assoc, if_true, if_false, Bool.false_eq_true, decide_eq_true_eq, upd_same]
          refine ⟨_, .inl ((f1.trans f13).sql hS), ?_⟩
          rw [List.length_map]
          generalize hT : (1 + if (ns.length : Int) < 4 then (ns.length : Int) else 4) = T
          have hT0 : 0 ≤ T ∧ T ≤ 5 := by
            rw [← hT]
            split <;> omega
          exact ⟨by omega, by omega, hgo _ (by omega)⟩
        · refine for_go walk_range (fun i σ H' => Fx [] H H' ∧ ∃ x2 x3 x4 x5 x6 x7 x8 x9, σ = [some (.ref a), some (.ref a1), x2, x3, x4, x5, x6, x7, x8, x9]) ⟨f1.trans f13, _, _, _, _, _, _, _, _, rfl⟩ ?_ ?_ ?_
          · intros; trivial
          · rintro i x σ H4 H5 hi ⟨f4, x2, x3, x4, x5, x6, x7, x8, x9, rfl⟩ ⟨rfl, rfl⟩
            refine ⟨_, rfl, _, rfl, a, ns, i, (by show [V.ref a, V.int (0 + (i : Int))] = _; rw [Int.zero_add]), f4.sql hS, by omega, fun p H6 hp f6 pu6 => ?_⟩
            refine st_lst mono_RF (els_cons mono_RF (el_cF rfl) (els_cons mono_RF (el_cF rfl) (els_cons mono_RF (el_cF rfl) (els_cons mono_RF (el_cF rfl)
              (els_cons mono_RF (el_tupF (els_cons mono_RF (el_cF rfl) (els_cons mono_RF (el_cF rfl) els_nil)) (Nat.le_of_ble_eq_true rfl))
              (els_cons mono_RF (el_lstF (els_cons mono_RF (el_cF rfl) (els_cons mono_RF (el_lstF (els_cons mono_RF (el_cF rfl) els_nil) (Nat.le_of_ble_eq_true rfl)) els_nil)) (Nat.le_of_ble_eq_true rfl))
              (els_cons mono_RF el_disF (els_cons mono_RF (el_cF rfl) (els_cons mono_RF el_negF (els_cons mono_RF (el_powF ⟨by decide, by decide +kernel⟩)
              (els_cons mono_RF (el_tupF (els_cons mono_RF (el_cF rfl) (els_cons mono_RF (el_cF rfl) (els_cons mono_RF (el_tupF (els_cons mono_RF (el_cF rfl) els_nil) (Nat.le_of_ble_eq_true rfl)) els_nil))) (Nat.le_of_ble_eq_true rfl))
              (els_cons mono_RF (el_tupF els_nil (Nat.le_of_ble_eq_true rfl)) els_nil)))))))))))) (Nat.le_of_ble_eq_true rfl) fun t ts H7 f7 e7 p7 => ?_
            have hlen : ts.length = 12 := paired_len p7
            have pu7 : Pu (1000 * i) H7 p := pu6.fx f7 (fun z => nomatch z)
            have net : t ∉ [p] := by
              intro z
              rw [List.mem_singleton] at z
              subst z
              obtain ⟨c1, c2, c3, e, _⟩ := pu7
              rw [e7] at e
              have e' := HO.lst.inj (Option.some.inj e)
              rw [e'] at hlen
              exact absurd hlen (show ¬ 3 = 12 by decide)
            have item : ∀ d : Int, 0 ≤ d → d < 12 → ∃ v, atI ts d = some v ∧ (flatB v = true ∨ ∃ a, v = .ref a) := by
              intro d d0 d1
              have hd : d.toNat < ts.length := by omega
              obtain ⟨_, _, r⟩ := paired_nth' p7 (List.getElem?_eq_getElem hd)
              exact ⟨ts[d.toNat], atI_of d0 (List.getElem?_eq_getElem hd), r⟩
            refine ⟨_, rfl, _, rfl, p, 12, 1000 * i, rfl, by decide, by decide, pu7, by omega, fun d H8 d0 d1 f8 pu8 => ?_⟩
            obtain ⟨v, hv, rv⟩ := item d d0 d1
            refine ⟨t, ts, d, v, rfl, rfl, f8.keep t _ net e7, hv, ?_⟩
            refine ⟨_, rfl, _, rfl, p, 12, 1000 * i + 1, rfl, by decide, by decide, pu8, by omega, fun d2 H9 d20 d21 f9 pu9 => ?_⟩
            obtain ⟨u, hu, ru⟩ := item d2 d20 d21
            refine ⟨t, ts, d2, u, rfl, rfl, f9.keep t _ net (f8.keep t _ net e7), hu, ?_⟩
            refine ⟨v, u, rfl, ?_⟩
            have f9H : Fx [] H H9 := Fx.drop ((f4.trans f6).trans f7) (f8.trans f9) (f4.fresh hp)
            have mm := mono_IsL mono_RE
            refine st_lst mm (els_cons mm (el_by rfl) (els_cons mm (el_by rfl) (els_cons mm el_bare (els_cons mm (el_by rfl) (els_cons mm (el_by rfl) els_nil))))) (Nat.le_of_ble_eq_true rfl) fun h hs H10 f10 e10 p10 => ?_
            have okv : ∀ x ∈ List.replicate 21 v, flatB x = true ∨ ∃ a, x = .ref a := fun x hx => (List.eq_of_mem_replicate hx) ▸ rv
            have oku : ∀ x ∈ List.replicate 21 u, flatB x = true ∨ ∃ a, x = .ref a := fun x hx => (List.eq_of_mem_replicate hx) ▸ ru
            refine el_ne (el_lst mono_IsV (els_cons mono_IsV (el_flds 0 0 rfl rfl e10 p10 rfl) (els_cons mono_IsV (el_flds 1 1 rfl rfl e10 p10 rfl) els_nil)) (Nat.le_of_ble_eq_true rfl))
              (el_lst mono_IsV (els_cons mono_IsV (el_rep 21 (by decide) rfl 21 rfl) (els_cons mono_IsV (el_rep 21 (by decide) rfl 21 rfl) els_nil)) (Nat.le_of_ble_eq_true rfl)) (fun l hl => ?_) fun H11 f11 => ⟨false, rfl, ?_⟩
            · simp only [List.mem_cons, List.not_mem_nil, or_false] at hl
              rcases hl with rfl | rfl
              · exact okv
              · exact oku
            dsimp only
            rw [if_neg (by decide)]
            have e11 := f11.all e10
            have p11 := paired_fx mm f11 p10
            refine el_ne (el_lst mono_IsV (els_cons mono_IsV (el_flds 3 3 rfl rfl e11 p11 rfl) (els_cons mono_IsV (el_flds 4 4 rfl rfl e11 p11 rfl) els_nil)) (Nat.le_of_ble_eq_true rfl))
              (el_lst mono_IsV (els_cons mono_IsV (el_rep 21 (by decide) rfl 21 rfl) (els_cons mono_IsV (el_rep 21 (by decide) rfl 21 rfl) els_nil)) (Nat.le_of_ble_eq_true rfl)) (fun l hl => ?_) fun H12 f12 => ⟨false, rfl, ?_⟩
            · simp only [List.mem_cons, List.not_mem_nil, or_false] at hl
              rcases hl with rfl | rfl
              · exact oku
              · exact okv
            dsimp only
            rw [if_neg (by decide)]
            exact ⟨f9H.trans (f10.trans (f11.trans f12)), _, _, _, _, _, _, _, _, rfl⟩
          · rintro σ H4 ⟨f4, x2, x3, x4, x5, x6, x7, x8, x9, rfl⟩
            exact q _
end
end K06
namespace K06
open PySem PySem.Spec PyProof.Rows L2 LT
theorem all_mk {l : PySem.W.OpenLaw} {w : World} {K : PySem.W.Frag} {h : Heap} {mg : Str → Option Value} {fa : Addr} (X : K.In h) (G : h.Ns mainGlobals mg) (hfa : mg "law" = some (.ref fa))
    {f0 : Addr} {od0 an0 : Option Addr} {sl0 : Array (Option Value)} {oc0 kV0 dc0 pm0 cd0 ct0 : Value} {f1 : Addr} {od1 an1 : Option Addr} {sl1 : Array (Option Value)} {oc1 kV1 dc1 pm1 cd1 ct1 : Value} {f2 : Addr} {od2 an2 : Option Addr} {sl2 : Array (Option Value)} {oc2 kV2 dc2 pm2 cd2 ct2 : Value} {f3 : Addr} {od3 an3 : Option Addr} {sl3 : Array (Option Value)} {oc3 kV3 dc3 pm3 cd3 ct3 : Value} {f4 : Addr} {od4 an4 : Option Addr} {sl4 : Array (Option Value)} {oc4 kV4 dc4 pm4 cd4 ct4 : Value} {f5 : Addr} {od5 an5 : Option Addr} {sl5 : Array (Option Value)} {oc5 kV5 dc5 pm5 cd5 ct5 : Value} {f6 : Addr} {od6 an6 : Option Addr} {sl6 : Array (Option Value)} {oc6 kV6 dc6 pm6 cd6 ct6 : Value} {f7 : Addr} {od7 an7 : Option Addr} {sl7 : Array (Option Value)} {oc7 kV7 dc7 pm7 cd7 ct7 : Value} {f8 : Addr} {od8 an8 : Option Addr} {sl8 : Array (Option Value)} {oc8 kV8 dc8 pm8 cd8 ct8 : Value}
    (a0 : PySem.W.nsIn K mainGlobals "_law_mixed" = some (some (.ref f0)))
    (l0 : K.lookup f0 = some ⟨oc0, od0, .func (PySem.W.fnOf "_law_mixed" "_law_mixed" (defArgs s__law_mixed) (defBody s__law_mixed) (defScope s__law_mixed) .none kV0 dc0 pm0 an0 cd0 ct0), sl0⟩)
    (c0 : PySem.W.codeIn K cd0 "_law_mixed" = true) (k0 : PySem.W.keepIn K (.ref f0) = true)
    (a1 : PySem.W.nsIn K mainGlobals "_law_purse" = some (some (.ref f1)))
    (l1 : K.lookup f1 = some ⟨oc1, od1, .func (PySem.W.fnOf "_law_purse" "_law_purse" (defArgs s__law_purse) (defBody s__law_purse) (defScope s__law_purse) .none kV1 dc1 pm1 an1 cd1 ct1), sl1⟩)
    (c1 : PySem.W.codeIn K cd1 "_law_purse" = true) (k1 : PySem.W.keepIn K (.ref f1) = true)
    (a2 : PySem.W.nsIn K mainGlobals "_law_draw" = some (some (.ref f2)))
    (l2 : K.lookup f2 = some ⟨oc2, od2, .func (PySem.W.fnOf "_law_draw" "_law_draw" (defArgs s__law_draw) (defBody s__law_draw) (defScope s__law_draw) .none kV2 dc2 pm2 an2 cd2 ct2), sl2⟩)
    (c2 : PySem.W.codeIn K cd2 "_law_draw" = true) (k2 : PySem.W.keepIn K (.ref f2) = true)
    (a3 : PySem.W.nsIn K mainGlobals "_law_by_place" = some (some (.ref f3)))
    (l3 : K.lookup f3 = some ⟨oc3, od3, .func (PySem.W.fnOf "_law_by_place" "_law_by_place" (defArgs s__law_by_place) (defBody s__law_by_place) (defScope s__law_by_place) .none kV3 dc3 pm3 an3 cd3 ct3), sl3⟩)
    (c3 : PySem.W.codeIn K cd3 "_law_by_place" = true) (k3 : PySem.W.keepIn K (.ref f3) = true)
    (a4 : PySem.W.nsIn K mainGlobals "_law_by_name" = some (some (.ref f4)))
    (l4 : K.lookup f4 = some ⟨oc4, od4, .func (PySem.W.fnOf "_law_by_name" "_law_by_name" (defArgs s__law_by_name) (defBody s__law_by_name) (defScope s__law_by_name) .none kV4 dc4 pm4 an4 cd4 ct4), sl4⟩)
    (c4 : PySem.W.codeIn K cd4 "_law_by_name" = true) (k4 : PySem.W.keepIn K (.ref f4) = true)
    (a5 : PySem.W.nsIn K mainGlobals "_law_bare" = some (some (.ref f5)))
    (l5 : K.lookup f5 = some ⟨oc5, od5, .func (PySem.W.fnOf "_law_bare" "_law_bare" (defArgs s__law_bare) (defBody s__law_bare) (defScope s__law_bare) .none kV5 dc5 pm5 an5 cd5 ct5), sl5⟩)
    (c5 : PySem.W.codeIn K cd5 "_law_bare" = true) (k5 : PySem.W.keepIn K (.ref f5) = true)
    (a6 : PySem.W.nsIn K mainGlobals "_law_fields" = some (some (.ref f6)))
    (l6 : K.lookup f6 = some ⟨oc6, od6, .func (PySem.W.fnOf "_law_fields" "_law_fields" (defArgs s__law_fields) (defBody s__law_fields) (defScope s__law_fields) .none kV6 dc6 pm6 an6 cd6 ct6), sl6⟩)
    (c6 : PySem.W.codeIn K cd6 "_law_fields" = true) (k6 : PySem.W.keepIn K (.ref f6) = true)
    (a7 : PySem.W.nsIn K mainGlobals "_law_classes" = some (some (.ref f7)))
    (l7 : K.lookup f7 = some ⟨oc7, od7, .func (PySem.W.fnOf "_law_classes" "_law_classes" (defArgs s__law_classes) (defBody s__law_classes) (defScope s__law_classes) .none kV7 dc7 pm7 an7 cd7 ct7), sl7⟩)
    (c7 : PySem.W.codeIn K cd7 "_law_classes" = true) (k7 : PySem.W.keepIn K (.ref f7) = true)
    (a8 : PySem.W.nsIn K mainGlobals "law" = some (some (.ref f8)))
    (l8 : K.lookup f8 = some ⟨oc8, od8, .func (PySem.W.fnOf "law" "law" (defArgs s_law) (defBody s_law) (defScope s_law) .none kV8 dc8 pm8 an8 cd8 ct8), sl8⟩)
    (c8 : PySem.W.codeIn K cd8 "law" = true) (k8 : PySem.W.keepIn K (.ref f8) = true)
    (z_int : PySem.W.nsIn K mainGlobals "int" = some none)
    (z_isinstance : PySem.W.nsIn K mainGlobals "isinstance" = some none)
    (z_len : PySem.W.nsIn K mainGlobals "len" = some none)
    (z_max : PySem.W.nsIn K mainGlobals "max" = some none)
    (z_min : PySem.W.nsIn K mainGlobals "min" = some none)
    (z_range : PySem.W.nsIn K mainGlobals "range" = some none)
    (z_enumerate : PySem.W.nsIn K mainGlobals "enumerate" = some none)
    (z_ValueError : PySem.W.nsIn K mainGlobals "ValueError" = some none)
    {C0 : Addr} {I0 T0 N0 : Addr} {nm0 q0 : Str} {bs0 bm0 : List Value} {sn0 : List Str} {sub0 : List Value} {ab0 : Bool} {col0 : Option Bool} {dd0 : Option Addr} {m00 m10 m20 m30 m50 : Option Value} {eo0 ekV0 edc0 epm0 ecd0 ect0 : Value} {eod0 ean0 : Option Addr} {esl0 : Array (Option Value)} {toc0 : Value} {tod0 : Option Addr} {tn0 : Nat} {tsl0 : Array (Option Value)} {C1 : Addr} {I1 T1 N1 : Addr} {nm1 q1 : Str} {bs1 bm1 : List Value} {sn1 : List Str} {sub1 : List Value} {ab1 : Bool} {col1 : Option Bool} {dd1 : Option Addr} {m01 m11 m21 m31 m51 : Option Value} {eo1 ekV1 edc1 epm1 ecd1 ect1 : Value} {eod1 ean1 : Option Addr} {esl1 : Array (Option Value)} {toc1 : Value} {tod1 : Option Addr} {tn1 : Nat} {tsl1 : Array (Option Value)} {C2 : Addr} {I2 T2 N2 : Addr} {nm2 q2 : Str} {bs2 bm2 : List Value} {sn2 : List Str} {sub2 : List Value} {ab2 : Bool} {col2 : Option Bool} {dd2 : Option Addr} {m02 m12 m22 m32 m52 : Option Value} {eo2 ekV2 edc2 epm2 ecd2 ect2 : Value} {eod2 ean2 : Option Addr} {esl2 : Array (Option Value)} {toc2 : Value} {tod2 : Option Addr} {tn2 : Nat} {tsl2 : Array (Option Value)} {C3 : Addr} {I3 T3 N3 : Addr} {nm3 q3 : Str} {bs3 bm3 : List Value} {sn3 : List Str} {sub3 : List Value} {ab3 : Bool} {col3 : Option Bool} {dd3 : Option Addr} {m03 m13 m23 m33 m53 : Option Value} {eo3 ekV3 edc3 epm3 ecd3 ect3 : Value} {eod3 ean3 : Option Addr} {esl3 : Array (Option Value)} {toc3 : Value} {tod3 : Option Addr} {tn3 : Nat} {tsl3 : Array (Option Value)} {C4 : Addr} {I4 T4 N4 : Addr} {nm4 q4 : Str} {bs4 bm4 : List Value} {sn4 : List Str} {sub4 : List Value} {ab4 : Bool} {col4 : Option Bool} {dd4 : Option Addr} {m04 m14 m24 m34 m54 : Option Value} {eo4 ekV4 edc4 epm4 ecd4 ect4 : Value} {eod4 ean4 : Option Addr} {esl4 : Array (Option Value)} {toc4 : Value} {tod4 : Option Addr} {tn4 : Nat} {tsl4 : Array (Option Value)} {C5 : Addr} {I5 T5 N5 : Addr} {nm5 q5 : Str} {bs5 bm5 : List Value} {sn5 : List Str} {sub5 : List Value} {ab5 : Bool} {col5 : Option Bool} {dd5 : Option Addr} {m05 m15 m25 m35 m55 : Option Value} {eo5 ekV5 edc5 epm5 ecd5 ect5 : Value} {eod5 ean5 : Option Addr} {esl5 : Array (Option Value)} {toc5 : Value} {tod5 : Option Addr} {tn5 : Nat} {tsl5 : Array (Option Value)} {C6 : Addr} {I6 T6 N6 : Addr} {nm6 q6 : Str} {bs6 bm6 : List Value} {sn6 : List Str} {sub6 : List Value} {ab6 : Bool} {col6 : Option Bool} {dd6 : Option Addr} {m06 m16 m26 m36 m56 : Option Value} {eo6 ekV6 edc6 epm6 ecd6 ect6 : Value} {eod6 ean6 : Option Addr} {esl6 : Array (Option Value)} {toc6 : Value} {tod6 : Option Addr} {tn6 : Nat} {tsl6 : Array (Option Value)} {C7 : Addr} {I7 T7 N7 : Addr} {nm7 q7 : Str} {bs7 bm7 : List Value} {sn7 : List Str} {sub7 : List Value} {ab7 : Bool} {col7 : Option Bool} {dd7 : Option Addr} {m07 m17 m27 m37 m57 : Option Value} {eo7 ekV7 edc7 epm7 ecd7 ect7 : Value} {eod7 ean7 : Option Addr} {esl7 : Array (Option Value)} {toc7 : Value} {tod7 : Option Addr} {tn7 : Nat} {tsl7 : Array (Option Value)} {C8 : Addr} {I8 T8 N8 : Addr} {nm8 q8 : Str} {bs8 bm8 : List Value} {sn8 : List Str} {sub8 : List Value} {ab8 : Bool} {col8 : Option Bool} {dd8 : Option Addr} {m08 m18 m28 m38 m58 : Option Value} {eo8 ekV8 edc8 epm8 ecd8 ect8 : Value} {eod8 ean8 : Option Addr} {esl8 : Array (Option Value)} {toc8 : Value} {tod8 : Option Addr} {tn8 : Nat} {tsl8 : Array (Option Value)} {C9 : Addr} {I9 T9 N9 : Addr} {nm9 q9 : Str} {bs9 bm9 : List Value} {sn9 : List Str} {sub9 : List Value} {ab9 : Bool} {col9 : Option Bool} {dd9 : Option Addr} {m09 m19 m29 m39 m59 : Option Value} {eo9 ekV9 edc9 epm9 ecd9 ect9 : Value} {eod9 ean9 : Option Addr} {esl9 : Array (Option Value)} {toc9 : Value} {tod9 : Option Addr} {tn9 : Nat} {tsl9 : Array (Option Value)} {C10 : Addr} {I10 T10 N10 : Addr} {nm10 q10 : Str} {bs10 bm10 : List Value} {sn10 : List Str} {sub10 : List Value} {ab10 : Bool} {col10 : Option Bool} {dd10 : Option Addr} {m010 m110 m210 m310 m510 : Option Value} {eo10 ekV10 edc10 epm10 ecd10 ect10 : Value} {eod10 ean10 : Option Addr} {esl10 : Array (Option Value)} {toc10 : Value} {tod10 : Option Addr} {tn10 : Nat} {tsl10 : Array (Option Value)} {C11 : Addr} {I11 T11 N11 : Addr} {nm11 q11 : Str} {bs11 bm11 : List Value} {sn11 : List Str} {sub11 : List Value} {ab11 : Bool} {col11 : Option Bool} {dd11 : Option Addr} {m011 m111 m211 m311 m511 : Option Value} {eo11 ekV11 edc11 epm11 ecd11 ect11 : Value} {eod11 ean11 : Option Addr} {esl11 : Array (Option Value)} {toc11 : Value} {tod11 : Option Addr} {tn11 : Nat} {tsl11 : Array (Option Value)} {C12 : Addr} {I12 T12 N12 : Addr} {nm12 q12 : Str} {bs12 bm12 : List Value} {sn12 : List Str} {sub12 : List Value} {ab12 : Bool} {col12 : Option Bool} {dd12 : Option Addr} {m012 m112 m212 m312 m512 : Option Value} {eo12 ekV12 edc12 epm12 ecd12 ect12 : Value} {eod12 ean12 : Option Addr} {esl12 : Array (Option Value)} {toc12 : Value} {tod12 : Option Addr} {tn12 : Nat} {tsl12 : Array (Option Value)} {C13 : Addr} {I13 T13 N13 : Addr} {nm13 q13 : Str} {bs13 bm13 : List Value} {sn13 : List Str} {sub13 : List Value} {ab13 : Bool} {col13 : Option Bool} {dd13 : Option Addr} {m013 m113 m213 m313 m513 : Option Value} {eo13 ekV13 edc13 epm13 ecd13 ect13 : Value} {eod13 ean13 : Option Addr} {esl13 : Array (Option Value)} {toc13 : Value} {tod13 : Option Addr} {tn13 : Nat} {tsl13 : Array (Option Value)} {C14 : Addr} {I14 T14 N14 : Addr} {nm14 q14 : Str} {bs14 bm14 : List Value} {sn14 : List Str} {sub14 : List Value} {ab14 : Bool} {col14 : Option Bool} {dd14 : Option Addr} {m014 m114 m214 m314 m514 : Option Value} {eo14 ekV14 edc14 epm14 ecd14 ect14 : Value} {eod14 ean14 : Option Addr} {esl14 : Array (Option Value)} {toc14 : Value} {tod14 : Option Addr} {tn14 : Nat} {tsl14 : Array (Option Value)} {C15 : Addr} {I15 T15 N15 : Addr} {nm15 q15 : Str} {bs15 bm15 : List Value} {sn15 : List Str} {sub15 : List Value} {ab15 : Bool} {col15 : Option Bool} {dd15 : Option Addr} {m015 m115 m215 m315 m515 : Option Value} {eo15 ekV15 edc15 epm15 ecd15 ect15 : Value} {eod15 ean15 : Option Addr} {esl15 : Array (Option Value)} {toc15 : Value} {tod15 : Option Addr} {tn15 : Nat} {tsl15 : Array (Option Value)} {C16 : Addr} {I16 T16 N16 : Addr} {nm16 q16 : Str} {bs16 bm16 : List Value} {sn16 : List Str} {sub16 : List Value} {ab16 : Bool} {col16 : Option Bool} {dd16 : Option Addr} {m016 m116 m216 m316 m516 : Option Value} {eo16 ekV16 edc16 epm16 ecd16 ect16 : Value} {eod16 ean16 : Option Addr} {esl16 : Array (Option Value)} {toc16 : Value} {tod16 : Option Addr} {tn16 : Nat} {tsl16 : Array (Option Value)} {C17 : Addr} {I17 T17 N17 : Addr} {nm17 q17 : Str} {bs17 bm17 : List Value} {sn17 : List Str} {sub17 : List Value} {ab17 : Bool} {col17 : Option Bool} {dd17 : Option Addr} {m017 m117 m217 m317 m517 : Option Value} {eo17 ekV17 edc17 epm17 ecd17 ect17 : Value} {eod17 ean17 : Option Addr} {esl17 : Array (Option Value)} {toc17 : Value} {tod17 : Option Addr} {tn17 : Nat} {tsl17 : Array (Option Value)} {C18 : Addr} {I18 T18 N18 : Addr} {nm18 q18 : Str} {bs18 bm18 : List Value} {sn18 : List Str} {sub18 : List Value} {ab18 : Bool} {col18 : Option Bool} {dd18 : Option Addr} {m018 m118 m218 m318 m518 : Option Value} {eo18 ekV18 edc18 epm18 ecd18 ect18 : Value} {eod18 ean18 : Option Addr} {esl18 : Array (Option Value)} {toc18 : Value} {tod18 : Option Addr} {tn18 : Nat} {tsl18 : Array (Option Value)} {C19 : Addr} {I19 T19 N19 : Addr} {nm19 q19 : Str} {bs19 bm19 : List Value} {sn19 : List Str} {sub19 : List Value} {ab19 : Bool} {col19 : Option Bool} {dd19 : Option Addr} {m019 m119 m219 m319 m519 : Option Value} {eo19 ekV19 edc19 epm19 ecd19 ect19 : Value} {eod19 ean19 : Option Addr} {esl19 : Array (Option Value)} {toc19 : Value} {tod19 : Option Addr} {tn19 : Nat} {tsl19 : Array (Option Value)} {C20 : Addr} {I20 T20 N20 : Addr} {nm20 q20 : Str} {bs20 bm20 : List Value} {sn20 : List Str} {sub20 : List Value} {ab20 : Bool} {col20 : Option Bool} {dd20 : Option Addr} {m020 m120 m220 m320 m520 : Option Value} {eo20 ekV20 edc20 epm20 ecd20 ect20 : Value} {eod20 ean20 : Option Addr} {esl20 : Array (Option Value)} {toc20 : Value} {tod20 : Option Addr} {tn20 : Nat} {tsl20 : Array (Option Value)} {C21 : Addr} {C22 : Addr} {C23 : Addr}
    (ea0 : PySem.W.nsIn K mainGlobals "InvalidSize" = some (some (.ref C0)))
    (ec0 : K.lookup C0 = some (excClassObj nm0 q0 C0 N0 bs0 bm0 true sn0 sub0 ab0 col0 dd0 m00 m10 m20 m30 m50 "ValueError.__new__"))
    (ei0 : PySem.W.findIn K (.ref C0) "__init__" = some (some (.ref I0)))
    (el0 : K.lookup I0 = some ⟨eo0, eod0, .func (PySem.W.fnOf "__init__" "InvalidSize.__init__" (defArgs s_InvalidSize___init__) (defBody s_InvalidSize___init__) (defScope s_InvalidSize___init__) (.ref T0) ekV0 edc0 epm0 ean0 ecd0 ect0), esl0⟩)
    (et0 : K.lookup T0 = some ⟨toc0, tod0, .seq #[.none] tn0, tsl0⟩)
    (ek0 : PySem.W.codeIn K ecd0 "InvalidSize.__init__" = true)
    (ep0 : PySem.W.keepIn K (.ref I0) = true)
    (er0 : PySem.HandSPX.refsVE bm0 = true)
    (eb0 : iniB K C0 I0 "size" = true)
    (ea1 : PySem.W.nsIn K mainGlobals "InvalidMachine" = some (some (.ref C1)))
    (ec1 : K.lookup C1 = some (excClassObj nm1 q1 C1 N1 bs1 bm1 true sn1 sub1 ab1 col1 dd1 m01 m11 m21 m31 m51 "ValueError.__new__"))
    (ei1 : PySem.W.findIn K (.ref C1) "__init__" = some (some (.ref I1)))
    (el1 : K.lookup I1 = some ⟨eo1, eod1, .func (PySem.W.fnOf "__init__" "InvalidMachine.__init__" (defArgs s_InvalidMachine___init__) (defBody s_InvalidMachine___init__) (defScope s_InvalidMachine___init__) (.ref T1) ekV1 edc1 epm1 ean1 ecd1 ect1), esl1⟩)
    (et1 : K.lookup T1 = some ⟨toc1, tod1, .seq #[.none] tn1, tsl1⟩)
    (ek1 : PySem.W.codeIn K ecd1 "InvalidMachine.__init__" = true)
    (ep1 : PySem.W.keepIn K (.ref I1) = true)
    (er1 : PySem.HandSPX.refsVE bm1 = true)
    (eb1 : iniB K C1 I1 "thing" = true)
    (ea2 : PySem.W.nsIn K mainGlobals "InvalidRow" = some (some (.ref C2)))
    (ec2 : K.lookup C2 = some (excClassObj nm2 q2 C2 N2 bs2 bm2 true sn2 sub2 ab2 col2 dd2 m02 m12 m22 m32 m52 "ValueError.__new__"))
    (ei2 : PySem.W.findIn K (.ref C2) "__init__" = some (some (.ref I2)))
    (el2 : K.lookup I2 = some ⟨eo2, eod2, .func (PySem.W.fnOf "__init__" "InvalidRow.__init__" (defArgs s_InvalidRow___init__) (defBody s_InvalidRow___init__) (defScope s_InvalidRow___init__) (.ref T2) ekV2 edc2 epm2 ean2 ecd2 ect2), esl2⟩)
    (et2 : K.lookup T2 = some ⟨toc2, tod2, .seq #[.none] tn2, tsl2⟩)
    (ek2 : PySem.W.codeIn K ecd2 "InvalidRow.__init__" = true)
    (ep2 : PySem.W.keepIn K (.ref I2) = true)
    (er2 : PySem.HandSPX.refsVE bm2 = true)
    (eb2 : iniB K C2 I2 "thing" = true)
    (ea3 : PySem.W.nsIn K mainGlobals "InvalidMap" = some (some (.ref C3)))
    (ec3 : K.lookup C3 = some (excClassObj nm3 q3 C3 N3 bs3 bm3 true sn3 sub3 ab3 col3 dd3 m03 m13 m23 m33 m53 "ValueError.__new__"))
    (ei3 : PySem.W.findIn K (.ref C3) "__init__" = some (some (.ref I3)))
    (el3 : K.lookup I3 = some ⟨eo3, eod3, .func (PySem.W.fnOf "__init__" "InvalidMap.__init__" (defArgs s_InvalidMap___init__) (defBody s_InvalidMap___init__) (defScope s_InvalidMap___init__) (.ref T3) ekV3 edc3 epm3 ean3 ecd3 ect3), esl3⟩)
    (et3 : K.lookup T3 = some ⟨toc3, tod3, .seq #[.none] tn3, tsl3⟩)
    (ek3 : PySem.W.codeIn K ecd3 "InvalidMap.__init__" = true)
    (ep3 : PySem.W.keepIn K (.ref I3) = true)
    (er3 : PySem.HandSPX.refsVE bm3 = true)
    (eb3 : iniB K C3 I3 "thing" = true)
    (ea4 : PySem.W.nsIn K mainGlobals "NotASetting" = some (some (.ref C4)))
    (ec4 : K.lookup C4 = some (excClassObj nm4 q4 C4 N4 bs4 bm4 true sn4 sub4 ab4 col4 dd4 m04 m14 m24 m34 m54 "ValueError.__new__"))
    (ei4 : PySem.W.findIn K (.ref C4) "__init__" = some (some (.ref I4)))
    (el4 : K.lookup I4 = some ⟨eo4, eod4, .func (PySem.W.fnOf "__init__" "NotASetting.__init__" (defArgs s_NotASetting___init__) (defBody s_NotASetting___init__) (defScope s_NotASetting___init__) (.ref T4) ekV4 edc4 epm4 ean4 ecd4 ect4), esl4⟩)
    (et4 : K.lookup T4 = some ⟨toc4, tod4, .seq #[.none] tn4, tsl4⟩)
    (ek4 : PySem.W.codeIn K ecd4 "NotASetting.__init__" = true)
    (ep4 : PySem.W.keepIn K (.ref I4) = true)
    (er4 : PySem.HandSPX.refsVE bm4 = true)
    (eb4 : iniB K C4 I4 "thing" = true)
    (ea5 : PySem.W.nsIn K mainGlobals "InvalidExpression" = some (some (.ref C5)))
    (ec5 : K.lookup C5 = some (excClassObj nm5 q5 C5 N5 bs5 bm5 true sn5 sub5 ab5 col5 dd5 m05 m15 m25 m35 m55 "ValueError.__new__"))
    (ei5 : PySem.W.findIn K (.ref C5) "__init__" = some (some (.ref I5)))
    (el5 : K.lookup I5 = some ⟨eo5, eod5, .func (PySem.W.fnOf "__init__" "InvalidExpression.__init__" (defArgs s_InvalidExpression___init__) (defBody s_InvalidExpression___init__) (defScope s_InvalidExpression___init__) (.ref T5) ekV5 edc5 epm5 ean5 ecd5 ect5), esl5⟩)
    (et5 : K.lookup T5 = some ⟨toc5, tod5, .seq #[.none] tn5, tsl5⟩)
    (ek5 : PySem.W.codeIn K ecd5 "InvalidExpression.__init__" = true)
    (ep5 : PySem.W.keepIn K (.ref I5) = true)
    (er5 : PySem.HandSPX.refsVE bm5 = true)
    (eb5 : iniB K C5 I5 "thing" = true)
    (ea6 : PySem.W.nsIn K mainGlobals "InvalidForm" = some (some (.ref C6)))
    (ec6 : K.lookup C6 = some (excClassObj nm6 q6 C6 N6 bs6 bm6 true sn6 sub6 ab6 col6 dd6 m06 m16 m26 m36 m56 "ValueError.__new__"))
    (ei6 : PySem.W.findIn K (.ref C6) "__init__" = some (some (.ref I6)))
    (el6 : K.lookup I6 = some ⟨eo6, eod6, .func (PySem.W.fnOf "__init__" "InvalidForm.__init__" (defArgs s_InvalidForm___init__) (defBody s_InvalidForm___init__) (defScope s_InvalidForm___init__) (.ref T6) ekV6 edc6 epm6 ean6 ecd6 ect6), esl6⟩)
    (et6 : K.lookup T6 = some ⟨toc6, tod6, .seq #[.none] tn6, tsl6⟩)
    (ek6 : PySem.W.codeIn K ecd6 "InvalidForm.__init__" = true)
    (ep6 : PySem.W.keepIn K (.ref I6) = true)
    (er6 : PySem.HandSPX.refsVE bm6 = true)
    (eb6 : iniB K C6 I6 "thing" = true)
    (ea7 : PySem.W.nsIn K mainGlobals "InvalidRange" = some (some (.ref C7)))
    (ec7 : K.lookup C7 = some (excClassObj nm7 q7 C7 N7 bs7 bm7 true sn7 sub7 ab7 col7 dd7 m07 m17 m27 m37 m57 "ValueError.__new__"))
    (ei7 : PySem.W.findIn K (.ref C7) "__init__" = some (some (.ref I7)))
    (el7 : K.lookup I7 = some ⟨eo7, eod7, .func (PySem.W.fnOf "__init__" "InvalidRange.__init__" (defArgs s_InvalidRange___init__) (defBody s_InvalidRange___init__) (defScope s_InvalidRange___init__) (.ref T7) ekV7 edc7 epm7 ean7 ecd7 ect7), esl7⟩)
    (et7 : K.lookup T7 = some ⟨toc7, tod7, .seq #[.none] tn7, tsl7⟩)
    (ek7 : PySem.W.codeIn K ecd7 "InvalidRange.__init__" = true)
    (ep7 : PySem.W.keepIn K (.ref I7) = true)
    (er7 : PySem.HandSPX.refsVE bm7 = true)
    (eb7 : iniB K C7 I7 "thing" = true)
    (ea8 : PySem.W.nsIn K mainGlobals "InvalidRecipe" = some (some (.ref C8)))
    (ec8 : K.lookup C8 = some (excClassObj nm8 q8 C8 N8 bs8 bm8 true sn8 sub8 ab8 col8 dd8 m08 m18 m28 m38 m58 "ValueError.__new__"))
    (ei8 : PySem.W.findIn K (.ref C8) "__init__" = some (some (.ref I8)))
    (el8 : K.lookup I8 = some ⟨eo8, eod8, .func (PySem.W.fnOf "__init__" "InvalidRecipe.__init__" (defArgs s_InvalidRecipe___init__) (defBody s_InvalidRecipe___init__) (defScope s_InvalidRecipe___init__) (.ref T8) ekV8 edc8 epm8 ean8 ecd8 ect8), esl8⟩)
    (et8 : K.lookup T8 = some ⟨toc8, tod8, .seq #[.none] tn8, tsl8⟩)
    (ek8 : PySem.W.codeIn K ecd8 "InvalidRecipe.__init__" = true)
    (ep8 : PySem.W.keepIn K (.ref I8) = true)
    (er8 : PySem.HandSPX.refsVE bm8 = true)
    (eb8 : iniB K C8 I8 "thing" = true)
    (ea9 : PySem.W.nsIn K mainGlobals "InvalidMaps" = some (some (.ref C9)))
    (ec9 : K.lookup C9 = some (excClassObj nm9 q9 C9 N9 bs9 bm9 true sn9 sub9 ab9 col9 dd9 m09 m19 m29 m39 m59 "ValueError.__new__"))
    (ei9 : PySem.W.findIn K (.ref C9) "__init__" = some (some (.ref I9)))
    (el9 : K.lookup I9 = some ⟨eo9, eod9, .func (PySem.W.fnOf "__init__" "InvalidMaps.__init__" (defArgs s_InvalidMaps___init__) (defBody s_InvalidMaps___init__) (defScope s_InvalidMaps___init__) (.ref T9) ekV9 edc9 epm9 ean9 ecd9 ect9), esl9⟩)
    (et9 : K.lookup T9 = some ⟨toc9, tod9, .seq #[.none] tn9, tsl9⟩)
    (ek9 : PySem.W.codeIn K ecd9 "InvalidMaps.__init__" = true)
    (ep9 : PySem.W.keepIn K (.ref I9) = true)
    (er9 : PySem.HandSPX.refsVE bm9 = true)
    (eb9 : iniB K C9 I9 "name" = true)
    (ea10 : PySem.W.nsIn K mainGlobals "InvalidAsks" = some (some (.ref C10)))
    (ec10 : K.lookup C10 = some (excClassObj nm10 q10 C10 N10 bs10 bm10 true sn10 sub10 ab10 col10 dd10 m010 m110 m210 m310 m510 "ValueError.__new__"))
    (ei10 : PySem.W.findIn K (.ref C10) "__init__" = some (some (.ref I10)))
    (el10 : K.lookup I10 = some ⟨eo10, eod10, .func (PySem.W.fnOf "__init__" "InvalidAsks.__init__" (defArgs s_InvalidAsks___init__) (defBody s_InvalidAsks___init__) (defScope s_InvalidAsks___init__) (.ref T10) ekV10 edc10 epm10 ean10 ecd10 ect10), esl10⟩)
    (et10 : K.lookup T10 = some ⟨toc10, tod10, .seq #[.none] tn10, tsl10⟩)
    (ek10 : PySem.W.codeIn K ecd10 "InvalidAsks.__init__" = true)
    (ep10 : PySem.W.keepIn K (.ref I10) = true)
    (er10 : PySem.HandSPX.refsVE bm10 = true)
    (eb10 : iniB K C10 I10 "name" = true)
    (ea11 : PySem.W.nsIn K mainGlobals "NoSuchDeed" = some (some (.ref C11)))
    (ec11 : K.lookup C11 = some (excClassObj nm11 q11 C11 N11 bs11 bm11 true sn11 sub11 ab11 col11 dd11 m011 m111 m211 m311 m511 "ValueError.__new__"))
    (ei11 : PySem.W.findIn K (.ref C11) "__init__" = some (some (.ref I11)))
    (el11 : K.lookup I11 = some ⟨eo11, eod11, .func (PySem.W.fnOf "__init__" "NoSuchDeed.__init__" (defArgs s_NoSuchDeed___init__) (defBody s_NoSuchDeed___init__) (defScope s_NoSuchDeed___init__) (.ref T11) ekV11 edc11 epm11 ean11 ecd11 ect11), esl11⟩)
    (et11 : K.lookup T11 = some ⟨toc11, tod11, .seq #[.none] tn11, tsl11⟩)
    (ek11 : PySem.W.codeIn K ecd11 "NoSuchDeed.__init__" = true)
    (ep11 : PySem.W.keepIn K (.ref I11) = true)
    (er11 : PySem.HandSPX.refsVE bm11 = true)
    (eb11 : iniB K C11 I11 "name" = true)
    (ea12 : PySem.W.nsIn K mainGlobals "NoSuchAsk" = some (some (.ref C12)))
    (ec12 : K.lookup C12 = some (excClassObj nm12 q12 C12 N12 bs12 bm12 true sn12 sub12 ab12 col12 dd12 m012 m112 m212 m312 m512 "ValueError.__new__"))
    (ei12 : PySem.W.findIn K (.ref C12) "__init__" = some (some (.ref I12)))
    (el12 : K.lookup I12 = some ⟨eo12, eod12, .func (PySem.W.fnOf "__init__" "NoSuchAsk.__init__" (defArgs s_NoSuchAsk___init__) (defBody s_NoSuchAsk___init__) (defScope s_NoSuchAsk___init__) (.ref T12) ekV12 edc12 epm12 ean12 ecd12 ect12), esl12⟩)
    (et12 : K.lookup T12 = some ⟨toc12, tod12, .seq #[.none] tn12, tsl12⟩)
    (ek12 : PySem.W.codeIn K ecd12 "NoSuchAsk.__init__" = true)
    (ep12 : PySem.W.keepIn K (.ref I12) = true)
    (er12 : PySem.HandSPX.refsVE bm12 = true)
    (eb12 : iniB K C12 I12 "name" = true)
    (ea13 : PySem.W.nsIn K mainGlobals "InvalidTurning" = some (some (.ref C13)))
    (ec13 : K.lookup C13 = some (excClassObj nm13 q13 C13 N13 bs13 bm13 true sn13 sub13 ab13 col13 dd13 m013 m113 m213 m313 m513 "ValueError.__new__"))
    (ei13 : PySem.W.findIn K (.ref C13) "__init__" = some (some (.ref I13)))
    (el13 : K.lookup I13 = some ⟨eo13, eod13, .func (PySem.W.fnOf "__init__" "InvalidTurning.__init__" (defArgs s_InvalidTurning___init__) (defBody s_InvalidTurning___init__) (defScope s_InvalidTurning___init__) (.ref T13) ekV13 edc13 epm13 ean13 ecd13 ect13), esl13⟩)
    (et13 : K.lookup T13 = some ⟨toc13, tod13, .seq #[.none] tn13, tsl13⟩)
    (ek13 : PySem.W.codeIn K ecd13 "InvalidTurning.__init__" = true)
    (ep13 : PySem.W.keepIn K (.ref I13) = true)
    (er13 : PySem.HandSPX.refsVE bm13 = true)
    (eb13 : iniB K C13 I13 "turning" = true)
    (ea14 : PySem.W.nsIn K mainGlobals "InvalidDeeds" = some (some (.ref C14)))
    (ec14 : K.lookup C14 = some (excClassObj nm14 q14 C14 N14 bs14 bm14 true sn14 sub14 ab14 col14 dd14 m014 m114 m214 m314 m514 "ValueError.__new__"))
    (ei14 : PySem.W.findIn K (.ref C14) "__init__" = some (some (.ref I14)))
    (el14 : K.lookup I14 = some ⟨eo14, eod14, .func (PySem.W.fnOf "__init__" "InvalidDeeds.__init__" (defArgs s_InvalidDeeds___init__) (defBody s_InvalidDeeds___init__) (defScope s_InvalidDeeds___init__) (.ref T14) ekV14 edc14 epm14 ean14 ecd14 ect14), esl14⟩)
    (et14 : K.lookup T14 = some ⟨toc14, tod14, .seq #[.none] tn14, tsl14⟩)
    (ek14 : PySem.W.codeIn K ecd14 "InvalidDeeds.__init__" = true)
    (ep14 : PySem.W.keepIn K (.ref I14) = true)
    (er14 : PySem.HandSPX.refsVE bm14 = true)
    (eb14 : iniB K C14 I14 "place" = true)
    (ea15 : PySem.W.nsIn K mainGlobals "InvalidPlan" = some (some (.ref C15)))
    (ec15 : K.lookup C15 = some (excClassObj nm15 q15 C15 N15 bs15 bm15 true sn15 sub15 ab15 col15 dd15 m015 m115 m215 m315 m515 "ValueError.__new__"))
    (ei15 : PySem.W.findIn K (.ref C15) "__init__" = some (some (.ref I15)))
    (el15 : K.lookup I15 = some ⟨eo15, eod15, .func (PySem.W.fnOf "__init__" "InvalidPlan.__init__" (defArgs s_InvalidPlan___init__) (defBody s_InvalidPlan___init__) (defScope s_InvalidPlan___init__) (.ref T15) ekV15 edc15 epm15 ean15 ecd15 ect15), esl15⟩)
    (et15 : K.lookup T15 = some ⟨toc15, tod15, .seq #[.none] tn15, tsl15⟩)
    (ek15 : PySem.W.codeIn K ecd15 "InvalidPlan.__init__" = true)
    (ep15 : PySem.W.keepIn K (.ref I15) = true)
    (er15 : PySem.HandSPX.refsVE bm15 = true)
    (eb15 : iniB K C15 I15 "place" = true)
    (ea16 : PySem.W.nsIn K mainGlobals "NotMade" = some (some (.ref C16)))
    (ec16 : K.lookup C16 = some (excClassObj nm16 q16 C16 N16 bs16 bm16 true sn16 sub16 ab16 col16 dd16 m016 m116 m216 m316 m516 "ValueError.__new__"))
    (ei16 : PySem.W.findIn K (.ref C16) "__init__" = some (some (.ref I16)))
    (el16 : K.lookup I16 = some ⟨eo16, eod16, .func (PySem.W.fnOf "__init__" "NotMade.__init__" (defArgs s_NotMade___init__) (defBody s_NotMade___init__) (defScope s_NotMade___init__) (.ref T16) ekV16 edc16 epm16 ean16 ecd16 ect16), esl16⟩)
    (et16 : K.lookup T16 = some ⟨toc16, tod16, .seq #[.none] tn16, tsl16⟩)
    (ek16 : PySem.W.codeIn K ecd16 "NotMade.__init__" = true)
    (ep16 : PySem.W.keepIn K (.ref I16) = true)
    (er16 : PySem.HandSPX.refsVE bm16 = true)
    (eb16 : iniB K C16 I16 "place" = true)
    (ea17 : PySem.W.nsIn K mainGlobals "InvalidLength" = some (some (.ref C17)))
    (ec17 : K.lookup C17 = some (excClassObj nm17 q17 C17 N17 bs17 bm17 true sn17 sub17 ab17 col17 dd17 m017 m117 m217 m317 m517 "ValueError.__new__"))
    (ei17 : PySem.W.findIn K (.ref C17) "__init__" = some (some (.ref I17)))
    (el17 : K.lookup I17 = some ⟨eo17, eod17, .func (PySem.W.fnOf "__init__" "InvalidLength.__init__" (defArgs s_InvalidLength___init__) (defBody s_InvalidLength___init__) (defScope s_InvalidLength___init__) (.ref T17) ekV17 edc17 epm17 ean17 ecd17 ect17), esl17⟩)
    (et17 : K.lookup T17 = some ⟨toc17, tod17, .seq #[.none] tn17, tsl17⟩)
    (ek17 : PySem.W.codeIn K ecd17 "InvalidLength.__init__" = true)
    (ep17 : PySem.W.keepIn K (.ref I17) = true)
    (er17 : PySem.HandSPX.refsVE bm17 = true)
    (eb17 : iniB K C17 I17 "length" = true)
    (ea18 : PySem.W.nsIn K mainGlobals "InvalidTable" = some (some (.ref C18)))
    (ec18 : K.lookup C18 = some (excClassObj nm18 q18 C18 N18 bs18 bm18 true sn18 sub18 ab18 col18 dd18 m018 m118 m218 m318 m518 "ValueError.__new__"))
    (ei18 : PySem.W.findIn K (.ref C18) "__init__" = some (some (.ref I18)))
    (el18 : K.lookup I18 = some ⟨eo18, eod18, .func (PySem.W.fnOf "__init__" "InvalidTable.__init__" (defArgs s_InvalidTable___init__) (defBody s_InvalidTable___init__) (defScope s_InvalidTable___init__) (.ref T18) ekV18 edc18 epm18 ean18 ecd18 ect18), esl18⟩)
    (et18 : K.lookup T18 = some ⟨toc18, tod18, .seq #[.none] tn18, tsl18⟩)
    (ek18 : PySem.W.codeIn K ecd18 "InvalidTable.__init__" = true)
    (ep18 : PySem.W.keepIn K (.ref I18) = true)
    (er18 : PySem.HandSPX.refsVE bm18 = true)
    (eb18 : iniB K C18 I18 "problem" = true)
    (ea19 : PySem.W.nsIn K mainGlobals "InvalidTags" = some (some (.ref C19)))
    (ec19 : K.lookup C19 = some (excClassObj nm19 q19 C19 N19 bs19 bm19 true sn19 sub19 ab19 col19 dd19 m019 m119 m219 m319 m519 "ValueError.__new__"))
    (ei19 : PySem.W.findIn K (.ref C19) "__init__" = some (some (.ref I19)))
    (el19 : K.lookup I19 = some ⟨eo19, eod19, .func (PySem.W.fnOf "__init__" "InvalidTags.__init__" (defArgs s_InvalidTags___init__) (defBody s_InvalidTags___init__) (defScope s_InvalidTags___init__) (.ref T19) ekV19 edc19 epm19 ean19 ecd19 ect19), esl19⟩)
    (et19 : K.lookup T19 = some ⟨toc19, tod19, .seq #[.none] tn19, tsl19⟩)
    (ek19 : PySem.W.codeIn K ecd19 "InvalidTags.__init__" = true)
    (ep19 : PySem.W.keepIn K (.ref I19) = true)
    (er19 : PySem.HandSPX.refsVE bm19 = true)
    (eb19 : iniB K C19 I19 "problem" = true)
    (ea20 : PySem.W.nsIn K mainGlobals "Unreadable" = some (some (.ref C20)))
    (ec20 : K.lookup C20 = some (excClassObj nm20 q20 C20 N20 bs20 bm20 true sn20 sub20 ab20 col20 dd20 m020 m120 m220 m320 m520 "ValueError.__new__"))
    (ei20 : PySem.W.findIn K (.ref C20) "__init__" = some (some (.ref I20)))
    (el20 : K.lookup I20 = some ⟨eo20, eod20, .func (PySem.W.fnOf "__init__" "Unreadable.__init__" (defArgs s_Unreadable___init__) (defBody s_Unreadable___init__) (defScope s_Unreadable___init__) (.ref T20) ekV20 edc20 epm20 ean20 ecd20 ect20), esl20⟩)
    (et20 : K.lookup T20 = some ⟨toc20, tod20, .seq #[.none] tn20, tsl20⟩)
    (ek20 : PySem.W.codeIn K ecd20 "Unreadable.__init__" = true)
    (ep20 : PySem.W.keepIn K (.ref I20) = true)
    (er20 : PySem.HandSPX.refsVE bm20 = true)
    (eb20 : iniB K C20 I20 "line" = true)
    (ea21 : PySem.W.nsIn K mainGlobals "TooMany" = some (some (.ref C21)))
    (ea22 : PySem.W.nsIn K mainGlobals "NothingToUndo" = some (some (.ref C22)))
    (ea23 : PySem.W.nsIn K mainGlobals "LazyError" = some (some (.ref C23)))
    (eq21 : PySem.W.excIn K C21 bmB "ValueError.__new__" = true)
    (ep21 : PySem.W.keepIn K (.ref C21) = true)
    (eq22 : PySem.W.excIn K C22 bmB "ValueError.__new__" = true)
    (ep22 : PySem.W.keepIn K (.ref C22) = true)
    (eq23 : PySem.W.excIn K C23 bmB "ValueError.__new__" = true)
    (ep23 : PySem.W.keepIn K (.ref C23) = true)
    (eT : tabB K [C0, C1, C2, C3, C4, C5, C6, C7, C8, C9, C10, C11, C12, C13, C14, C15, C16, C17, C18, C19, C20, C21, C22, C23] 23 = true)
    (eU : belowB K [C0, C1, C2, C3, C4, C5, C6, C7, C8, C9, C10, C11, C12, C13, C14, C15, C16, C17, C18, C19, C20, C21, C22, C23] 24 23 = true)
    (eV : PySem.W.kitOne K (.type "ValueError") (.ref C23) = some false)
    (eX : excB K [C0, C1, C2, C3, C4, C5, C6, C7, C8, C9, C10, C11, C12, C13, C14, C15, C16, C17, C18, C19, C20, C21, C22, C23] 24 = true) :
    ∃ fd : FuncData, (∀ (s : Shared) (v : Value), BindsTo s fd ⟨[v], []⟩ [("_law_script", v)]) ∧ ∀ base : Heap, K.In base → base.Ns mainGlobals mg → FnOk l.prog w K mg base CX0 6 fa fd ["_law_script"] (spLaw K) := by
  have F__law_mixed := fun_mk (st := s__law_mixed) l0 c0 k0
  have b__law_mixed := F__law_mixed.binds (ps := ["_law_cell", "_law_k"]) fun _ _ _ _ _ _ us hl => match us, hl with | [_, _], _ => rfl
  have m__law_mixed := PySem.W.mg_of X G a0
  have n__law_mixed := k0
  have F__law_purse := fun_mk (st := s__law_purse) l1 c1 k1
  have b__law_purse := F__law_purse.binds (ps := ["_law_script", "_law_at"]) fun _ _ _ _ _ _ us hl => match us, hl with | [_, _], _ => rfl
  have m__law_purse := PySem.W.mg_of X G a1
  have n__law_purse := k1
  have F__law_draw := fun_mk (st := s__law_draw) l2 c2 k2
  have b__law_draw := F__law_draw.binds (ps := ["_law_purse_here", "_law_out_of"]) fun _ _ _ _ _ _ us hl => match us, hl with | [_, _], _ => rfl
  have m__law_draw := PySem.W.mg_of X G a2
  have n__law_draw := k2
  have F__law_by_place := fun_mk (st := s__law_by_place) l3 c3 k3
  have b__law_by_place := F__law_by_place.binds (ps := ["_law_item"]) fun _ _ _ _ _ _ us hl => match us, hl with | [_], _ => rfl
  have m__law_by_place := PySem.W.mg_of X G a3
  have n__law_by_place := k3
  have F__law_by_name := fun_mk (st := s__law_by_name) l4 c4 k4
  have b__law_by_name := F__law_by_name.binds (ps := ["_law_item"]) fun _ _ _ _ _ _ us hl => match us, hl with | [_], _ => rfl
  have m__law_by_name := PySem.W.mg_of X G a4
  have n__law_by_name := k4
  have F__law_bare := fun_mk (st := s__law_bare) l5 c5 k5
  have b__law_bare := F__law_bare.binds (ps := []) fun _ _ _ _ _ _ us hl => match us, hl with | [], _ => rfl
  have m__law_bare := PySem.W.mg_of X G a5
  have n__law_bare := k5
  have F__law_fields := fun_mk (st := s__law_fields) l6 c6 k6
  have b__law_fields := F__law_fields.binds (ps := ["_law_errors"]) fun _ _ _ _ _ _ us hl => match us, hl with | [_], _ => rfl
  have m__law_fields := PySem.W.mg_of X G a6
  have n__law_fields := k6
  have F__law_classes := fun_mk (st := s__law_classes) l7 c7 k7
  have b__law_classes := F__law_classes.binds (ps := ["_law_error"]) fun _ _ _ _ _ _ us hl => match us, hl with | [_], _ => rfl
  have m__law_classes := PySem.W.mg_of X G a7
  have n__law_classes := k7
  have F_law := fun_mk (st := s_law) l8 c8 k8
  cases hfa.symm.trans (PySem.W.mg_of X G a8)
  have z : Z mg := ⟨PySem.W.mg_none_of X G z_int, PySem.W.mg_none_of X G z_isinstance, PySem.W.mg_none_of X G z_len, PySem.W.mg_none_of X G z_max, PySem.W.mg_none_of X G z_min, PySem.W.mg_none_of X G z_range, PySem.W.mg_none_of X G z_enumerate, PySem.W.mg_none_of X G z_ValueError⟩
  refine ⟨PySem.W.fnOf "law" "law" (defArgs s_law) (defBody s_law) (defScope s_law) .none kV8 dc8 pm8 an8 cd8 ct8, fun s v => .of_eq rfl, fun base _ _ => ?_⟩
  obtain ⟨t0, xf0, ex0, nf0, ti0⟩ := iniB_ok ec0 er0 eb0
  have E_InvalidSize : ErrV l.prog w K mg base "InvalidSize" "size" C0 := ini_InvalidSize ⟨⟨_, _, _, _, _, _, _, _, _, _, rfl, el0, ek0, .inr ⟨(fun z => nomatch z), T0, _, [.none], _, rfl, et0, rfl, .cons rfl .nil⟩, .inl rfl⟩, ep0⟩ t0 nf0 (PySem.W.mg_of X G ea0) xf0 ex0 ei0 ti0
  obtain ⟨t1, xf1, ex1, nf1, ti1⟩ := iniB_ok ec1 er1 eb1
  have E_InvalidMachine : ErrV l.prog w K mg base "InvalidMachine" "thing" C1 := ini_InvalidMachine ⟨⟨_, _, _, _, _, _, _, _, _, _, rfl, el1, ek1, .inr ⟨(fun z => nomatch z), T1, _, [.none], _, rfl, et1, rfl, .cons rfl .nil⟩, .inl rfl⟩, ep1⟩ t1 nf1 (PySem.W.mg_of X G ea1) xf1 ex1 ei1 ti1
  obtain ⟨t2, xf2, ex2, nf2, ti2⟩ := iniB_ok ec2 er2 eb2
  have E_InvalidRow : ErrV l.prog w K mg base "InvalidRow" "thing" C2 := ini_InvalidRow ⟨⟨_, _, _, _, _, _, _, _, _, _, rfl, el2, ek2, .inr ⟨(fun z => nomatch z), T2, _, [.none], _, rfl, et2, rfl, .cons rfl .nil⟩, .inl rfl⟩, ep2⟩ t2 nf2 (PySem.W.mg_of X G ea2) xf2 ex2 ei2 ti2
  obtain ⟨t3, xf3, ex3, nf3, ti3⟩ := iniB_ok ec3 er3 eb3
  have E_InvalidMap : ErrV l.prog w K mg base "InvalidMap" "thing" C3 := ini_InvalidMap ⟨⟨_, _, _, _, _, _, _, _, _, _, rfl, el3, ek3, .inr ⟨(fun z => nomatch z), T3, _, [.none], _, rfl, et3, rfl, .cons rfl .nil⟩, .inl rfl⟩, ep3⟩ t3 nf3 (PySem.W.mg_of X G ea3) xf3 ex3 ei3 ti3
  obtain ⟨t4, xf4, ex4, nf4, ti4⟩ := iniB_ok ec4 er4 eb4
  have E_NotASetting : ErrV l.prog w K mg base "NotASetting" "thing" C4 := ini_NotASetting ⟨⟨_, _, _, _, _, _, _, _, _, _, rfl, el4, ek4, .inr ⟨(fun z => nomatch z), T4, _, [.none], _, rfl, et4, rfl, .cons rfl .nil⟩, .inl rfl⟩, ep4⟩ t4 nf4 (PySem.W.mg_of X G ea4) xf4 ex4 ei4 ti4
  obtain ⟨t5, xf5, ex5, nf5, ti5⟩ := iniB_ok ec5 er5 eb5
  have E_InvalidExpression : ErrV l.prog w K mg base "InvalidExpression" "thing" C5 := ini_InvalidExpression ⟨⟨_, _, _, _, _, _, _, _, _, _, rfl, el5, ek5, .inr ⟨(fun z => nomatch z), T5, _, [.none], _, rfl, et5, rfl, .cons rfl .nil⟩, .inl rfl⟩, ep5⟩ t5 nf5 (PySem.W.mg_of X G ea5) xf5 ex5 ei5 ti5
  obtain ⟨t6, xf6, ex6, nf6, ti6⟩ := iniB_ok ec6 er6 eb6
  have E_InvalidForm : ErrV l.prog w K mg base "InvalidForm" "thing" C6 := ini_InvalidForm ⟨⟨_, _, _, _, _, _, _, _, _, _, rfl, el6, ek6, .inr ⟨(fun z => nomatch z), T6, _, [.none], _, rfl, et6, rfl, .cons rfl .nil⟩, .inl rfl⟩, ep6⟩ t6 nf6 (PySem.W.mg_of X G ea6) xf6 ex6 ei6 ti6
  obtain ⟨t7, xf7, ex7, nf7, ti7⟩ := iniB_ok ec7 er7 eb7
  have E_InvalidRange : ErrV l.prog w K mg base "InvalidRange" "thing" C7 := ini_InvalidRange ⟨⟨_, _, _, _, _, _, _, _, _, _, rfl, el7, ek7, .inr ⟨(fun z => nomatch z), T7, _, [.none], _, rfl, et7, rfl, .cons rfl .nil⟩, .inl rfl⟩, ep7⟩ t7 nf7 (PySem.W.mg_of X G ea7) xf7 ex7 ei7 ti7
  obtain ⟨t8, xf8, ex8, nf8, ti8⟩ := iniB_ok ec8 er8 eb8
  have E_InvalidRecipe : ErrV l.prog w K mg base "InvalidRecipe" "thing" C8 := ini_InvalidRecipe ⟨⟨_, _, _, _, _, _, _, _, _, _, rfl, el8, ek8, .inr ⟨(fun z => nomatch z), T8, _, [.none], _, rfl, et8, rfl, .cons rfl .nil⟩, .inl rfl⟩, ep8⟩ t8 nf8 (PySem.W.mg_of X G ea8) xf8 ex8 ei8 ti8
  obtain ⟨t9, xf9, ex9, nf9, ti9⟩ := iniB_ok ec9 er9 eb9
  have E_InvalidMaps : ErrV l.prog w K mg base "InvalidMaps" "name" C9 := ini_InvalidMaps ⟨⟨_, _, _, _, _, _, _, _, _, _, rfl, el9, ek9, .inr ⟨(fun z => nomatch z), T9, _, [.none], _, rfl, et9, rfl, .cons rfl .nil⟩, .inl rfl⟩, ep9⟩ t9 nf9 (PySem.W.mg_of X G ea9) xf9 ex9 ei9 ti9
  obtain ⟨t10, xf10, ex10, nf10, ti10⟩ := iniB_ok ec10 er10 eb10
  have E_InvalidAsks : ErrV l.prog w K mg base "InvalidAsks" "name" C10 := ini_InvalidAsks ⟨⟨_, _, _, _, _, _, _, _, _, _, rfl, el10, ek10, .inr ⟨(fun z => nomatch z), T10, _, [.none], _, rfl, et10, rfl, .cons rfl .nil⟩, .inl rfl⟩, ep10⟩ t10 nf10 (PySem.W.mg_of X G ea10) xf10 ex10 ei10 ti10
  obtain ⟨t11, xf11, ex11, nf11, ti11⟩ := iniB_ok ec11 er11 eb11
  have E_NoSuchDeed : ErrV l.prog w K mg base "NoSuchDeed" "name" C11 := ini_NoSuchDeed ⟨⟨_, _, _, _, _, _, _, _, _, _, rfl, el11, ek11, .inr ⟨(fun z => nomatch z), T11, _, [.none], _, rfl, et11, rfl, .cons rfl .nil⟩, .inl rfl⟩, ep11⟩ t11 nf11 (PySem.W.mg_of X G ea11) xf11 ex11 ei11 ti11
  obtain ⟨t12, xf12, ex12, nf12, ti12⟩ := iniB_ok ec12 er12 eb12
  have E_NoSuchAsk : ErrV l.prog w K mg base "NoSuchAsk" "name" C12 := ini_NoSuchAsk ⟨⟨_, _, _, _, _, _, _, _, _, _, rfl, el12, ek12, .inr ⟨(fun z => nomatch z), T12, _, [.none], _, rfl, et12, rfl, .cons rfl .nil⟩, .inl rfl⟩, ep12⟩ t12 nf12 (PySem.W.mg_of X G ea12) xf12 ex12 ei12 ti12
  obtain ⟨t13, xf13, ex13, nf13, ti13⟩ := iniB_ok ec13 er13 eb13
  have E_InvalidTurning : ErrV l.prog w K mg base "InvalidTurning" "turning" C13 := ini_InvalidTurning ⟨⟨_, _, _, _, _, _, _, _, _, _, rfl, el13, ek13, .inr ⟨(fun z => nomatch z), T13, _, [.none], _, rfl, et13, rfl, .cons rfl .nil⟩, .inl rfl⟩, ep13⟩ t13 nf13 (PySem.W.mg_of X G ea13) xf13 ex13 ei13 ti13
  obtain ⟨t14, xf14, ex14, nf14, ti14⟩ := iniB_ok ec14 er14 eb14
  have E_InvalidDeeds : ErrV l.prog w K mg base "InvalidDeeds" "place" C14 := ini_InvalidDeeds ⟨⟨_, _, _, _, _, _, _, _, _, _, rfl, el14, ek14, .inr ⟨(fun z => nomatch z), T14, _, [.none], _, rfl, et14, rfl, .cons rfl .nil⟩, .inl rfl⟩, ep14⟩ t14 nf14 (PySem.W.mg_of X G ea14) xf14 ex14 ei14 ti14
  obtain ⟨t15, xf15, ex15, nf15, ti15⟩ := iniB_ok ec15 er15 eb15
  have E_InvalidPlan : ErrV l.prog w K mg base "InvalidPlan" "place" C15 := ini_InvalidPlan ⟨⟨_, _, _, _, _, _, _, _, _, _, rfl, el15, ek15, .inr ⟨(fun z => nomatch z), T15, _, [.none], _, rfl, et15, rfl, .cons rfl .nil⟩, .inl rfl⟩, ep15⟩ t15 nf15 (PySem.W.mg_of X G ea15) xf15 ex15 ei15 ti15
  obtain ⟨t16, xf16, ex16, nf16, ti16⟩ := iniB_ok ec16 er16 eb16
  have E_NotMade : ErrV l.prog w K mg base "NotMade" "place" C16 := ini_NotMade ⟨⟨_, _, _, _, _, _, _, _, _, _, rfl, el16, ek16, .inr ⟨(fun z => nomatch z), T16, _, [.none], _, rfl, et16, rfl, .cons rfl .nil⟩, .inl rfl⟩, ep16⟩ t16 nf16 (PySem.W.mg_of X G ea16) xf16 ex16 ei16 ti16
  obtain ⟨t17, xf17, ex17, nf17, ti17⟩ := iniB_ok ec17 er17 eb17
  have E_InvalidLength : ErrV l.prog w K mg base "InvalidLength" "length" C17 := ini_InvalidLength ⟨⟨_, _, _, _, _, _, _, _, _, _, rfl, el17, ek17, .inr ⟨(fun z => nomatch z), T17, _, [.none], _, rfl, et17, rfl, .cons rfl .nil⟩, .inl rfl⟩, ep17⟩ t17 nf17 (PySem.W.mg_of X G ea17) xf17 ex17 ei17 ti17
  obtain ⟨t18, xf18, ex18, nf18, ti18⟩ := iniB_ok ec18 er18 eb18
  have E_InvalidTable : ErrV l.prog w K mg base "InvalidTable" "problem" C18 := ini_InvalidTable ⟨⟨_, _, _, _, _, _, _, _, _, _, rfl, el18, ek18, .inr ⟨(fun z => nomatch z), T18, _, [.none], _, rfl, et18, rfl, .cons rfl .nil⟩, .inl rfl⟩, ep18⟩ t18 nf18 (PySem.W.mg_of X G ea18) xf18 ex18 ei18 ti18
  obtain ⟨t19, xf19, ex19, nf19, ti19⟩ := iniB_ok ec19 er19 eb19
  have E_InvalidTags : ErrV l.prog w K mg base "InvalidTags" "problem" C19 := ini_InvalidTags ⟨⟨_, _, _, _, _, _, _, _, _, _, rfl, el19, ek19, .inr ⟨(fun z => nomatch z), T19, _, [.none], _, rfl, et19, rfl, .cons rfl .nil⟩, .inl rfl⟩, ep19⟩ t19 nf19 (PySem.W.mg_of X G ea19) xf19 ex19 ei19 ti19
  obtain ⟨t20, xf20, ex20, nf20, ti20⟩ := iniB_ok ec20 er20 eb20
  have E_Unreadable : ErrV l.prog w K mg base "Unreadable" "line" C20 := ini_Unreadable ⟨⟨_, _, _, _, _, _, _, _, _, _, rfl, el20, ek20, .inr ⟨(fun z => nomatch z), T20, _, [.none], _, rfl, et20, rfl, .cons rfl .nil⟩, .inl rfl⟩, ep20⟩ t20 nf20 (PySem.W.mg_of X G ea20) xf20 ex20 ei20 ti20
  have er : Er l.prog w K mg base (csOf [C0, C1, C2, C3, C4, C5, C6, C7, C8, C9, C10, C11, C12, C13, C14, C15, C16, C17, C18, C19, C20, C21, C22, C23]) := { InvalidSize := E_InvalidSize, InvalidMachine := E_InvalidMachine, InvalidRow := E_InvalidRow, InvalidMap := E_InvalidMap, NotASetting := E_NotASetting, InvalidExpression := E_InvalidExpression, InvalidForm := E_InvalidForm, InvalidRange := E_InvalidRange, InvalidRecipe := E_InvalidRecipe, InvalidMaps := E_InvalidMaps, InvalidAsks := E_InvalidAsks, NoSuchDeed := E_NoSuchDeed, NoSuchAsk := E_NoSuchAsk, InvalidTurning := E_InvalidTurning, InvalidDeeds := E_InvalidDeeds, InvalidPlan := E_InvalidPlan, NotMade := E_NotMade, InvalidLength := E_InvalidLength, InvalidTable := E_InvalidTable, InvalidTags := E_InvalidTags, Unreadable := E_Unreadable, g_TooMany := PySem.W.mg_of X G ea21, q_TooMany := eq21, k_TooMany := ep21, x_TooMany := excB_ok eX 21 (by decide), g_NothingToUndo := PySem.W.mg_of X G ea22, q_NothingToUndo := eq22, k_NothingToUndo := ep22, x_NothingToUndo := excB_ok eX 22 (by decide), g_LazyError := PySem.W.mg_of X G ea23, q_LazyError := eq23, k_LazyError := ep23, x_LazyError := excB_ok eX 23 (by decide), tab := tabB_ok eT, below := belowB_ok eU, notB := eV, exc := excB_ok eX }
  have C_mixed : Cal l.prog w K mg base CX0 "_law_mixed" 1 ["_law_cell", "_law_k"] spMixed := ⟨_, _, ok_mixed z F__law_mixed, m__law_mixed, n__law_mixed, b__law_mixed⟩
  have C_draw : Cal l.prog w K mg base CX0 "_law_draw" 2 ["_law_purse_here", "_law_out_of"] spDraw := ⟨_, _, ok_draw z C_mixed F__law_draw, m__law_draw, n__law_draw, b__law_draw⟩
  have C_purse : Cal l.prog w K mg base CX0 "_law_purse" 1 ["_law_script", "_law_at"] (spPurse K) := ⟨_, _, ok_purse z F__law_purse, m__law_purse, n__law_purse, b__law_purse⟩
  have C_place := (⟨_, _, ok_by_place z er F__law_by_place, m__law_by_place, n__law_by_place, b__law_by_place⟩ : Cal l.prog w K mg base CX0 "_law_by_place" 3 ["_law_item"] _)
  have C_name := (⟨_, _, ok_by_name z er F__law_by_name, m__law_by_name, n__law_by_name, b__law_by_name⟩ : Cal l.prog w K mg base CX0 "_law_by_name" 3 ["_law_item"] _)
  have C_bare := (⟨_, _, ok_bare z er F__law_bare, m__law_bare, n__law_bare, b__law_bare⟩ : Cal l.prog w K mg base CX0 "_law_bare" 3 [] _)
  have C_fields := (⟨_, _, ok_fields z er F__law_fields, m__law_fields, n__law_fields, b__law_fields⟩ : Cal l.prog w K mg base CX0 "_law_fields" 1 ["_law_errors"] _)
  have C_classes := (⟨_, _, ok_classes z er F__law_classes, m__law_classes, n__law_classes, b__law_classes⟩ : Cal l.prog w K mg base CX0 "_law_classes" 1 ["_law_error"] _)
  exact ok_law z er C_purse C_draw C_place C_name C_bare C_fields C_classes F_law
end K06
open PySem PySem.W PyProof.Rows LT in
set_option maxRecDepth 100000 in
set_option maxHeartbeats 0 in
theorem PySem.Challenge.cw_lazytags_k06_errors_and_their_fields_holds : PySem.Challenge.rw_lazytags_k06_errors_and_their_fields.Holds := by
  w_on; o_law; k_head; (case hw => w_witness2)
  k_fill
  refine L2.walk_ofK (n := 63) (k := 6) (x := "_law_script") (CX := L2.CX0) (sp := K06.spLaw) rfl (by decide) rfl ⟨rfl, by decide, by decide⟩ (fun w h Y => PySem.W.kIn_of Y) ?F (fun K H a ns hl _ hS => ⟨a, ns, rfl, hS, hl, fun _ => rfl⟩) fun _ _ _ _ z => z
  case F =>
    intro w mg fa h KX G hmg
    refine' K06.all_mk KX G hmg ?a0 ?l0 ?c0 ?k0 ?a1 ?l1 ?c1 ?k1 ?a2 ?l2 ?c2 ?k2 ?a3 ?l3 ?c3 ?k3 ?a4 ?l4 ?c4 ?k4 ?a5 ?l5 ?c5 ?k5 ?a6 ?l6 ?c6 ?k6 ?a7 ?l7 ?c7 ?k7 ?a8 ?l8 ?c8 ?k8 ?z_int ?z_isinstance ?z_len ?z_max ?z_min ?z_range ?z_enumerate ?z_ValueError ?ea0 ?ec0 ?ei0 ?el0 ?et0 ?ek0 ?ep0 ?er0 ?eb0 ?ea1 ?ec1 ?ei1 ?el1 ?et1 ?ek1 ?ep1 ?er1 ?eb1 ?ea2 ?ec2 ?ei2 ?el2 ?et2 ?ek2 ?ep2 ?er2 ?eb2 ?ea3 ?ec3 ?ei3 ?el3 ?et3 ?ek3 ?ep3 ?er3 ?eb3 ?ea4 ?ec4 ?ei4 ?el4 ?et4 ?ek4 ?ep4 ?er4 ?eb4 ?ea5 ?ec5 ?ei5 ?el5 ?et5 ?ek5 ?ep5 ?er5 ?eb5 ?ea6 ?ec6 ?ei6 ?el6 ?et6 ?ek6 ?ep6 ?er6 ?eb6 ?ea7 ?ec7 ?ei7 ?el7 ?et7 ?ek7 ?ep7 ?er7 ?eb7 ?ea8 ?ec8 ?ei8 ?el8 ?et8 ?ek8 ?ep8 ?er8 ?eb8 ?ea9 ?ec9 ?ei9 ?el9 ?et9 ?ek9 ?ep9 ?er9 ?eb9 ?ea10 ?ec10 ?ei10 ?el10 ?et10 ?ek10 ?ep10 ?er10 ?eb10 ?ea11 ?ec11 ?ei11 ?el11 ?et11 ?ek11 ?ep11 ?er11 ?eb11 ?ea12 ?ec12 ?ei12 ?el12 ?et12 ?ek12 ?ep12 ?er12 ?eb12 ?ea13 ?ec13 ?ei13 ?el13 ?et13 ?ek13 ?ep13 ?er13 ?eb13 ?ea14 ?ec14 ?ei14 ?el14 ?et14 ?ek14 ?ep14 ?er14 ?eb14 ?ea15 ?ec15 ?ei15 ?el15 ?et15 ?ek15 ?ep15 ?er15 ?eb15 ?ea16 ?ec16 ?ei16 ?el16 ?et16 ?ek16 ?ep16 ?er16 ?eb16 ?ea17 ?ec17 ?ei17 ?el17 ?et17 ?ek17 ?ep17 ?er17 ?eb17 ?ea18 ?ec18 ?ei18 ?el18 ?et18 ?ek18 ?ep18 ?er18 ?eb18 ?ea19 ?ec19 ?ei19 ?el19 ?et19 ?ek19 ?ep19 ?er19 ?eb19 ?ea20 ?ec20 ?ei20 ?el20 ?et20 ?ek20 ?ep20 ?er20 ?eb20 ?ea21 ?ea22 ?ea23 ?eq21 ?ep21 ?eq22 ?ep22 ?eq23 ?ep23 ?eT ?eU ?eV ?eX
    (case a0 => k_is)
    (case l0 => k_is)
    (case c0 => k_is)
    (case k0 => k_is)
    (case a1 => k_is)
    (case l1 => k_is)
    (case c1 => k_is)
    (case k1 => k_is)
    (case a2 => k_is)
    (case l2 => k_is)
    (case c2 => k_is)
    (case k2 => k_is)
    (case a3 => k_is)
    (case l3 => k_is)
    (case c3 => k_is)
    (case k3 => k_is)
    (case a4 => k_is)
    (case l4 => k_is)
    (case c4 => k_is)
    (case k4 => k_is)
    (case a5 => k_is)
    (case l5 => k_is)
    (case c5 => k_is)
    (case k5 => k_is)
    (case a6 => k_is)
    (case l6 => k_is)
    (case c6 => k_is)
    (case k6 => k_is)
    (case a7 => k_is)
    (case l7 => k_is)
    (case c7 => k_is)
    (case k7 => k_is)
    (case a8 => k_is)
    (case l8 => k_is)
    (case c8 => k_is)
    (case k8 => k_is)
    (case z_int => k_is)
    (case z_isinstance => k_is)
    (case z_len => k_is)
    (case z_max => k_is)
    (case z_min => k_is)
    (case z_range => k_is)
    (case z_enumerate => k_is)
    (case z_ValueError => k_is)
    (case ea0 => k_is)
    (case ec0 => k_is)
    (case ei0 => k_is)
    (case el0 => k_is)
    (case et0 => k_is)
    (case ek0 => k_is)
    (case ep0 => k_is)
    (case ea1 => k_is)
    (case ec1 => k_is)
    (case ei1 => k_is)
    (case el1 => k_is)
    (case et1 => k_is)
    (case ek1 => k_is)
    (case ep1 => k_is)
    (case ea2 => k_is)
    (case ec2 => k_is)
    (case ei2 => k_is)
    (case el2 => k_is)
    (case et2 => k_is)
    (case ek2 => k_is)
    (case ep2 => k_is)
    (case ea3 => k_is)
    (case ec3 => k_is)
    (case ei3 => k_is)
    (case el3 => k_is)
    (case et3 => k_is)
    (case ek3 => k_is)
    (case ep3 => k_is)
    (case ea4 => k_is)
    (case ec4 => k_is)
    (case ei4 => k_is)
    (case el4 => k_is)
    (case et4 => k_is)
    (case ek4 => k_is)
    (case ep4 => k_is)
    (case ea5 => k_is)
    (case ec5 => k_is)
    (case ei5 => k_is)
    (case el5 => k_is)
    (case et5 => k_is)
    (case ek5 => k_is)
    (case ep5 => k_is)
    (case ea6 => k_is)
    (case ec6 => k_is)
    (case ei6 => k_is)
    (case el6 => k_is)
    (case et6 => k_is)
    (case ek6 => k_is)
    (case ep6 => k_is)
    (case ea7 => k_is)
    (case ec7 => k_is)
    (case ei7 => k_is)
    (case el7 => k_is)
    (case et7 => k_is)
    (case ek7 => k_is)
    (case ep7 => k_is)
    (case ea8 => k_is)
    (case ec8 => k_is)
    (case ei8 => k_is)
    (case el8 => k_is)
    (case et8 => k_is)
    (case ek8 => k_is)
    (case ep8 => k_is)
    (case ea9 => k_is)
    (case ec9 => k_is)
    (case ei9 => k_is)
    (case el9 => k_is)
    (case et9 => k_is)
    (case ek9 => k_is)
    (case ep9 => k_is)
    (case ea10 => k_is)
    (case ec10 => k_is)
    (case ei10 => k_is)
    (case el10 => k_is)
    (case et10 => k_is)
    (case ek10 => k_is)
    (case ep10 => k_is)
    (case ea11 => k_is)
    (case ec11 => k_is)
    (case ei11 => k_is)
    (case el11 => k_is)
    (case et11 => k_is)
    (case ek11 => k_is)
    (case ep11 => k_is)
    (case ea12 => k_is)
    (case ec12 => k_is)
    (case ei12 => k_is)
    (case el12 => k_is)
    (case et12 => k_is)
    (case ek12 => k_is)
    (case ep12 => k_is)
    (case ea13 => k_is)
    (case ec13 => k_is)
    (case ei13 => k_is)
    (case el13 => k_is)
    (case et13 => k_is)
    (case ek13 => k_is)
    (case ep13 => k_is)
    (case ea14 => k_is)
    (case ec14 => k_is)
    (case ei14 => k_is)
    (case el14 => k_is)
    (case et14 => k_is)
    (case ek14 => k_is)
    (case ep14 => k_is)
    (case ea15 => k_is)
    (case ec15 => k_is)
    (case ei15 => k_is)
    (case el15 => k_is)
    (case et15 => k_is)
    (case ek15 => k_is)
    (case ep15 => k_is)
    (case ea16 => k_is)
    (case ec16 => k_is)
    (case ei16 => k_is)
    (case el16 => k_is)
    (case et16 => k_is)
    (case ek16 => k_is)
    (case ep16 => k_is)
    (case ea17 => k_is)
    (case ec17 => k_is)
    (case ei17 => k_is)
    (case el17 => k_is)
    (case et17 => k_is)
    (case ek17 => k_is)
    (case ep17 => k_is)
    (case ea18 => k_is)
    (case ec18 => k_is)
    (case ei18 => k_is)
    (case el18 => k_is)
    (case et18 => k_is)
    (case ek18 => k_is)
    (case ep18 => k_is)
    (case ea19 => k_is)
    (case ec19 => k_is)
    (case ei19 => k_is)
    (case el19 => k_is)
    (case et19 => k_is)
    (case ek19 => k_is)
    (case ep19 => k_is)
    (case ea20 => k_is)
    (case ec20 => k_is)
    (case ei20 => k_is)
    (case el20 => k_is)
    (case et20 => k_is)
    (case ek20 => k_is)
    (case ep20 => k_is)
    (case ea21 => k_is)
    (case ea22 => k_is)
    (case ea23 => k_is)
    (case ep21 => k_is)
    (case ep22 => k_is)
    (case ep23 => k_is)
    (case er0 => kernel_rfl)
    (case eb0 => kernel_rfl)
    (case er1 => kernel_rfl)
    (case eb1 => kernel_rfl)
    (case er2 => kernel_rfl)
    (case eb2 => kernel_rfl)
    (case er3 => kernel_rfl)
    (case eb3 => kernel_rfl)
    (case er4 => kernel_rfl)
    (case eb4 => kernel_rfl)
    (case er5 => kernel_rfl)
    (case eb5 => kernel_rfl)
    (case er6 => kernel_rfl)
    (case eb6 => kernel_rfl)
    (case er7 => kernel_rfl)
    (case eb7 => kernel_rfl)
    (case er8 => kernel_rfl)
    (case eb8 => kernel_rfl)
    (case er9 => kernel_rfl)
    (case eb9 => kernel_rfl)
    (case er10 => kernel_rfl)
    (case eb10 => kernel_rfl)
    (case er11 => kernel_rfl)
    (case eb11 => kernel_rfl)
    (case er12 => kernel_rfl)
    (case eb12 => kernel_rfl)
    (case er13 => kernel_rfl)
    (case eb13 => kernel_rfl)
    (case er14 => kernel_rfl)
    (case eb14 => kernel_rfl)
    (case er15 => kernel_rfl)
    (case eb15 => kernel_rfl)
    (case er16 => kernel_rfl)
    (case eb16 => kernel_rfl)
    (case er17 => kernel_rfl)
    (case eb17 => kernel_rfl)
    (case er18 => kernel_rfl)
    (case eb18 => kernel_rfl)
    (case er19 => kernel_rfl)
    (case eb19 => kernel_rfl)
    (case er20 => kernel_rfl)
    (case eb20 => kernel_rfl)
    (case eq21 => kernel_rfl)
    (case eq22 => kernel_rfl)
    (case eq23 => kernel_rfl)
    (case eT => kernel_rfl)
    (case eU => kernel_rfl)
    (case eV => kernel_rfl)
    (case eX => kernel_rfl)
