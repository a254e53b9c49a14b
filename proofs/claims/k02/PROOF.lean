import PyProof.Rows.All
import Wide.All
import OpenK.AllK
import Wide.FinOn
import HandS.ForMost
import HandS.IsInst
import HandS.TupAny
import HandS.Conv
import PyProof.EnumMake
import PyProof.Draws
import KE.GoesMore
import HandS.Walk
import HandS.ForExc
import HandS.ExcInit
import HandS.ExcField
import HandS.ExcIs
import HandS.Defaults
import HandS.CallSlots
import KE.KExcIs
import HandS.More
import HandS.Dict
import HandS.ExcValue
import HandS.ExcOwn
import PyProof.ExcBaseAll.ValueError
import HandS.WordsExc
import HandS.TupMul
import PySem.Challenge.RW_lazytags_k02_machines_checked
set_option Elab.async false
set_option linter.all false
set_option maxRecDepth 100000
set_option maxHeartbeats 4000000
namespace LT
open PySem PySem.Spec PyProof.Rows L2
/-! ## 1. a def that is called by its name -/
structure Cal (P : Program) (w : World) (K : PySem.W.Frag) (mg : Str → Option Value) (base : Heap) (CX : CXT) (x : Str) (k : Nat) (ps : List Str) (sp : Sp) : Prop where
  ex : ∃ f fd, FnOk P w K mg base CX k f fd ps sp ∧ mg x = some (.ref f) ∧ PySem.W.keepIn K (.ref f) = true ∧ Binds K fd ps []
/-- .. by keywords alone, named ks, which g puts in the parameters' order -/
structure CalK (P : Program) (w : World) (K : PySem.W.Frag) (mg : Str → Option Value) (base : Heap) (CX : CXT) (x : Str) (k : Nat) (ps ks : List Str) (gV : List V → List V) (sp : Sp) : Prop where
  ex : ∃ (f : Addr) (fd : FuncData) (g : List Value → List Value → List Value) (gW : List V → List V → List V), FnOk P w K mg base CX k f fd ps sp ∧ mg x = some (.ref f) ∧ PySem.W.keepIn K (.ref f) = true ∧ KBinds K fd ps ks g gW ∧ ∀ zs, gW [] zs = gV zs
section
variable {X : Cx} {CX : CXT} {k j : Nat} {x : Str} {ps ks : List Str} {sp : Sp} {p pos : Pos} {e : Expr} {es : List Expr} {kws : List Keyword} {t tk : TA} {E : XK} {gV : List V → List V}
theorem pe_cal (c : Cal X.prog X.w X.K X.mg X.base CX x k ps sp) (hr : Room j X.A) (hg : Gl X x) (hx : Passes CX X E) (ha : PA X (e :: es) t) (hj : k ≤ j := by decide)
    (hdb : (x == ("__debug__" : Str)) = false := by decide) (he : starEach (e :: es) X.env = (false, eval e X.env) :: starEach es X.env := by rfl)
    (hpl : (backTo pos (starEach es X.env)).any (·.1) = false := by rfl) : PE X (.Call (.Name x p) (e :: es) [] pos) (tCall sp [] E t) := by
  obtain ⟨f, fd, F, hm, hk, hb⟩ := c.ex
  exact pe_call F (hr.mono hj) hg hm hk hb .nil hx ha hdb he hpl
theorem pe_cal0 (c : Cal X.prog X.w X.K X.mg X.base CX x k ps sp) (hr : Room j X.A) (hg : Gl X x) (hx : Passes CX X E) (hj : k ≤ j := by decide)
    (hdb : (x == ("__debug__" : Str)) = false := by decide) : PE X (.Call (.Name x p) [] [] pos) (tCall sp [] E tNil) := by
  obtain ⟨f, fd, F, hm, hk, hb⟩ := c.ex
  exact pe_call0 F (hr.mono hj) hg hm hk hb .nil hx hdb
def tCalK0 (sp : Sp) (gV : List V → List V) (E : XK) (tk : TA) : TE := fun σ H Q => tk σ H fun zs H2 => sp (gV zs) H2 Q E
theorem pe_calK0 (c : CalK X.prog X.w X.K X.mg X.base CX x k ps ks gV sp) (hr : Room j X.A) (hg : Gl X x) (hx : Passes CX X E) (hkw : PK X kws tk) (hj : k ≤ j := by decide)
    (hall : (backToKw pos (keywordEach kws X.env)).all (·.1.isSome) = true := by rfl) (hks : (backToKw pos (keywordEach kws X.env)).filterMap (·.1) = ks := by rfl)
    (hdb : (x == ("__debug__" : Str)) = false := by decide)
    (hpl : ((backTo pos (starEach [] X.env)).any (·.1) || (backToKw pos (keywordEach kws X.env)).any (·.1.isNone)) = false := by rfl) :
    PE X (.Call (.Name x p) [] kws pos) (tCalK0 sp gV E tk) := by
  obtain ⟨f, fd, g, gW, F, hm, hk, hb, he⟩ := c.ex
  constructor
  intro pins s σ H Q I h
  apply wpAny_Call_Name_kw
  apply ld_glob I hg hm _ hdb
  apply PySem.W.callWith_KW0 (h₀ := X.base) I.ok.mod.kin hk hall _ hpl
  refine thn (hkw.run pos pins s σ H _ I h) ?_
  rintro ws s2 ⟨zs, H2, I2, rz, q2⟩
  refine And.intro I2.kIn ?_
  rw [hks]
  exact run_fnk (us := []) (vs := []) F (hr.mono hj) hb hx I2 .nil rz (by rw [he]; exact q2)
end
section
variable {P : Program} {w : World} {K : PySem.W.Frag} {mg : Str → Option Value} {base : Heap} {CX : CXT} {k : Nat} {x : Str} {f : Addr} {fd : FuncData} {ps ks : List Str} {sp : Sp}
theorem vals_rev : ∀ {zs : List V} {ws : List Value}, Vals zs ws → Vals zs.reverse ws.reverse
  | _, _, .nil => .nil
  | _, _, .cons a r => by
    rw [List.reverse_cons, List.reverse_cons]
    exact Vals.append (vals_rev r) (.cons a .nil)
theorem CalK.of {g : List Value → List Value} {gV : List V → List V} (F : FnOk P w K mg base CX k f fd ps sp) (hm : mg x = some (.ref f)) (hk : PySem.W.keepIn K (.ref f) = true) (ne : ps ≠ [])
    (to : ∀ (s : Shared) (ws : List Value), (g ws).length = ps.length → BindsTo s fd ⟨[], ks.zip ws⟩ (ps.zip (g ws)))
    (rel : ∀ (zs : List V) (ws : List Value), Vals zs ws → Vals (gV zs) (g ws)) : CalK P w K mg base CX x k ps ks gV sp := by
  refine ⟨f, fd, fun us ws => match us with | [] => g ws | _ :: _ => [], fun vs zs => match vs with | [] => gV zs | _ :: _ => [], F, hm, hk, ⟨?_, ?_⟩, fun _ => rfl⟩
  · intro s us ws _ hl
    cases us with
    | nil => exact to s ws hl
    | cons a b =>
      cases ps with
      | nil => exact absurd rfl ne
      | cons c d => cases hl
  · intro vs us zs ws r rz
    cases r with
    | nil => exact rel zs ws rz
    | cons a b => exact .nil
end
/-! ## 2. numbers -/
section
variable {X : Cx}
def CPowB (i j : Int) : Prop := 0 ≤ j ∧ ((Builtin.Int.intBits i : Nat) : Int) * j ≤ 2 ^ 27
theorem op_powB : OpR X (binaryOp .Pow) (rI CPowB fun i j => .int (i ^ j.toNat)) :=
  opI fun _ _ _ _ _ _ _ c q => PyProof.Rows.pow_int c.1 c.2 q
end
/-! ## 3. data, and what stays of the heap -/
/-- data: tuples told whole, lists and dicts by their place -/
inductive D where
  | non | bl (b : Bool) | int (i : Int) | str (s : Str) | tup (ds : List D) | lst (a : Addr) | dct (a : Addr)
mutual
inductive Rp (H : Hp) : V → D → Prop
  | non : Rp H .non .non
  | bl (b : Bool) : Rp H (.bl b) (.bl b)
  | int (i : Int) : Rp H (.int i) (.int i)
  | str (x : Str) : Rp H (.str x) (.str x)
  | tup {a : Addr} {xs : List V} {ds : List D} : H a = some (.tup xs) → RpAll H xs ds → Rp H (.ref a) (.tup ds)
  | lst {a : Addr} {xs : List V} : H a = some (.lst xs) → Rp H (.ref a) (.lst a)
  | dct {a : Addr} {kvs : List (Key × V)} : H a = some (.dK kvs) → Rp H (.ref a) (.dct a)
inductive RpAll (H : Hp) : List V → List D → Prop
  | nil : RpAll H [] []
  | cons {v : V} {vs : List V} {d : D} {ds : List D} : Rp H v d → RpAll H vs ds → RpAll H (v :: vs) (d :: ds)
end
def alike : HO → HO → Prop
  | .tup xs, o => o = .tup xs
  | .lst _, o => ∃ ys, o = .lst ys
  | .dK _, o => ∃ kvs, o = .dK kvs
  | o, o' => o' = o
theorem alike_refl (o : HO) : alike o o := by
  cases o <;> first | rfl | exact ⟨_, rfl⟩
theorem alike_trans {a b c : HO} (h : alike a b) (g : alike b c) : alike a c := by
  cases a with
  | lst xs => obtain ⟨ys, rfl⟩ := h; exact g
  | dK xs => obtain ⟨ys, rfl⟩ := h; exact g
  | _ => cases h; exact g
/-- behind it all stands as it was, but what is at M; and tuples are tuples, lists are lists -/
structure Fx (M : List Addr) (H H' : Hp) : Prop where
  keep : ∀ b o, b ∉ M → H b = some o → H' b = some o
  kind : ∀ b o, H b = some o → ∃ o', H' b = some o' ∧ alike o o'
section
variable {M M' : List Addr} {H H1 H2 : Hp} {p : Addr} {o : HO} {xs ys : List V} {v : V} {d : D}
theorem Fx.refl (M : List Addr) (H : Hp) : Fx M H H := ⟨fun _ _ _ h => h, fun _ o h => ⟨o, h, alike_refl o⟩⟩
theorem Fx.trans (a : Fx M H H1) (b : Fx M H1 H2) : Fx M H H2 := by
  constructor
  · intro x o hx h
    exact b.keep x o hx (a.keep x o hx h)
  · intro x o h
    obtain ⟨o1, h1, k1⟩ := a.kind x o h
    obtain ⟨o2, h2, k2⟩ := b.kind x o1 h1
    exact ⟨o2, h2, alike_trans k1 k2⟩
theorem Fx.new (M : List Addr) (h : H p = none) : Fx M H (upd H p o) := by
  have e : ∀ b u, H b = some u → upd H p o b = some u := by
    intro b u hb
    rw [upd_ne (ne_of_none hb h)]
    exact hb
  exact ⟨fun b u _ hb => e b u hb, fun b u hb => ⟨u, e b u hb, alike_refl u⟩⟩
theorem Fx.put (hm : p ∈ M) (h : H p = some (.lst xs)) : Fx M H (upd H p (.lst ys)) := by
  constructor
  · intro b u hb q
    rw [upd_ne (by rintro rfl; exact hb hm)]
    exact q
  · intro b u q
    by_cases e : b = p
    · subst e
      rw [h] at q
      cases q
      exact ⟨_, upd_same, _, rfl⟩
    · exact ⟨u, (upd_ne e).trans q, alike_refl u⟩
theorem Fx.mono (h : Fx M H H1) (s : ∀ b, b ∈ M → b ∈ M') : Fx M' H H1 := ⟨fun b o hb => h.keep b o fun z => hb (s b z), h.kind⟩
/-- what was not there when it began may change -/
theorem Fx.drop (a : Fx [] H H1) (b : Fx [p] H1 H2) (h : H p = none) : Fx [] H H2 := by
  constructor
  · intro x o _ e
    have ne : x ≠ p := ne_of_none e h
    exact b.keep x o (by rw [List.mem_singleton]; exact ne) (a.keep x o (fun z => nomatch z) e)
  · intro x o e
    obtain ⟨o1, h1, k1⟩ := a.kind x o e
    obtain ⟨o2, h2, k2⟩ := b.kind x o1 h1
    exact ⟨o2, h2, alike_trans k1 k2⟩
theorem Fx.sql {K : PySem.W.Frag} {a : Addr} (h : Fx [] H H1) (e : SqL K H a xs) : SqL K H1 a xs := by
  have k : ∀ o, H a = some o → H1 a = some o := fun o q => h.keep a o (fun z => nomatch z) q
  rcases e with (e | ⟨o, e⟩) | e
  · exact .inl (.inl (k _ e))
  · exact .inl (.inr ⟨o, k _ e⟩)
  · exact .inr e
theorem Fx.any (h : Fx [] H H1) : Fx M H H1 := h.mono fun _ z => nomatch z
theorem Fx.tup (h : Fx M H H1) (e : H p = some (.tup xs)) : H1 p = some (.tup xs) := by
  obtain ⟨o, e1, k⟩ := h.kind p _ e
  rw [e1]
  exact congrArg some k
theorem Fx.all (h : Fx [] H H1) (e : H p = some o) : H1 p = some o := h.keep p o (fun z => nomatch z) e
theorem Fx.fresh (h : Fx M H H1) (e : H1 p = none) : H p = none := by
  cases q : H p with
  | none => rfl
  | some u =>
    obtain ⟨o1, h1, _⟩ := h.kind p u q
    rw [e] at h1
    cases h1
mutual
theorem Fx.rp (h : Fx M H H1) : ∀ {v : V} {d : D}, Rp H v d → Rp H1 v d
  | _, _, .non => .non
  | _, _, .bl b => .bl b
  | _, _, .int i => .int i
  | _, _, .str x => .str x
  | _, _, .tup e r => .tup (h.tup e) (h.rpAll r)
  | _, _, .lst e => by
    obtain ⟨o, e1, ys, k⟩ := h.kind _ _ e
    subst k
    exact .lst e1
  | _, _, .dct e => by
    obtain ⟨o, e1, ys, k⟩ := h.kind _ _ e
    subst k
    exact .dct e1
theorem Fx.rpAll (h : Fx M H H1) : ∀ {vs : List V} {ds : List D}, RpAll H vs ds → RpAll H1 vs ds
  | _, _, .nil => .nil
  | _, _, .cons a b => .cons (h.rp a) (h.rpAll b)
end
theorem RpAll.len : ∀ {vs : List V} {ds : List D}, RpAll H vs ds → vs.length = ds.length
  | _, _, .nil => rfl
  | _, _, .cons _ b => by rw [List.length_cons, List.length_cons, b.len]
theorem RpAll.at : ∀ {vs : List V} {ds : List D} {i : Nat} {v : V}, RpAll H vs ds → vs[i]? = some v → ∃ d, ds[i]? = some d ∧ Rp H v d
  | _, _, _, _, .nil, h => by simp at h
  | _, _, 0, _, .cons a _, h => ⟨_, rfl, by cases h; exact a⟩
  | _, _, i + 1, _, .cons _ b, h => RpAll.at (i := i) b h
theorem RpAll.atD : ∀ {vs : List V} {ds : List D} {i : Nat} {d : D}, RpAll H vs ds → ds[i]? = some d → ∃ v, vs[i]? = some v ∧ Rp H v d
  | _, _, _, _, .nil, h => by simp at h
  | _, _, 0, _, .cons a _, h => ⟨_, rfl, by cases h; exact a⟩
  | _, _, i + 1, _, .cons _ b, h => RpAll.atD (i := i) b h
theorem RpAll.snoc : ∀ {vs : List V} {ds : List D} {v : V} {d : D}, RpAll H vs ds → Rp H v d → RpAll H (vs ++ [v]) (ds ++ [d])
  | _, _, _, _, .nil, h => .cons h .nil
  | _, _, _, _, .cons a b, h => .cons a (b.snoc h)
theorem Rp.tup_inv {ds : List D} (h : Rp H v (.tup ds)) : ∃ a xs, v = .ref a ∧ H a = some (.tup xs) ∧ RpAll H xs ds := by
  cases h with
  | tup e r => exact ⟨_, _, rfl, e, r⟩
theorem Rp.int_inv {i : Int} (h : Rp H v (.int i)) : v = .int i := by cases h; rfl
/-- tuples of ints -/
def intsD (ns : List Int) : D := .tup (ns.map .int)
theorem RpAll.intsA : ∀ {vs : List V} {ns : List Int}, RpAll H vs (ns.map .int) → vs = ns.map V.int
  | _, [], .nil => rfl
  | _, n :: ns, .cons a b => by rw [a.int_inv, b.intsA]; rfl
theorem RpAll.of_ints (H : Hp) : ∀ (ns : List Int), RpAll H (ns.map V.int) (ns.map .int)
  | [] => .nil
  | n :: ns => .cons (.int n) (RpAll.of_ints H ns)
theorem Rp.ints_inv {ns : List Int} (h : Rp H v (intsD ns)) : ∃ a, v = .ref a ∧ H a = some (.tup (ns.map V.int)) := by
  obtain ⟨a, xs, rfl, e, r⟩ := h.tup_inv
  rw [r.intsA] at e
  exact ⟨a, rfl, e⟩
theorem Rp.of_ints {a : Addr} {ns : List Int} (h : H a = some (.tup (ns.map V.int))) : Rp H (.ref a) (intsD ns) := .tup h (RpAll.of_ints H ns)
end
/-! ## 4. isinstance -/
def D.ty : D → String
  | .non => "NoneType" | .bl _ => "bool" | .int _ => "int" | .str _ => "str" | .tup _ => "tuple" | .lst _ => "list" | .dct _ => "dict"
theorem Rp.tyx {K : PySem.W.Frag} {H : Hp} {v : V} {d : D} (h : Rp H v d) : TyX K H v (.type d.ty) := by
  cases h with
  | non => exact .base .non
  | bl b => exact .base (.bl b)
  | int i => exact .base (.int i)
  | str x => exact .base (.str x)
  | tup e r => exact .base (.tup e)
  | lst e => exact .base (.lst e)
  | dct e => exact .base (.dK e)
def isTy (n : String) (d : D) : Bool := (kitB d.ty n).getD false
theorem isi_rp {K : PySem.W.Frag} {H : Hp} {v : V} {d : D} {n : String} {Q : VK} (h : Rp H v d) (hn : n ∈ ["int", "bool", "tuple", "list", "str", "dict"]) (q : Q (.bl (isTy n d)) H) : rIsi K [v, .ty n] H Q := by
  refine ⟨v, .ty n, .type d.ty, .type n, isTy n d, rfl, .ty n, h.tyx, kit_ty ?_, q⟩
  unfold isTy
  have key : ∀ t ∈ ["NoneType", "bool", "int", "str", "tuple", "list", "dict"], ∀ n ∈ ["int", "bool", "tuple", "list", "str", "dict"], (kitB t n).isSome = true := by decide +kernel
  have s := key d.ty (by cases d <;> simp [D.ty]) n hn
  cases e : kitB d.ty n with
  | none => rw [e] at s; cases s
  | some b => rfl
end LT
/-! enumerate(t), t a tuple -/
namespace PySem
namespace LTE
open Sem (wp)
open AutoSeq1 (wpAny_loadPart')
theorem makes_enum {v : Value} {o : Obj} {G : Heap → Prop} (B : Begins v o G) :
    Meets (Builtin.«enumerate.__new__» ⟨[.type "enumerate", v], []⟩) (fun _ R s => G s.heap ∧
      R (.ok (.ret (.ref (s.heap.push o).objs.size)))
        { s with heap := (s.heap.push o).push { cls := .type "enumerate", data := .fields #[.none, .bool false, .ref s.heap.objs.size, rawInt 0, .none, .none] } }) := by
  refine .of_wp fun prog w A R s h => ?_
  rcases s with ⟨hp, g, d, tk, os⟩
  rcases h with ⟨hg, h⟩
  have hs1 := sub_enumerate
  have it : ∀ {A' : Around} {E : Value → Shared → Prop} {Q : Value → Shared → Prop}, Q (.ref hp.objs.size) ⟨hp.push o, g, d, tk, os⟩ → wpAny (model prog w) A' (pyIter v) Q E ⟨hp, g, d, tk, os⟩ :=
    fun z => B.iter prog w _ _ ⟨hp, g, d, tk, os⟩ _ hg z
  wp_walk using it
  refine wpAny_stack_any fun st => ?_
  refine wpAny_pure ?_
  split
  · rename_i c _ _ _ _ _
    cases (c == Value.type "enumerate")
    · wp_walk using it
      exact Exists.intro _ (And.intro rfl h)
    · wp_walk using it
      exact Exists.intro _ (And.intro rfl h)
  · wp_walk using it
    exact Exists.intro _ (And.intro rfl h)
theorem enum_one {prog : Program} {w : World} {A : Around} {E : Value → Shared → Prop} {s : Shared} {v : Value} {o : Obj} {G : Heap → Prop} {Q : Value → Shared → Prop} (B : Begins v o G) (hg : G s.heap)
    (h : ∀ h', IsEnum h' (s.heap.objs.size + 1) s.heap.objs.size 0 .none → h'.get? s.heap.objs.size = some o →
      (∀ b u, s.heap.get? b = some u → h'.get? b = some u) → Q (.ref (s.heap.objs.size + 1)) { s with heap := h' }) :
    wpAny (model prog w) A (call (.type "enumerate") [v]) Q E s := by
  apply callType_new F.called_enumerate (by decide) (F.typeCall_enumerate_1 _) (F.newCall_enumerate_1 _) (fun ob => F.args_object_init_2 ob _) F.entry_enumerate_new (makes_enum B)
  refine And.intro hg ?_
  have z1 : (s.heap.push o).objs.size = s.heap.objs.size + 1 := Heap.size_push ..
  show _ ∧ _
  rw [z1]
  generalize hk : (s.heap.push o).push { cls := .type "enumerate", data := .fields #[.none, .bool false, .ref s.heap.objs.size, rawInt 0, .none, .none] } = h2
  have e2 : h2.get? (s.heap.objs.size + 1) = some { cls := .type "enumerate", data := .fields #[.none, .bool false, .ref s.heap.objs.size, rawInt 0, .none, .none] } := by
    rw [← hk, ← z1]
    exact Heap.get?_push_size _ rfl
  have e1 : h2.get? s.heap.objs.size = some o := by
    rw [← hk]
    exact Heap.get?_push_of_some _ (Heap.get?_push_size _ B.free)
  refine And.intro ⟨_, e2, rfl⟩ (h h2 e2 e1 fun b u q => ?_)
  rw [← hk]
  exact Heap.get?_push_of_some _ (Heap.get?_push_of_some _ q)
end LTE
end PySem
namespace LT
open PySem PySem.Spec PyProof.Rows L2
/-- the tuple at a, each item in a new pair behind its number -/
def IteT (K : PySem.W.Frag) (a : Addr) : It where
  go := fun i H => ∃ (xs : List V) (x : V), SqT K H a xs ∧ xs[i]? = some x
  yld := fun i H v H' => ∃ T x, v = .ref T ∧ H T = none ∧ H' = upd H T (.tup [.int (i : Nat), x]) ∧ ∀ xs, SqT K H a xs → xs[i]? = some x
  stop := fun i H => ∃ xs : List V, SqT K H a xs ∧ xs.length ≤ i
theorem turn_enumT {P : Program} {w : World} {K : PySem.W.Frag} {elts : List Expr} {kk : Nat} {tpos : Pos} (a e it : Addr) (hea : e ≠ a) (hia : it ≠ a) (hne : e ≠ it) :
    Turn P w K (.Tuple elts kk tpos) (IteT K a) [e, it] e (fun i h => (∃ old, IsEnum h e it ((i : Nat) : Int) old) ∧ h.IsTupleIter it a i) where
  mem := List.mem_cons_self
  obj := by
    rintro i h ⟨⟨old, he⟩, o, ho, hc, hd⟩ b hb
    rcases List.mem_cons.mp hb with z | z
    · subst z
      exact ⟨_, he, fun v q => nomatch q⟩
    · have z' := List.mem_singleton.mp z
      subst z'
      refine ⟨o, ho, fun v q => ?_⟩
      rw [hd] at q
      cases q
  keep := by
    rintro i h h' ⟨⟨old, he⟩, hi⟩ k
    exact ⟨⟨old, k e (by simp) _ he⟩, hi.at fun o q => k it (by simp) o q⟩
  item := by
    intro X hP hw hK hc i pins s σ H E I hf st hg
    subst hP hw hK
    obtain ⟨⟨old, he⟩, hit⟩ := st
    obtain ⟨xs, x, hq, hx⟩ := hg
    obtain ⟨its, rv, tp, hz⟩ := I.tuple hq
    obtain ⟨u, hu, ru⟩ := rv.get hx
    have hi : i < its.toArray.size := by
      have := (List.getElem?_eq_some_iff.mp hu).1
      simpa using this
    have hel : e < s.heap.objs.size := Heap.lt_size he
    have hil : it < s.heap.objs.size := by
      obtain ⟨_, q, _⟩ := hit
      exact Heap.lt_size q
    have Dr : Draws X.prog X.w X.A.in1 it [it, a] its.toArray.size (fun i v => its.toArray[i]? = some v) (fun i h => h.IsTupleIter it a i ∧ h.IsTuple a its.toArray) :=
      Draws.tuple (by exact I.ok.hd hc) it a (Ne.symm hia) its.toArray
    refine wpAny_pyNext_enum_itemD Dr he ⟨hit, tp⟩ hi hne (by simp [hne, hea]) fun y h' tk hy ho hst' hT hsz hk => ?_
    have ey : y = u := by
      have : its.toArray[i]? = some u := by simpa using hu
      rw [this] at hy
      exact (Option.some.inj hy).symm
    subst ey
    refine ⟨_, rfl, ?_⟩
    refine wpAny_letOwnedTupleGo_enum (s := { s with heap := h', toks := tk + 1 }) ho fun h2 he2 sb => ?_
    have hT2 : h2.get? s.heap.objs.size = some { cls := .type "tuple", data := .seq #[.int i tk, y] } := (sb.2 _ (Nat.ne_of_gt hel)).trans hT
    have nw : ObjOk X.prog X.w (upd H s.heap.objs.size (.tup [.int (i : Nat), x])) h2 s.heap.objs.size (.tup [.int (i : Nat), x]) := by
      refine ⟨?_, [.int i tk, y], .cons ⟨_, rfl⟩ (.cons ru .nil), ⟨_, hT2, rfl, _, rfl⟩⟩
      show 2 ≤ sizeLine
      decide
    have I1 : Inv X pins σ (upd H s.heap.objs.size (.tup [.int (i : Nat), x])) { s with heap := h2, toks := tk + 1 } := by
      refine I.turnedNew (ch := [e, it]) ?_ hf (Nat.le_refl _) nw
      intro b ob hb q
      have h1 : b ≠ e := fun z => hb (by simp [z])
      have h3 : b ≠ it := fun z => hb (by simp [z])
      exact (sb.2 b h1).trans (hk b ob h1 h3 q)
    refine ⟨.ref s.heap.objs.size, _, I1, rfl, ⟨_, x, rfl, I.hok.fresh (Nat.le_refl _), rfl, ?_⟩, ⟨⟨y, ?_⟩, hst'.1.at fun o q => (sb.2 it (Ne.symm hne)).trans q⟩, ?_⟩
    · intro ys hy2
      rw [I.tuple_inj hy2 hq]
      exact hx
    · have e1 : ((i + 1 : Nat) : Int) = (i : Int) + 1 := by omega
      rw [e1]
      exact he2
    · intro b hb
      have hb2 : b < s.heap.objs.size := by
        rcases List.mem_cons.mp hb with z | z
        · rw [z]; exact hel
        · rw [List.mem_singleton.mp z]; exact hil
      rw [upd_ne (Nat.ne_of_lt hb2)]
      exact (hf b hb).1
  done := by
    intro X hP hw hK hc i pins s σ H E I hf st hg
    subst hP hw hK
    obtain ⟨⟨old, he⟩, hit⟩ := st
    obtain ⟨xs, hq, hx⟩ := hg
    obtain ⟨its, rv, tp, hz⟩ := I.tuple hq
    obtain ⟨f0, f1, f2, f3, f4, f5⟩ := hf it (by simp)
    have hl := rv.length
    have Dr2 : Draws X.prog X.w X.A.in1 it [it, a] i (fun j v => its.toArray[j]? = some v) (fun j h => j = i ∧ h.IsTupleIter it a j ∧ h.IsTuple a its.toArray) := by
      refine { live := ?_, frame := ?_, item := ?_, done := ?_ }
      · rintro j h ⟨_, ⟨o, ho, _⟩, _⟩
        exact ⟨o, ho⟩
      · rintro j h h' ⟨ej, s1, s2⟩ k
        exact ⟨ej, s1.at fun o q => k it (by simp) o q, s2.at fun o q => k a (by simp) o q⟩
      · rintro j s Q E hj ⟨ej, _⟩
        exact absurd hj (by omega)
      · rintro s Q E ⟨_, s1, s2⟩ hE
        exact wpAny_nextOf_tuple_end (by exact I.ok.hd hc) s1 s2 (by simp; omega) hE
    exact wpAny_pyNext_enum_endD Dr2 he ⟨rfl, hit, tp⟩ fun h' eb => ⟨rfl, I.turned (t' := s.toks) (fun b o hb q => eb b o hb q) f0 f1 f3 f4 f5⟩
  self := fun A i s Q E st h => let ⟨⟨_, he⟩, _⟩ := st; wpAny_pyIter_enum he h
def iEnumT (K : PySem.W.Frag) (ta : TA) : TI := fun σ H R => ta σ H fun vs H1 => ∃ a xs, vs = [.ref a] ∧ SqT K H1 a xs ∧ R (IteT K a) H1
theorem pi_enumT {X : Cx} {e : Expr} {ta : TA} {p pos tpos : Pos} {elts : List Expr} {kk : Nat} (hg : Gl X "enumerate") (hm : X.mg "enumerate" = none) (ha : PA X [e] ta)
    (hs : starEach [e] X.env = [(false, eval e X.env)] := by rfl) : PI X (.Tuple elts kk tpos) (.Call (.Name "enumerate" p) [e] [] pos) (iEnumT X.K ta) := by
  constructor
  intro pins s σ H R I h
  refine Call_ (ld_blt I hg hm boot_enumerate ?_)
  refine PyProof.Rows.callWith_type1 (thn (ha.run pos pins s σ H _ I h) ?_) hs rfl
  rintro us s1 ⟨vs, H1, I1, r1, a, xs, ex, hq, q⟩
  subst ex
  cases r1 with
  | cons r rr =>
    cases rr
    cases r
    obtain ⟨its, rv, tp, hz⟩ := I1.tuple hq
    have hal : a < s1.heap.objs.size := tp.lt
    refine PySem.LTE.enum_one (begins_tuple a its.toArray) tp fun h' he hit hk => ?_
    refine wpAny_pyIter_enum he ?_
    have I2 : Inv X pins σ H1 { s1 with heap := h' } := I1.kept (t' := s1.toks) hk
    refine ⟨s1.heap.objs.size + 1, [s1.heap.objs.size + 1, s1.heap.objs.size], _, _, H1, rfl, I2, turn_enumT a (s1.heap.objs.size + 1) s1.heap.objs.size (Nat.ne_of_gt (Nat.lt_succ_of_lt hal)) (Nat.ne_of_gt hal) (Nat.succ_ne_self _), ⟨⟨.none, he⟩, ⟨_, hit, rfl, rfl⟩⟩, ?_, q⟩
    intro b hb
    have hle : s1.heap.objs.size ≤ b := by
      rcases List.mem_cons.mp hb with z | z
      · rw [z]; exact Nat.le_add_right _ _
      · rw [List.mem_singleton.mp z]; exact Nat.le_refl _
    exact I1.fpOk hle (I1.hok.fresh hle)
/-- a for over enumerate(t) -/
theorem walk_enumT {K : PySem.W.Frag} {a : Addr} {xs : List V} : Walk (IteT K a) xs.length (fun H => H a = some (.tup xs)) (YPair (fun i => some (.int (i : Nat))) (fun i => xs[i]?)) where
  goes := fun i H hi h => ⟨xs, xs[i], SqT.of h, List.getElem?_eq_getElem hi⟩
  stops := fun H h => ⟨xs, SqT.of h, Nat.le_refl _⟩
  yields := by
    rintro i H x H' hi h ⟨T, y, e1, e2, e3, e4⟩
    exact ⟨T, _, y, e1, e2, e3, rfl, e4 xs (SqT.of h)⟩
end LT
namespace LT
open PySem PySem.Spec PyProof.Rows L2
section
variable {X : Cx}
/-- int(n) of an int -/
theorem call_intI : CallR X (.type "int") (fun xs H Q => ∃ i, xs = [V.int i] ∧ Q (.int i) H) := fun pins s σ H xs us Q I r h =>
  call_int1 pins s σ H xs us Q I r (Or.inl h)
/-- a, b, .. = a tracked tuple of n items -/
def gTupT (n : Nat) (t : TGs) : TG := fun v σ H Q => ∃ a xs, v = .ref a ∧ H a = some (.tup xs) ∧ xs.length = n ∧ t xs σ H Q
theorem pg_tT (n : Nat) {es : List Expr} {k : Nat} {t : TGs} {pos : Pos} (hc : X.calm = true) (h : PGs X es t) (hn : (assignEach es X.env).length = n := by rfl)
    (hst : (assignEach es X.env).findIdx? (·.1) = none := by rfl) : PG X (.Tuple es k pos) (gTupT n t) := by
  constructor
  rintro pins s σ H v u Q I r ⟨a, xs, e, e1, e2, q⟩
  exact (pg_tup (k := k) (pos := pos) hc h hn hst).run pins s σ H v u Q I r ⟨a, xs, e, SqT.of e1, e2, q⟩
/-- isinstance, with the written part named (so that it may stand within a comprehension) -/
theorem call_isiE (K : PySem.W.Frag) (h : X.K = K) : CallR X (.builtin "isinstance") (rIsi K) := by
  subst h
  exact call_isi
/-- xs[i] of a tracked list, of a tracked tuple -/
def rIxl : R2 := fun x y H Q => ∃ p xs i v, x = .ref p ∧ y = .int i ∧ H p = some (.lst xs) ∧ atI xs i = some v ∧ Q v H
def rIxt : R2 := fun x y H Q => ∃ p xs i v, x = .ref p ∧ y = .int i ∧ H p = some (.tup xs) ∧ atI xs i = some v ∧ Q v H
theorem ix_l : IxR X rIxl := by
  rintro value slice pins s σ H x y v u Q I rx ry ⟨p, xs, i, z, e1, e2, h, ha, q⟩ hs
  exact ix_list value slice pins s σ H x y v u Q I rx ry ⟨p, xs, i, z, e1, e2, SqL.of h, ha, q⟩ hs
theorem ix_t : IxR X rIxt := by
  rintro value slice pins s σ H x y v u Q I rx ry ⟨p, xs, i, z, e1, e2, h, ha, q⟩ hs
  exact ix_tup value slice pins s σ H x y v u Q I rx ry ⟨p, xs, i, z, e1, e2, SqT.of h, ha, q⟩ hs
theorem call_lenT : CallR X (.builtin "len") (fun xs H Q => ∃ p ys, xs = [V.ref p] ∧ H p = some (.tup ys) ∧ Q (.int ys.length) H) := by
  rintro pins s σ H xs us Q I r ⟨p, ys, e, h, q⟩
  exact call_len_seq pins s σ H xs us Q I r ⟨p, ys, e, .inr (SqT.of h), q⟩
theorem call_lenL : CallR X (.builtin "len") (fun xs H Q => ∃ p ys, xs = [V.ref p] ∧ H p = some (.lst ys) ∧ Q (.int ys.length) H) := by
  rintro pins s σ H xs us Q I r ⟨p, ys, e, h, q⟩
  exact call_len_seq pins s σ H xs us Q I r ⟨p, ys, e, .inl (SqL.of h), q⟩
/-- tuple(l) of a tracked list -/
theorem call_tupL : CallR X (.type "tuple") (fun xs H Q => ∃ p ys, xs = [V.ref p] ∧ H p = some (.lst ys) ∧ ∀ l, H l = none → Q (.ref l) (upd H l (.tup ys))) := by
  rintro pins s σ H xs us Q I r ⟨p, ys, e, h, q⟩
  exact call_tuple_of pins s σ H xs us Q I r ⟨p, ys, e, .inl ⟨SqL.of h, q⟩⟩
/-- t[a:b] of a tracked tuple -/
def rSlt : V → Option Int → Option Int → Hp → VK → Prop := fun x lo hi H Q => ∃ a xs, x = .ref a ∧ H a = some (.tup xs) ∧
  (HT.sIx xs.length 0 lo = 0 ∧ HT.sIx xs.length xs.length hi = xs.length → Q (.ref a) H) ∧ (¬ (HT.sIx xs.length 0 lo = 0 ∧ HT.sIx xs.length xs.length hi = xs.length) → ∀ p, H p = none → Q (.ref p) (upd H p (.tup (cutV xs lo hi))))
theorem sl_t : SlR X rSlt := by
  rintro pins s σ H x v vl vu lo hi sl Q I rx hs pl pu ⟨a, xs, e, h, q1, q2⟩
  exact sl_tupA pins s σ H x v vl vu lo hi sl Q I rx hs pl pu ⟨a, xs, e, SqT.of h, q1, q2⟩
end
/-! ## purses -/
def Pu (N : Nat) (H : Hp) (p : Addr) : Prop := ∃ a b c : Int, H p = some (.lst [.int a, .int b, .int c]) ∧ 0 ≤ b ∧ b < 2147483647 ∧ 0 ≤ c ∧ c ≤ N

theorem Pu.mono {N M : Nat} {H : Hp} {p : Addr} (h : Pu N H p) (le : N ≤ M) : Pu M H p := by
  obtain ⟨a, b, c, e, b0, b1, c0, c1⟩ := h
  exact ⟨a, b, c, e, b0, b1, c0, by omega⟩
theorem Pu.fx {N : Nat} {H H' : Hp} {p : Addr} {M : List Addr} (h : Pu N H p) (f : Fx M H H') (hp : p ∉ M) : Pu N H' p := by
  obtain ⟨a, b, c, e, r⟩ := h
  exact ⟨a, b, c, f.keep p _ hp e, r⟩
theorem Pu.at {N : Nat} {H : Hp} {p : Addr} (h : Pu N H p) : H p ≠ none := by
  obtain ⟨a, b, c, e, r⟩ := h
  rw [e]
  exact fun z => nomatch z
/-! ## comprehensions and loops -/
section
variable {J : It} {n : Nat} {G : Hp → Prop} {Y : Nat → Hp → V → Hp → Prop} {g : TG} {tt : TT} {te : TE} {tb : TS} {vs : List Nat} {σ : L2.St} {H1 H : Hp} {D : Addr} {Qd : Hp → Prop} {Q : VK} {wi : TI} {Dn : Ends} {M : List Addr}
def LcGo (J : It) (g : TG) (tt : TT) (te : TE) (vs : List Nat) (σ : L2.St) (H1 : Hp) (D : Addr) (Qd : Hp → Prop) : Prop :=
  ∃ W : Nat → Nat → Hp → Prop, (∃ m, W 0 m (upd H1 D (.lst []))) ∧ ∀ i m H, W i m H →
    (J.stop i H ∧ Qd H) ∨ (J.go i H ∧ ∃ Nx : Hp → Prop, (∀ H', Nx H' → ∃ m', m' < m ∧ W (i + 1) m' H') ∧ ∀ x H', J.yld i H x H' →
      g x (wipe σ vs) H' fun σ2 H2 => wipe σ2 vs = wipe σ vs ∧ tt σ2 H2 fun b H3 => if b = true then te σ2 H3 fun y H4 => ∃ acc, H4 D = some (.lst acc) ∧ acc.length < sizeLine ∧ Nx (upd H4 D (.lst (acc ++ [y]))) else Nx H3)
theorem tLc_eq : tLc wi g tt te vs σ H Q = wi σ H fun J H1 => ∀ D, H1 D = none → LcGo J g tt te vs σ H1 D (fun H => Q (.ref D) H) := rfl
def ForGo (J : It) (g : TG) (tb : TS) (Dn : Ends) (σ : L2.St) (H : Hp) : Prop :=
  ∃ W : Nat → Nat → L2.St → Hp → Prop, (∃ m, W 0 m σ H) ∧ ∀ i m σ H, W i m σ H →
    (J.stop i H ∧ Dn.nx σ H) ∨ (J.go i H ∧ ∃ N : L2.St → Hp → Prop, (∀ σ' H', N σ' H' → ∃ m', m' < m ∧ W (i + 1) m' σ' H') ∧ ∀ x H', J.yld i H x H' → g x σ H' fun σ2 H2 => tb { Dn with nx := N, ct := N, bk := Dn.nx } σ2 H2)
theorem tFor_eq : tFor wi g tb Dn σ H = wi σ H fun J H1 => ForGo J g tb Dn σ H1 := rfl
theorem Fx.putNew {H4 : Hp} {zs ws : List V} (f : Fx M H1 H4) (hD : H1 D = none) (h : H4 D = some (.lst zs)) : Fx M H1 (upd H4 D (.lst ws)) := by
  have ne : ∀ b o, H1 b = some o → b ≠ D := fun b o e => ne_of_none e hD
  constructor
  · intro b o hb e
    rw [upd_ne (ne b o e)]
    exact f.keep b o hb e
  · intro b o e
    obtain ⟨o', e1, k⟩ := f.kind b o e
    exact ⟨o', by rw [upd_ne (ne b o e)]; exact e1, k⟩
theorem small_line {k : Nat} (h : k ≤ 1000000) : k < sizeLine := Nat.lt_of_le_of_lt h (by decide)
/-- a comprehension: R tells of the turn, the heap and what was made so far -/
theorem lc_new (w : Walk J n G Y) (hn : n ≤ 1000000) (hD : H1 D = none) (hM : ∀ b, b ∈ M → H1 b ≠ none) (R : Nat → Hp → List V → Prop)
    (hR : ∀ i H H' ys, Fx M H1 H → Fx [D] H H' → R i H ys → R i H' ys) (h0 : R 0 H1 [])
    (hG : ∀ i H ys, i ≤ n → Fx M H1 H → R i H ys → G H)
    (hs : ∀ i x H H' ys (N : V → Hp → Prop) (N' : Hp → Prop), i < n → Fx M H1 H → R i H ys → Y i H x H' →
      (∀ y H4, Fx M H H4 → R (i + 1) H4 (ys ++ [y]) → N y H4) → (∀ H4, Fx M H H4 → R (i + 1) H4 ys → N' H4) →
      g x (wipe σ vs) H' fun σ2 H2 => wipe σ2 vs = wipe σ vs ∧ tt σ2 H2 fun b H3 => if b = true then te σ2 H3 N else N' H3)
    (hd : ∀ H ys, Fx M H1 H → R n H ys → H D = some (.lst ys) → Qd H) : LcGo J g tt te vs σ H1 D Qd := by
  have hDM : D ∉ M := fun z => hM D z hD
  refine lc_it w (fun i H => ∃ ys, ys.length ≤ i ∧ H D = some (.lst ys) ∧ Fx M H1 H ∧ R i H ys) ?_ ?_ ?_ ?_
  · refine ⟨[], Nat.le_refl _, upd_same, Fx.new M hD, ?_⟩
    have f : Fx [D] (upd H1 D (.lst [])) (upd H1 D (.lst [])) := Fx.refl _ _
    refine hR 0 H1 _ [] (Fx.refl _ _) ?_ h0
    exact Fx.new [D] hD
  · rintro i H hi ⟨ys, _, _, f, r⟩
    exact hG i H ys hi f r
  · rintro i x H H' hi ⟨ys, hl, hy, f, r⟩ hY
    refine hs i x H H' ys _ _ hi f r hY ?_ ?_
    · intro y H4 f4 r4
      have e4 : H4 D = some (.lst ys) := f4.keep D _ hDM hy
      refine ⟨ys, e4, small_line (by omega), ys ++ [y], ?_, upd_same, (f.trans f4).putNew hD e4, ?_⟩
      · rw [List.length_append, List.length_singleton]
        omega
      · exact hR _ H4 _ _ (f.trans f4) (Fx.put List.mem_cons_self e4) r4
    · intro H4 f4 r4
      exact ⟨ys, Nat.le_succ_of_le hl, f4.keep D _ hDM hy, f.trans f4, r4⟩
  · rintro H ⟨ys, _, hy, f, r⟩
    exact hd H ys f r hy
theorem for_go (w : Walk J n G Y) (Pv : Nat → L2.St → Hp → Prop) (h0 : Pv 0 σ H) (hG : ∀ i σ H, i ≤ n → Pv i σ H → G H)
    (hs : ∀ i x σ H H', i < n → Pv i σ H → Y i H x H' → g x σ H' fun σ2 H2 => tb { Dn with nx := Pv (i + 1), ct := Pv (i + 1), bk := Dn.nx } σ2 H2)
    (hd : ∀ σ H, Pv n σ H → Dn.nx σ H) : ForGo J g tb Dn σ H := for_it w Pv h0 hG hs hd
end
/-! ## machines -/
structure Mac where
  start : Int
  steps : List (List Int)
  answers : List Int
def macD (m : Mac) : D := .tup [.int m.start, .tup (m.steps.map intsD), intsD m.answers]
/-- a machine of a size -/
structure MacOk (m : Mac) (wd : Nat) : Prop where
  pos : 0 < m.steps.length
  few : m.steps.length ≤ 1000
  row : ∀ r, r ∈ m.steps → r.length = wd ∧ ∀ x, x ∈ r → 0 ≤ x ∧ x < (m.steps.length : Int)
  ans : m.answers.length = m.steps.length
  told : ∀ x, x ∈ m.answers → 0 ≤ x ∧ x ≤ 99
  st0 : 0 ≤ m.start
  st1 : m.start < (m.steps.length : Int)
def readM (m : Mac) (s : Int) (row : List Int) : Int := row.foldl (fun s v => (m.steps.getD s.toNat []).getD v.toNat 0) s
def ansM (m : Mac) (row : List Int) : Int := m.answers.getD (readM m m.start row).toNat 0
theorem getD_mem {α : Type} {l : List α} {i : Nat} {d : α} (h : i < l.length) : l.getD i d ∈ l := by
  rw [List.getD_eq_getElem?_getD, List.getElem?_eq_getElem h]
  exact List.getElem_mem h
theorem MacOk.step {m : Mac} {wd : Nat} (h : MacOk m wd) {s v : Int} (s0 : 0 ≤ s) (s1 : s < (m.steps.length : Int)) (v0 : 0 ≤ v) (v1 : v < (wd : Int)) :
    0 ≤ (m.steps.getD s.toNat []).getD v.toNat 0 ∧ (m.steps.getD s.toNat []).getD v.toNat 0 < (m.steps.length : Int) := by
  have hm : m.steps.getD s.toNat [] ∈ m.steps := getD_mem (by omega)
  obtain ⟨hl, hx⟩ := h.row _ hm
  exact hx _ (getD_mem (by omega))
theorem MacOk.read {m : Mac} {wd : Nat} (h : MacOk m wd) : ∀ (row : List Int) (s : Int), 0 ≤ s → s < (m.steps.length : Int) → (∀ x ∈ row, 0 ≤ x ∧ x < (wd : Int)) → 0 ≤ readM m s row ∧ readM m s row < (m.steps.length : Int)
  | [], s, s0, s1, _ => ⟨s0, s1⟩
  | v :: r, s, s0, s1, hr => by
    have hv := hr v List.mem_cons_self
    obtain ⟨t0, t1⟩ := h.step s0 s1 hv.1 hv.2
    exact h.read r _ t0 t1 fun x hx => hr x (List.mem_cons_of_mem _ hx)
theorem MacOk.answer {m : Mac} {wd : Nat} (h : MacOk m wd) {row : List Int} (hr : ∀ x ∈ row, 0 ≤ x ∧ x < (wd : Int)) : 0 ≤ ansM m row ∧ ansM m row ≤ 99 := by
  obtain ⟨t0, t1⟩ := h.read row m.start h.st0 h.st1 hr
  exact h.told _ (getD_mem (by rw [h.ans]; omega))
/-- the parts of a machine in memory -/
theorem Rp.mac {H : Hp} {v : V} {m : Mac} (h : Rp H v (macD m)) : ∃ a b c xs, v = .ref a ∧ H a = some (.tup [.int m.start, .ref b, .ref c]) ∧ H b = some (.tup xs) ∧ RpAll H xs (m.steps.map intsD) ∧ H c = some (.tup (m.answers.map V.int)) := by
  obtain ⟨a, xs, rfl, e, r⟩ := h.tup_inv
  cases r with
  | cons r1 r =>
    cases r with
    | cons r2 r =>
      cases r with
      | cons r3 r =>
        cases r
        have := r1.int_inv
        subst this
        obtain ⟨b, ys, rfl, e2, r2'⟩ := r2.tup_inv
        obtain ⟨c, rfl, e3⟩ := r3.ints_inv
        exact ⟨a, b, c, ys, rfl, e, e2, r2', e3⟩
theorem RpAll.rowAt {H : Hp} {xs : List V} {rows : List (List Int)} (r : RpAll H xs (rows.map intsD)) {i : Nat} (h : i < rows.length) : ∃ a, xs[i]? = some (.ref a) ∧ H a = some (.tup ((rows.getD i []).map V.int)) := by
  obtain ⟨v, hv, rv⟩ := r.atD (i := i) (d := intsD (rows.getD i [])) (by
    rw [List.getElem?_map, List.getElem?_eq_getElem h, List.getD_eq_getElem?_getD, List.getElem?_eq_getElem h]
    rfl)
  obtain ⟨a, rfl, e⟩ := rv.ints_inv
  exact ⟨a, hv, e⟩
theorem atI_ints {ns : List Int} {i : Int} (h0 : 0 ≤ i) (h1 : i < (ns.length : Int)) : atI (ns.map V.int) i = some (.int (ns.getD i.toNat 0)) := by
  have hi : i.toNat < ns.length := by omega
  have e : i = ((i.toNat : Nat) : Int) := by omega
  have g : (ns.map V.int)[i.toNat]? = some (.int (ns.getD i.toNat 0)) := by
    rw [List.getElem?_map, List.getD_eq_getElem?_getD, List.getElem?_eq_getElem hi]
    rfl
  have := atI_nat g
  rw [← e] at this
  exact this
theorem atI_of {xs : List V} {i : Int} {v : V} (h0 : 0 ≤ i) (h : xs[i.toNat]? = some v) : atI xs i = some v := by
  have e : i = ((i.toNat : Nat) : Int) := by omega
  have := atI_nat h
  rw [← e] at this
  exact this
theorem readM_take {m : Mac} {s : Int} {row : List Int} {i : Nat} (h : i < row.length) : readM m s (row.take (i + 1)) = (m.steps.getD (readM m s (row.take i)).toNat []).getD (row.getD i 0).toNat 0 := by
  unfold readM
  rw [List.take_add_one, List.getElem?_eq_getElem h, List.foldl_append, List.getD_eq_getElem?_getD (l := row), List.getElem?_eq_getElem h]
  rfl
/-! ## the draws of a law -/
def spMixed : Sp := fun vs H Q _ => ∃ c k : Int, vs = [.int c, .int k] ∧ 0 ≤ c ∧ c < 2147483647 ∧ 0 ≤ k ∧ k ≤ 1000000000001 ∧ ∀ r, 0 ≤ r → r < 1000000000 → Q (.int r) H
def spDraw : Sp := fun vs H Q _ => ∃ (p : Addr) (n : Int) (N : Nat), vs = [.ref p, .int n] ∧ 0 < n ∧ n < 1073741824 ∧ Pu N H p ∧ N ≤ 1000000000000 ∧
  ∀ (d : Int) (H' : Hp), 0 ≤ d → d < n → Fx [p] H H' → Pu (N + 1) H' p → Q (.int d) H'
def spPurse (K : PySem.W.Frag) : Sp := fun vs H Q _ => ∃ (a : Addr) (ns : List Int) (i : Nat), vs = [.ref a, .int i] ∧ SqL K H a (ns.map V.int) ∧ i ≤ 100 ∧
  ∀ (p : Addr) (H' : Hp), H p = none → Fx [] H H' → Pu (1000 * i) H' p → Q (.ref p) H'
/-- a row of values below wide, at most most of them -/
def spRow : Sp := fun vs H Q _ => ∃ (p : Addr) (wide : Int) (most N : Nat), vs = [.ref p, .int wide, .int most] ∧ 0 < wide ∧ wide ≤ 4 ∧ most ≤ 100 ∧ Pu N H p ∧ N ≤ 900000000000 ∧
  ∀ (v : V) (H' : Hp) (row : List Int), row.length ≤ most → (∀ x ∈ row, 0 ≤ x ∧ x < wide) → Fx [p] H H' → Pu (N + 101) H' p → Rp H' v (intsD row) → Q v H'
def spMachine : Sp := fun vs H Q _ => ∃ (p : Addr) (wide most N : Nat), vs = [.ref p, .int wide, .int most] ∧ 0 < wide ∧ wide ≤ 4 ∧ 0 < most ∧ most ≤ 30 ∧ Pu N H p ∧ N ≤ 900000000000 ∧
  ∀ (v : V) (H' : Hp) (m : Mac), MacOk m wide → m.steps.length ≤ most → Fx [p] H H' → Pu (N + 200) H' p → Rp H' v (macD m) → Q v H'
theorem lc_draws {p D : Addr} {n N : Nat} {u : Int} {H1 : Hp} {g : TG} {tt : TT} {te : TE} {vs : List Nat} {σ : L2.St} {Qd : Hp → Prop} (hn : n ≤ 1000) (u0 : 0 < u) (u1 : u < 1073741824) (pu : Pu N H1 p) (hN : N + n ≤ 1000000000000) (hD : H1 D = none)
    (hb : ∀ x H (N1 : V → Hp → Prop) (N2 : Hp → Prop), spDraw [.ref p, .int u] H N1 E0 → g x (wipe σ vs) H fun σ2 H2 => wipe σ2 vs = wipe σ vs ∧ tt σ2 H2 fun b H3 => if b = true then te σ2 H3 N1 else N2 H3)
    (hd : ∀ H (ns : List Int), ns.length = n → (∀ x ∈ ns, 0 ≤ x ∧ x < u) → Fx [p] H1 H → Pu (N + n) H p → H D = some (.lst (ns.map V.int)) → Qd H) : LcGo (Itr 0 n) g tt te vs σ H1 D Qd := by
  refine lc_new (M := [p]) walk_range (by omega) hD (by simp; exact pu.at) (fun i H ys => Pu (N + i) H p ∧ ∃ ns : List Int, ys = ns.map V.int ∧ ns.length = i ∧ ∀ x ∈ ns, 0 ≤ x ∧ x < u) ?_ ?_ ?_ ?_ ?_
  · rintro i H2 H3 ys _ f ⟨pu2, r⟩
    refine ⟨pu2.fx f ?_, r⟩
    rintro z2
    rw [List.mem_singleton] at z2
    subst z2
    exact pu.at hD
  · exact ⟨pu, [], rfl, rfl, fun x hx => nomatch hx⟩
  · intros; trivial
  · rintro i x H2 H3 ys N1 N2 hi f ⟨pu2, ns, rfl, hl, hx⟩ ⟨rfl, rfl⟩ hN1 hN2
    refine hb _ _ _ _ ⟨p, u, _, rfl, u0, u1, pu2, by omega, fun d H4 d0 d1 f4 pu4 => hN1 _ _ f4 ⟨pu4, ns ++ [d], ?_, ?_, ?_⟩⟩
    · rw [List.map_append]; rfl
    · rw [List.length_append, hl]; rfl
    · intro x hx2
      rcases List.mem_append.mp hx2 with hx2 | hx2
      · exact hx x hx2
      · rw [List.mem_singleton.mp hx2]; exact ⟨d0, d1⟩
  · rintro H2 ys f ⟨pu2, ns, rfl, hl, hx⟩ hys
    exact hd H2 ns hl hx f pu2 hys
/-! ## checks -/
def isInteger (d : D) (lo hi : Int) : Bool := match d with
  | .int i => decide (lo ≤ i) && decide (i ≤ hi)
  | _ => false
def isRow (d : D) (n : Int) : Bool := match d with
  | .tup ds => ds.all fun x => isInteger x 0 (n - 1)
  | _ => false
/-- no tuple longer than that at the first level -/
def short (d : D) : Prop := match d with
  | .tup ds => ds.length ≤ 1000000
  | _ => True
def spIsInteger : Sp := fun vs H Q _ => ∃ v d lo hi, vs = [v, .int lo, .int hi] ∧ Rp H v d ∧ Q (.bl (isInteger d lo hi)) H
def spIsSize : Sp := fun vs H Q _ => ∃ v d, vs = [v] ∧ Rp H v d ∧ Q (.bl (isInteger d 1 4)) H
def spIsRow : Sp := fun vs H Q _ => ∃ v d n, vs = [v, .int n] ∧ Rp H v d ∧ short d ∧ ∀ H', Fx [] H H' → Q (.bl (isRow d n)) H'
theorem isTy_ne {n : String} {d : D} (h : isTy n d = true) (n' : String) (hn : n = n') : isTy n' d = true := hn ▸ h
theorem isTy_int (d : D) : isTy "int" d = match d with | .int _ => true | .bl _ => true | _ => false := by
  cases d <;> rfl
theorem isTy_bool (d : D) : isTy "bool" d = match d with | .bl _ => true | _ => false := by
  cases d <;> rfl
theorem isTy_tuple (d : D) : isTy "tuple" d = match d with | .tup _ => true | _ => false := by
  cases d <;> rfl
/-- all([test(x) for x in t]) over a tuple: bools, the heap but grows -/
theorem lc_bools {K : PySem.W.Frag} {a D0 : Addr} {xs : List V} {ds : List D} {H1 : Hp} {g : TG} {tt : TT} {te : TE} {vs : List Nat} {σ : L2.St} {Qd : Hp → Prop} (f : D → Bool) (ha : H1 a = some (.tup xs)) (hr : RpAll H1 xs ds) (hn : xs.length ≤ 1000000) (hD : H1 D0 = none)
    (hb : ∀ x d H (N1 : V → Hp → Prop) (N2 : Hp → Prop), d ∈ ds → Rp H x d → (∀ H4, Fx [] H H4 → N1 (.bl (f d)) H4) → g x (wipe σ vs) H fun σ2 H2 => wipe σ2 vs = wipe σ vs ∧ tt σ2 H2 fun b H3 => if b = true then te σ2 H3 N1 else N2 H3)
    (hd : ∀ H, Fx [] H1 H → H D0 = some (.lst ((ds.map f).map V.bl)) → Qd H) : LcGo (Itt K a) g tt te vs σ H1 D0 Qd := by
  have hl := hr.len
  refine lc_new (M := []) (walk_tup (xs := xs)) hn hD (fun b z => nomatch z) (fun i H ys => ys = ((ds.take i).map f).map V.bl) ?_ ?_ ?_ ?_ ?_
  · intro i H H' ys _ _ e
    exact e
  · rfl
  · rintro i H ys _ fx _
    exact SqT.of (fx.tup ha)
  · rintro i x H H' ys N1 N2 hi fx rfl ⟨rfl, hx⟩ hN1 hN2
    obtain ⟨d, hd1, rd1⟩ := hr.at hx
    refine hb x d _ N1 N2 (List.mem_of_getElem? hd1) (fx.rp rd1) fun H4 f4 => hN1 _ _ f4 ?_
    rw [List.take_add_one, hd1, List.map_append, List.map_append]
    rfl
  · intro H ys fx e hy
    refine hd H fx ?_
    rw [hy, e, hl, List.take_length]
end LT
namespace LT
open PySem PySem.Spec PyProof.Rows L2
/-! ## own errors with one field -/
/-- what __init__ does of an error that is being made -/
def spInit (K : PySem.W.Frag) (C : Addr) (f : Str) : Sp := fun vs H Q _ => ∃ (a : Addr) (v : V), vs = [.ref a, v] ∧ H a = some (exo a C none) ∧
  ∀ dx, H dx = none → dx ≠ a → Q .non (upd (upd H dx (exd dx [(f, v)])) a (exo a C (some dx)))
structure ErrC (P : Program) (w : World) (K : PySem.W.Frag) (mg : Str → Option Value) (base : Heap) (x f : Str) (C : Addr) : Prop where
  T : OexC K C
  gl : mg x = some (.ref C)
  nf : PySem.W.findIn K (.ref C) f = some none
  xf : XfC K C
  ex : ExcC K C
  ini : ∃ fI fd, PySem.W.findIn K (.ref C) "__init__" = some (some (.ref fI)) ∧ PySem.W.typeIn K (.ref fI) = some (.type "function") ∧ FnOk P w K mg base CX0 1 fI fd ["self", f] (spInit K C f) ∧ Binds K fd ["self", f] []
theorem del_upd2 {H : Hp} {a d : Addr} {o o' : HO} {u : HO} (h : H a = none) (ne : d ≠ a) : upd (del (upd (upd H d o) a o') a) d u = upd H d u := by
  funext b
  unfold upd del
  by_cases h1 : b = d
  · simp [h1]
  · by_cases h2 : b = a
    · subst h2
      simp [h1, h]
    · simp [h1, h2]
theorem upd_upd3 {H : Hp} {a d : Addr} {o o1 o2 : HO} (ne : d ≠ a) : upd (upd (upd H a o) d o1) a o2 = upd (upd H d o1) a o2 := by
  funext b
  unfold upd
  by_cases h1 : b = a
  · simp [h1]
  · simp [h1]
section
variable {X : Cx} {x f : Str} {C : Addr} {e : Expr} {te : TE} {p pos pos2 : Pos} {j : Nat} {W : WX}
/-- raise C(e) -/
def RaiseOk (K : PySem.W.Frag) (C : Addr) (f : Str) (W : XK) (v : V) (H1 : Hp) : Prop :=
  [v].length ≤ 1000 ∧ ∀ a, H1 a = none → spInit K C f (.ref a :: ([v] ++ [])) (upd H1 a (exo a C none))
    (fun u H2 => u = .non ∧ ∃ (d : Addr) (fs : List (Str × V)), H2 a = some (exo a C (some d)) ∧ H2 d = some (exd d fs) ∧ H1 d = none ∧ W (.ref C) (some d) (upd (del H2 a) d (.xd fs))) (fun _ _ _ => False)
theorem RaiseOk.of {K : PySem.W.Frag} {W : XK} {v : V} {H1 : Hp} (h : ∀ d, H1 d = none → W (.ref C) (some d) (upd H1 d (.xd [(f, v)]))) : RaiseOk K C f W v H1 := by
  refine ⟨by show 1 ≤ 1000; decide, fun a ha => ⟨a, v, rfl, upd_same, fun dx hdx ne => ⟨rfl, dx, [(f, v)], upd_same, ?_, ?_, ?_⟩⟩⟩
  · rw [upd_ne ne, upd_same]
  · rw [upd_ne ne] at hdx
    exact hdx
  · rw [upd_ne ne] at hdx
    rw [upd_upd3 ne, del_upd2 ha ne]
    exact h dx hdx
def tRaiseC (K : PySem.W.Frag) (C : Addr) (f : Str) (W : WX) (te : TE) : TS := fun _ σ H => te σ H fun v H1 => RaiseOk K C f (fun cls d H2 => W cls d σ H2) v H1
theorem ps_raiseC (c : ErrC X.prog X.w X.K X.mg X.base x f C) (hc : X.calm = true) (hr : Room j X.A) (tk : Takes X W) (hg : Gl X x) (he : PE X e te) (hj : 2 ≤ j := by decide) (hdb : (x == ("__debug__" : Str)) = false := by decide)
    (hst : starEach [e] X.env = (false, eval e X.env) :: starEach [] X.env := by rfl) (hpl : (backTo pos (starEach [] X.env)).any (·.1) = false := by rfl) :
    PS X (.Raise (some (.Call (.Name x p) [e] [] pos)) none pos2) (tRaiseC X.K C f W te) := by
  obtain ⟨fI, fd, iC, tI, F, hb⟩ := c.ini
  have pm : PMk X (.Call (.Name x p) [e] [] pos) (tMkO C (spInit X.K C f) [] (tCons te tNil)) :=
    pmk_oex c.T iC tI F (hr.mono hj) hb .nil pass0 hg c.gl (pa_cons he pa_nil hst) hdb hst hpl
  exact ps_raise (pos := pos2) hc tk pm
end
/-! ## try: .. except C as n: y = n, the error held on -/
/-- an error at a, of the class cls, its own dict (if any) at d -/
def ExV (a : Addr) (cls : Value) (d : Option Addr) : HO := .ext fun h => ∃ (oe : Obj) (vs : Array Value), h.get? a = some oe ∧ Zc cls d oe ∧ oe.data = .fields vs
theorem exV_ok {P : Program} {w : World} {H : Hp} {h : Heap} {a : Addr} {cls : Value} {d : Option Addr} {oe : Obj} {vs : Array Value} (e : h.get? a = some oe) (z : Zc cls d oe) (g : oe.data = .fields vs) : ObjOk P w H h a (ExV a cls d) := by
  refine ⟨⟨oe, vs, e, z, g⟩, ⟨oe, e⟩, ?_⟩
  rintro h1 h2 ⟨o1, v1, e1, r⟩ k
  exact ⟨o1, v1, k o1 e1, r⟩
section
variable {X : Cx} {pins : List (Addr × Obj)} {σ : L2.St} {H : Hp} {s : Shared}
/-- an object that stands and is not told is told from now on -/
theorem Inv.told {a : Addr} {cls : Value} {d : Option Addr} {oe : Obj} {vs : Array Value} (I : Inv X (pins ++ [(a, oe)]) σ H s) (hn : X.s_0.heap.get? a = none) (hx : X.ex = []) (hpa : ∀ p, p ∈ X.pn ++ pins → p.1 ≠ a) (z : Zc cls d oe) (g : oe.data = .fields vs) : Inv X pins σ (upd H a (ExV a cls d)) s := by
  obtain ⟨e, na, nL, nF, nc⟩ := I.pin (a, oe) (List.mem_append_right _ (List.mem_append_right _ (List.mem_singleton.mpr rfl)))
  have keepS : ∀ b o, H b = some o → upd H a (ExV a cls d) b = some o := fun b o q => by
    rw [upd_ne (ne_of_none q na)]
    exact q
  have J : Inv X pins σ H s := I.unpinned
  exact {
    ok := J.ok, os := J.os, bare := J.bare
    base := {
      keep := fun b o q n hb hx => J.base.keep b o q n hb hx
      slot := fun b o q n hb hx => J.base.slot b o q n hb hx
      free := fun b o q n hx => by
        have ne : b ≠ a := fun z => by rw [z, hn] at q; cases q
        rw [upd_ne ne]
        exact J.base.free b o q n hx
      there := fun b o q hx => J.base.there b o q hx
      tups := fun b xs q => keepS _ _ (J.base.tups b xs q)
      frzs := fun b o u q => keepS _ _ (J.base.frzs b o u q)
      tbls := fun b ps q => let ⟨m, e⟩ := J.base.tbls b ps q; ⟨m, keepS _ _ e⟩ }
    loc := J.loc, cell := J.cell
    free := by rw [upd_ne (Ne.symm nL)]; exact J.free
    freeC := fun x c hc => by
      have ne : c ≠ a := fun z => by
        obtain ⟨v, hv⟩ := J.cell x c hc
        rw [z] at hv
        obtain ⟨o1, h1, h2⟩ := hv
        rw [e] at h1
        cases h1
        exact nc _ h2
      rw [upd_ne ne]
      exact J.freeC x c hc
    pin := fun p hp => by
      obtain ⟨p1, p2, p3⟩ := J.pin p hp
      refine ⟨p1, ?_, p3⟩
      rw [upd_ne (hpa p hp)]
      exact p2
    hok := by
      intro b u q
      by_cases hb : b = a
      · subst hb
        rw [upd_same] at q
        cases q
        exact exV_ok e z g
      · rw [upd_ne hb] at q
        exact (J.hok b u q).stay (fun _ _ _ r => r) (fun c r => keepS c _ r) fun c xs r => keepS c _ r
    len := J.len }
end
/-- what the clause 'except c as n: y = n' wishes of an error of the body: slot i is n's, slot k is y's -/
def wKeep (K : PySem.W.Frag) (c : Value) (i k : Nat) (Wout : WX) (D : Ends) : WX := fun cls d σ H =>
  ∃ b, PySem.W.exmOne K cls c = some b ∧ (b = true → ∀ a, H a = none → D.nx (((σ.set i (some (.ref a))).set k (some (.ref a))).set i none) (upd H a (ExV a cls d))) ∧ (b = false → Wout cls d σ H)
section
variable {X : Cx} {x n y : Str} {c : Value} {i k : Nat} {body : List Stmt} {np np2 np3 pos pos' pos3 : Pos} {tb : WX → TS} {Wout : WX}
theorem ps_try_keep (hs : X.stack = X.env :: X.outer) (hf : X.env.frame = some X.env.locals) (hN : X.N.Nodup) (hi : X.N[i]? = some n) (hln : X.env.kindOf n = some .local) (hk : X.N[k]? = some y) (hly : X.env.kindOf y = some .local) (hik : i ≠ k) (hex : X.ex = [])
    (hc : Names X x c) (tk : Takes X Wout)
    (hb : ∀ (W : WX) (pn : List (Addr × Obj)) (xe : Value → Shared → Prop), Takes (X.tr pn xe) W → PassesOwn (model X.prog X.w) X.A X.env xe → PSs (X.tr pn xe) body (tb W))
    (hdn : (n == ("__debug__" : Str)) = false := by decide) (hcn : (n == ("__classdict__" : Str)) = false := by decide)
    (hsw : ∀ l, swapsWith (.Name n np2) (some (.Name y np3)) l X.env = pure false := by intro _; rfl) :
    PS X (.Try body [.ExceptHandler (some (.Name x np)) (some n) [.Assign [.Name y np3] (.Name n np2) pos3] pos'] [] [] pos) (fun D σ H => tb (wKeep X.K c i k Wout D) D σ H) := by
  constructor
  intro pins s σ H D I h
  have ok := I.ok
  have hfr : X.A.frames = some (X.env :: X.outer) := by rw [ok.frames, hs]
  refine wpAny_Try_except ?_
  refine wpAny_mono ((hb (wKeep X.K c i k Wout D) (X.pn ++ pins) (fun e s₁ => wpAny (model X.prog X.w) X.A (noteFrame e X.env) (fun _ s₂ => wpAny (model X.prog X.w) X.A (setFlight e none) (fun _ s₃ =>
    wpAny (model X.prog X.w) X.A (handleBy e X.env [.ExceptHandler (some (.Name x np)) (some n) [.Assign [.Name y np3] (.Name n np2) pos3] pos']) (SP X pins D) X.xe s₃) X.xe s₂) X.xe s₁) (fun u s' xx => ?_) PassesOwn.looking).run [] s σ H D (I.toTry _) h) (fun f s1 hsp => ?_) (fun e s1 he => he)
  · obtain ⟨a, B, sI, pins', σ', H', cls, d, rfl, J', nb, up, sky, na, os, ag, b, hb1, hyes, hno⟩ := xx
    have J : Inv X pins σ' H' sI := J'.ofTry ok
    have stk : Sky B (X.env :: X.outer) a (Zc cls d) X.env.locals s'.heap := hs ▸ sky
    show wpAny (model X.prog X.w) X.A (noteFrame (.ref a) X.env) _ _ _
    apply Sky.land Zc.steady hfr hf stk
    intro h3 fl3 up3
    have J3 : Inv X pins σ' H' { s' with heap := h3 } := Inv.landed J nb fl3.1 (up.trans up3) os ag
    obtain ⟨oe3, vs3, he3, hz3, hd3⟩ := fl3.there
    have nfr : a ∉ frs (X.env :: X.outer) := by
      intro hm
      obtain ⟨_, o', e', hnf⟩ := fl3.2.2.1.mem hm
      rw [he3] at e'
      cases e'
      exact hnf _ hd3
    have nS : a ∉ frs X.stack := hs ▸ nfr
    have nL : a ≠ X.env.locals := by
      intro z
      apply nfr
      exact List.mem_filterMap.mpr ⟨X.env, List.mem_cons_self, by rw [hf, z]⟩
    have nF : a ∉ X.fs := by
      intro hm
      obtain ⟨e1, he1, q1⟩ := List.mem_filterMap.mp hm
      apply nfr
      exact List.mem_filterMap.mpr ⟨e1, List.mem_cons_of_mem _ he1, q1⟩
    have hnI : sI.heap.get? a = none := by
      cases q : sI.heap.get? a with
      | none => rfl
      | some o =>
        have := nb a o q nS
        rw [fl3.2.1] at this
        cases this
    have hnS : X.s_0.heap.get? a = none := by
      cases q : X.s_0.heap.get? a with
      | none => rfl
      | some o =>
        obtain ⟨o', e'⟩ := J.base.there a o q (by rw [hex]; exact fun z => nomatch z)
        rw [hnI] at e'
        cases e'
    have hpa : ∀ p, p ∈ X.pn ++ pins → p.1 ≠ a := by
      intro p hp z
      obtain ⟨p1, _⟩ := J.pin p hp
      rw [z, hnI] at p1
      cases p1
    have S3 := J3.suite he3 hd3 na nL nF
    refine wpAny_handleBy_cons (codeAny_handlers_test ?_) (by intro q; cases q)
    have LTy : PySem.W.Looks (model X.prog X.w) h3 (typeOf (.ref a)) cls := by
      intro A Q E s k q
      refine wpAny_typeOf_ref (k _ _ he3) ?_
      rw [hz3.1]
      exact q
    have LM := PySem.W.exm_one (M := model X.prog X.w) (J3.kIn) LTy hb1
    have test : ∀ {Q : Value → Shared → Prop} {E : Value → Shared → Prop}, Q c { s' with heap := h3 } → wpAny (model X.prog X.w) (X.A.mark (some (.ref a))) (eval (.Name x np) X.env) Q E { s' with heap := h3 } := by
      intro Q E q
      obtain ⟨hg, hdbg, hm⟩ := hc
      rcases hm with hm | ⟨hm, hv, hnn⟩
      · exact ld_glob (X := X.suite a ((a, oe3) :: (X.pn ++ pins))) S3 hg hm q hdbg
      · exact ld_blt (X := X.suite a ((a, oe3) :: (X.pn ++ pins))) S3 hg hm hv q hnn hdbg
    refine test (LM.here ?_)
    cases b with
    | true =>
      apply codeAny_handlers_suite_as
      apply HandSPX.lands_againZ fl3
      intro h4 fl4 up4
      have J4 : Inv X pins σ' H' { s' with heap := h4 } := Inv.landed J nb fl4.1 ((up.trans up3).trans up4) os ag
      obtain ⟨oe4, vs4, he4, hz4, hd4⟩ := fl4.there
      have S4 := J4.suite he4 hd4 na nL nF
      refine store_ok (X := X.suite a ((a, oe4) :: (X.pn ++ pins))) (v := .ref a) S4 hN hi (.inl hln) rfl ?_ (.inr hln)
      intro s5 S5
      have st : PSs (X.suite a ((a, oe4) :: (X.pn ++ pins))) [.Assign [.Name y np3] (.Name n np2) pos3] (tAsg (tVar i) (gName k)) :=
        pss_one (ps_set (i := k) hN hk (.inl hly) (pe_var hi (.inl hln) hdn hcn) (hsw _) (.inr hly))
      have len : i < σ'.length := by
        rw [J4.len]
        exact (List.getElem?_eq_some_iff.mp hi).1
      refine wpAny_mono (st.run [] s5 _ H' { nx := fun σ6 H6 => σ6 = (σ'.set i (some (.ref a))).set k (some (.ref a)) ∧ H6 = H', rt := fun _ _ => False } S5 ⟨.ref a, by rw [List.getElem?_set_self len], rfl, rfl⟩) ?_ (fun _ _ z => False.elim z)
      intro f s6 hsp
      cases f with
      | next =>
        obtain ⟨σ6, H6, S6, rfl, rfl⟩ := hsp
        obtain ⟨q1, q2, q3, q4, q5⟩ := S6.pin (a, oe4) (List.mem_append_left _ List.mem_cons_self)
        have J6 := S6.unsuite ok
        have P6 : Inv X (pins ++ [(a, oe4)]) _ H6 s6 := J6.pins_of (by
          intro p hp
          rcases List.mem_append.mp hp with hp | hp
          · exact J6.pin p (List.mem_append_right _ hp)
          · rw [List.mem_singleton.mp hp]
            exact ⟨q1, q2, nL, nF, q5⟩)
        refine gone_ok P6 hN hi hln ?_
        intro s7 J7
        exact ⟨_, _, Inv.told J7 hnS hex hpa hz4 hd4, hyes rfl a na⟩
      | brk =>
        obtain ⟨_, _, _, z⟩ := hsp
        exact z.elim
      | cont =>
        obtain ⟨_, _, _, z⟩ := hsp
        exact z.elim
      | ret u =>
        obtain ⟨_, _, _, _, _, z⟩ := hsp
        exact z.elim
    | false =>
      show wpAny _ X.A (handleBy (.ref a) X.env []) _ _ _
      apply wpAny_handleBy_nil
      obtain ⟨k1, k2, k3, oe, vs, T, oT, ts', he, hz, hd, h1, hr⟩ := id fl3
      have fin : wpAny (model X.prog X.w) X.A (setFlight (.ref a) X.env.frame) (fun _ s4 => wpAny (model X.prog X.w) X.A (throw (.ref a) : Sem Flow) (SP X pins D) X.xe s4) X.xe { s' with heap := h3 } := by
        rw [hf]
        apply HandSPX.setFlight_upZ fl3
        intro h4 hh4 up4
        apply wpAny_throw
        apply tk
        exact ⟨a, B, sI, pins, σ', H', cls, d, rfl, J, nb, (up.trans up3).trans up4, .inr (.inr (hs ▸ hh4)), na, os, ag, hno rfl⟩
      unfold PySem.passOn
      refine wpAny_bind (wpAny_field he hd h1 ?_)
      rw [if_neg (show ¬ ((Value.ref T == Value.none) = true) by simp)]
      first
        | exact wpAny_bind (wpAny_pure (wpAny_bind fin))
        | exact wpAny_bind fin
  · cases f with
    | next =>
      obtain ⟨σ1, H1, J1, q⟩ := hsp
      exact wpAny_execs_nil ⟨σ1, H1, J1.ofTry ok, q⟩
    | brk =>
      obtain ⟨σ1, H1, J1, q⟩ := hsp
      exact ⟨σ1, H1, J1.ofTry ok, q⟩
    | cont =>
      obtain ⟨σ1, H1, J1, q⟩ := hsp
      exact ⟨σ1, H1, J1.ofTry ok, q⟩
    | ret u =>
      obtain ⟨v, σ1, H1, J1, r, q⟩ := hsp
      exact ⟨v, σ1, H1, J1.ofTry ok, r, q⟩
end
end LT
namespace LT
open PySem PySem.Spec PyProof.Rows L2
/-! ## what is the same, or equal item by item -/
def EqT (K : PySem.W.Frag) (H : Hp) : Nat → V → V → Prop
  | 0 => fun _ _ => False
  | n + 1 => fun x y => (x = y ∧ (flatB x = true ∨ ∃ a, x = .ref a)) ∨ (∃ a b xs ys, x = .ref a ∧ y = .ref b ∧ SqL K H a xs ∧ SqL K H b ys ∧ Paired (EqT K H n) xs ys) ∨
      (∃ a b xs ys, x = .ref a ∧ y = .ref b ∧ SqT K H a xs ∧ SqT K H b ys ∧ Paired (EqT K H n) xs ys)
theorem EqT.refl {K : PySem.W.Frag} {H : Hp} {n : Nat} (x : V) (h : flatB x = true ∨ ∃ a, x = .ref a) : EqT K H (n + 1) x x := .inl ⟨rfl, h⟩
theorem paired_refl {K : PySem.W.Frag} {H : Hp} {n : Nat} : ∀ {xs : List V}, (∀ x ∈ xs, flatB x = true ∨ ∃ a, x = .ref a) → Paired (EqT K H (n + 1)) xs xs
  | [], _ => .nil
  | x :: xs, h => .cons (EqT.refl x (h x List.mem_cons_self)) (paired_refl fun y hy => h y (List.mem_cons_of_mem _ hy))
theorem all_range {n : Nat} : ((List.range n).all fun _ => true) = true := List.all_eq_true.mpr fun _ _ => rfl
theorem eqItems {A : Around} {s : Shared} {F : V → V → Prop} (ih : ∀ x y v u, F x y → RelV x v → RelV y u → SeqAt.EqAt A s v u true) : ∀ {xs ys : List V}, Paired F xs ys → ∀ {us ws : List Value}, Vals xs us → Vals ys ws →
    ∀ j (h1 : j < us.length) (h2 : j < ws.length), SeqAt.EqAt A s us[j] ws[j] true
  | _, _, .nil, _, _, .nil, .nil, j, h1, _ => absurd h1 (Nat.not_lt_zero j)
  | _, _, .cons f _, _, _, .cons a _, .cons b _, 0, _, _ => ih _ _ _ _ f a b
  | _, _, .cons _ k, _, _, .cons _ r, .cons _ q, j + 1, h1, h2 => eqItems ih k r q j (Nat.lt_of_succ_lt_succ h1) (Nat.lt_of_succ_lt_succ h2)
section
variable {X : Cx} {pins : List (Addr × Obj)} {σ : L2.St} {H : Hp} {s : Shared}
theorem eqT_run (I : Inv X pins σ H s) : ∀ (n : Nat) (A : Around), A.units + n < cLine → ∀ (x y : V) (v u : Value), EqT X.K H n x y → RelV x v → RelV y u → SeqAt.EqAt A s v u true
  | 0, _, _, _, _, _, _, h, _, _ => (show False from h).elim
  | n + 1, A, hu, x, y, v, u, h, rx, ry => by
    have ih := eqT_run I n A.in1 (by show A.units + 1 + n < cLine; omega)
    rcases h with ⟨rfl, f⟩ | ⟨a, b, xs, ys, rfl, rfl, ha, hb, hp⟩ | ⟨a, b, xs, ys, rfl, rfl, ha, hb, hp⟩
    · rcases f with f | ⟨a, rfl⟩
      · exact eqAt_same rx ry f
      · cases (show v = Value.ref a from rx)
        cases (show u = Value.ref a from ry)
        exact SeqAt.EqAt.same _
    · cases (show v = Value.ref a from rx)
      cases (show u = Value.ref b from ry)
      by_cases e : a = b
      · subst e
        exact SeqAt.EqAt.same _
      obtain ⟨us, r1, p1, _⟩ := I.list ha
      obtain ⟨ws, r2, p2, _⟩ := I.list hb
      have hsz : us.toArray.size = ws.toArray.size := by
        rw [List.size_toArray, List.size_toArray, ← r1.length, ← r2.length]
        exact Paired.length hp
      have k := SeqAt.RcAt.lists (A := A) (e := fun _ => true) p1.isList p2.isList hsz (by omega) fun j h1 h2 => by
        have k := eqItems ih hp r1 r2 j (by simpa using h1) (by simpa using h2)
        simpa using k
      rw [all_range] at k
      exact SeqAt.EqAt.of_refs e k
    · cases (show v = Value.ref a from rx)
      cases (show u = Value.ref b from ry)
      by_cases e : a = b
      · subst e
        exact SeqAt.EqAt.same _
      obtain ⟨us, r1, p1, _⟩ := I.tuple ha
      obtain ⟨ws, r2, p2, _⟩ := I.tuple hb
      have hsz : us.toArray.size = ws.toArray.size := by
        rw [List.size_toArray, List.size_toArray, ← r1.length, ← r2.length]
        exact Paired.length hp
      have k := SeqAt.RcAt.tuples (A := A) (e := fun _ => true) p1 p2 (by omega) fun j h1 h2 => by
        have k := eqItems ih hp r1 r2 j (by simpa using h1) (by simpa using h2)
        simpa using k
      rw [all_range, hsz] at k
      simp only [Bool.true_and, beq_self_eq_true] at k
      exact SeqAt.EqAt.of_refs e k
/-- two lists, equal item by item: != is False, == is True -/
def rLsT (K : PySem.W.Frag) (b : Bool) : R2 := fun x y H Q => ∃ p q xs ys n, x = .ref p ∧ y = .ref q ∧ SqL K H p xs ∧ SqL K H q ys ∧ n ≤ 60 ∧ Paired (EqT K H n) xs ys ∧ Q (.bl b) H
theorem op_neT (hu : X.A.units + 64 < cLine) : OpR X (compareOp .NotEq) (rLsT X.K false) := by
  rintro pins s σ H x y v u Q I rx ry ⟨p, q, xs, ys, n, rfl, rfl, ha, hb, hn, hp, hQ⟩
  cases (show v = Value.ref p from rx)
  cases (show u = Value.ref q from ry)
  obtain ⟨us, r1, p1, _⟩ := I.list ha
  obtain ⟨ws, r2, p2, _⟩ := I.list hb
  have hsz : us.toArray.size = ws.toArray.size := by
    rw [List.size_toArray, List.size_toArray, ← r1.length, ← r2.length]
    exact Paired.length hp
  have ih := eqT_run I n X.A.in1 (by show X.A.units + 1 + n < cLine; omega)
  have k := SeqAt.RcNeAt.lists (A := X.A) (e := fun _ => true) p1.isList p2.isList hsz (by omega) fun j h1 h2 => by
    have k := eqItems ih hp r1 r2 j (by simpa using h1) (by simpa using h2)
    simpa using k
  rw [all_range] at k
  exact k _ _ _ _ ⟨.bl false, H, I, rfl, hQ⟩
theorem op_eqT (hu : X.A.units + 64 < cLine) : OpR X (compareOp .Eq) (rLsT X.K true) := by
  rintro pins s σ H x y v u Q I rx ry ⟨p, q, xs, ys, n, rfl, rfl, ha, hb, hn, hp, hQ⟩
  cases (show v = Value.ref p from rx)
  cases (show u = Value.ref q from ry)
  obtain ⟨us, r1, p1, _⟩ := I.list ha
  obtain ⟨ws, r2, p2, _⟩ := I.list hb
  have hsz : us.toArray.size = ws.toArray.size := by
    rw [List.size_toArray, List.size_toArray, ← r1.length, ← r2.length]
    exact Paired.length hp
  have ih := eqT_run I n X.A.in1 (by show X.A.units + 1 + n < cLine; omega)
  have k := SeqAt.RcAt.lists (A := X.A) (e := fun _ => true) p1.isList p2.isList hsz (by omega) fun j h1 h2 => by
    have k := eqItems ih hp r1 r2 j (by simpa using h1) (by simpa using h2)
    simpa using k
  rw [all_range] at k
  exact k _ _ _ _ ⟨.bl true, H, I, rfl, hQ⟩
end
/-! ## errors as values -/
/-- an error of the class at C (made here, or caught), its own dict holding f (where it has one) -/
inductive IsEx (H : Hp) (C : Addr) : Addr → List (Str × V) → Prop
  | made {a dx : Addr} {fs : List (Str × V)} : H a = some (exo a C (some dx)) → H dx = some (exd dx fs) → IsEx H C a fs
  | bare {a : Addr} : H a = some (exo a C none) → IsEx H C a []
  | kept {a dx : Addr} {fs : List (Str × V)} : H a = some (ExV a (.ref C) (some dx)) → H dx = some (.xd fs) → IsEx H C a fs
  | kept0 {a : Addr} : H a = some (ExV a (.ref C) none) → IsEx H C a []
theorem Fx.isEx {H H1 : Hp} {C a : Addr} {fs : List (Str × V)} (h : Fx [] H H1) (e : IsEx H C a fs) : IsEx H1 C a fs := by
  cases e with
  | made e1 e2 => exact .made (h.all e1) (h.all e2)
  | bare e1 => exact .bare (h.all e1)
  | kept e1 e2 => exact .kept (h.all e1) (h.all e2)
  | kept0 e1 => exact .kept0 (h.all e1)
section
variable {X : Cx} {pins : List (Addr × Obj)} {σ : L2.St} {H : Hp} {s : Shared} {C a : Addr} {fs : List (Str × V)}
theorem notCls_fields {oe : Obj} {vs : Array Value} (h : oe.data = .fields vs) : PySem.W.notCls oe = true := by
  unfold PySem.W.notCls
  rw [h]
/-- the object and its dict in the heap -/
theorem IsEx.inst (e : IsEx H C a fs) (I : Inv X pins σ H s) : ∃ oe od, PySem.W.InstAt s.heap a oe C od ∧ (od = none ∧ fs = [] ∨ ∃ o, od = some o ∧ ∃ mA : Str → Option Value, (∀ f, RelO (fs.lookup f) (mA f)) ∧ ∀ name, PySem.W.lookIn name o = some (mA name)) := by
  cases e with
  | made e1 e2 =>
    obtain ⟨t1, h1⟩ := exo_at I.hok e1
    obtain ⟨mA, hns, rel⟩ := exd_at I.hok e2
    obtain ⟨od, ho, hl⟩ := lookIn_ns hns
    exact ⟨_, some od, ⟨h1, rfl, notCls_fields rfl, ho⟩, .inr ⟨od, rfl, mA, rel, hl⟩⟩
  | bare e1 =>
    obtain ⟨t1, h1⟩ := exo_at I.hok e1
    exact ⟨_, none, ⟨h1, rfl, notCls_fields rfl, trivial⟩, .inl ⟨rfl, rfl⟩⟩
  | kept e1 e2 =>
    obtain ⟨⟨oe, vs, h1, z, g⟩, _⟩ := I.hok a _ e1
    have hx : ObjOk X.prog X.w H s.heap _ (.xd fs) := I.hok _ _ e2
    obtain ⟨mA, hns, rel⟩ := hx
    obtain ⟨od, ho, hl⟩ := lookIn_ns hns
    refine ⟨oe, some od, ⟨h1, z.1, notCls_fields g, ?_⟩, .inr ⟨od, rfl, mA, rel, hl⟩⟩
    rw [z.2]
    exact ho
  | kept0 e1 =>
    obtain ⟨⟨oe, vs, h1, z, g⟩, _⟩ := I.hok a _ e1
    refine ⟨oe, none, ⟨h1, z.1, notCls_fields g, ?_⟩, .inl ⟨rfl, rfl⟩⟩
    rw [z.2]
    trivial
/-- e.f -/
def tExf (K : PySem.W.Frag) (f : Str) (te : TE) : TE := fun σ H Q => te σ H fun x H1 => ∃ C a fs v, x = .ref a ∧ IsEx H1 C a fs ∧ fs.lookup f = some v ∧ XfC K C ∧ PySem.W.findIn K (.ref C) f = some none ∧ Q v H1
theorem pe_exf {e : Expr} {te : TE} {pos : Pos} {n : Str} (he : PE X e te) (hb : attributeBase e n X.env (eval e X.env) = eval e X.env := by rfl) : PE X (.Attribute e n pos) (tExf X.K n te) := by
  constructor
  intro pins s σ H Q I h
  refine attr_of hb (thn (he.run pins s σ H _ I h) ?_)
  rintro u s1 ⟨x, H1, I1, rx, C, a, fs, v, rfl, ie, l, T, hno, q⟩
  cases (show u = Value.ref a from rx)
  obtain ⟨oe, od, J, r⟩ := ie.inst I1
  rcases r with ⟨_, rfl⟩ | ⟨o, rfl, mA, rel, hl⟩
  · cases l
  · obtain ⟨u, hu, ru⟩ := RelO.some_of (v := v) (o := mA n) (by rw [← l]; exact rel n)
    exact HandSPX.exc_get I1.kIn J T.ga T.gg T.exC (PySem.W.findObj_own T.hdC hno rfl (by rw [hl, hu])) (handed_of ru) ⟨v, H1, I1.tok _, ru, q⟩
/-- isinstance(e, c) of an error, of None, or of data -/
inductive TyE (K : PySem.W.Frag) (H : Hp) : V → Value → Prop
  | dat {x : V} {t : Value} : TyX K H x t → TyE K H x t
  | exc {C a : Addr} {fs : List (Str × V)} : IsEx H C a fs → ExcC K C → TyE K H (.ref a) (.ref C)
def rIsE (K : PySem.W.Frag) : List V → Hp → VK → Prop := fun xs H Q => ∃ (x c : V) (t u : Value) (b : Bool), xs = [x, c] ∧ ClsV c u ∧ TyE K H x t ∧ PySem.W.kitOne K t u = some b ∧ Q (.bl b) H
theorem call_isV (K : PySem.W.Frag) (h : X.K = K) : CallR X (.builtin "isinstance") (rIsE K) := by
  subst h
  rintro pins s σ H xs us Q I r ⟨x, c, t, u, b, rfl, k, ty, e, q⟩
  cases ty with
  | dat ty => exact call_isi pins s σ H [x, c] us Q I r ⟨x, c, t, u, b, rfl, k, ty, e, q⟩
  | @exc C a fs ie ec =>
    obtain ⟨u1, u2, rfl, r1, r2⟩ := vals2 r
    have e2 := k.eq r2
    subst e2
    cases (show u1 = Value.ref a from r1)
    obtain ⟨oe, od, J, _⟩ := ie.inst I
    refine PySem.W.kia_one (PySem.W.kitx_exc ?_ ec.hg ec.hk ec.hs ec.ha ec.hn ec.ht ec.hm) I.kIn J e (fun z => nomatch z) fun tk => ⟨.bl b, H, I.tok tk, rfl, q⟩
    obtain ⟨cd, hc, _⟩ := PySem.W.any_some ec.hd
    rw [hc]
    rfl
end
end LT
/-! an own error made by keywords -/
namespace PySem
namespace LTK
open Builtin Builtin.ObjectAttr HandSPX
section
variable {M : Model} {A : Around} {E : Value → Shared → Prop} {h : Heap} {g : Array GenState} {d : Drawn} {t : Nat} {os : OsState}
variable {nm q : Str} {C N : Addr} {bs bm bmB : List Value} {hdct : Bool} {sn : List Str} {sub : List Value} {ab : Bool} {col : Option Bool} {dd : Option Addr} {k0 k1 k2 k3 k5 : Option Value} {B newId initId : String}
theorem check_new_kw (F : ExcBaseFacts B newId initId bmB) (hT : ∀ X : String, bm.contains (.type X) = bmB.contains (.type X)) {rest : List Value} {f : Str} {v : Value} {Q : Unit → Shared → Prop}
    (hC : h.get? C = some (excClassObj nm q C N bs bm hdct sn sub ab col dd k0 k1 k2 k3 k5 newId)) (hq : Q () ⟨h, g, d, t, os⟩) :
    wpAny M A (checkBuiltinCall newId ⟨.ref C :: rest, [(f, v)]⟩) Q E ⟨h, g, d, t, os⟩ := by
  have hcont : (Value.ref C :: bm).contains (.type B) = true := by
    rw [List.contains_cons, hT, F.hasB]
    exact Bool.or_true _
  have hs := F.noStar
  simp only [checkBuiltinCall, F.newKind, F.newSplit, F.newRow]
  repeat (first | refine wpAny_loadPart_at hC ?_ | (refine wpAny_isSubtype_exc hC ?_; rw [hcont]) | refine wpAny_staticBase_exc hC ?_ | refine wpAny_madeBy_exc hC ?_ | simp only [bne_self_eq_false, Bool.false_eq_true, if_false] | wp_step)
  exact hq
end
section
variable {prog : Program} {w : World} {A : Around} {E : Value → Shared → Prop} {R : Result → Shared → Prop} {h : Heap} {g : Array GenState} {d : Drawn} {t : Nat} {os : OsState}
variable {nm q : Str} {C N : Addr} {bs bm bmB : List Value} {hdct : Bool} {sn : List Str} {sub : List Value} {ab : Bool} {col : Option Bool} {dd : Option Addr} {k0 k1 k2 k3 k5 : Option Value} {B newId initId : String}
theorem new_kw (F : ExcBaseFacts B newId initId bmB) (hT : ∀ X : String, bm.contains (.type X) = bmB.contains (.type X)) {rest : List Value} {f : Str} {v : Value}
    (hC : h.get? C = some (excClassObj nm q C N bs bm hdct sn sub ab col dd k0 k1 k2 k3 k5 newId))
    (hq : R (.ok (.ret (.ref (h.objs.size + 1)))) ⟨(h.push { cls := .type "tuple", data := .seq rest.toArray }).push { cls := .ref C, data := .fields #[.ref h.objs.size, .none, .none, .none, .bool false, .none] }, g, d, t, os⟩)
    (hrest : rest.length ≤ sizeLine) : codeAny (model prog w) A (.builtin newId ⟨.ref C :: rest, [(f, v)]⟩) R ⟨h, g, d, t, os⟩ := by
  have he := F.ends
  have c1 : (Value.ref C :: bm).contains (.type B) = true := by
    rw [List.contains_cons, hT, F.hasB]
    exact Bool.or_true _
  have c2 : (Value.ref C :: bm).contains (.type "AttributeError") = false := by
    rw [List.contains_cons, hT, F.noAttr]
    rfl
  have c3 : (Value.ref C :: bm).contains (.type "NameError") = false := by
    rw [List.contains_cons, hT, F.noName]
    rfl
  apply codeAny_builtinAt F.entry
  unfold Builtin.«BaseException.__new__»
  apply wpAt_bind
  show wpAt _ _ _ (stack >>= _) _ _ _
  refine wpAt_bind (wpAt_stack fun p below => ?_)
  apply wpAt_of_wpAny
  wp_walk
  apply wpAt_of_wpAny
  rw [F.owner]
  repeat (first | with_reducible refine wpAny_madeHere_exc F.canon hC ?_ | with_reducible refine wpAny_loadPart_at hC ?_ | (with_reducible refine wpAny_isSubtype_exc hC ?_; first | rw [c1] | rw [c2] | rw [c3]) | wp_step)
  show R _ _
  rw [Heap.size_push]
  exact hq
theorem type_call_kw (F : ExcBaseFacts B newId initId bmB) (hT : ∀ X : String, bm.contains (.type X) = bmB.contains (.type X)) {rest : List Value} {f : Str} {v : Value} {fI : Addr} {Q : Fin → Shared → Prop}
    (hC : h.get? C = some (excClassObj nm q C N bs bm hdct sn sub ab col dd k0 k1 k2 k3 k5 newId))
    (hi : W.Looks (model prog w) h (typeLookup (.ref C) "__init__") (some (.ref fI))) (hb : ∀ self, W.Looks (model prog w) h (bindSpecial (.ref fI) self) (.ref fI, [self])) (hrest : rest.length ≤ sizeLine)
    (hq : codeAny (model prog w) A (.call (.ref fI) ⟨.ref (h.objs.size + 1) :: rest, [(f, v)]⟩)
      (fun r s' => match r with | .ok (.ret v) => v = .none ∧ Q (.done (.ret (.ref (h.objs.size + 1)))) s' | .ok _ => False | .error e => E e s') ⟨(h.push (W.kdv_tup rest)).push (excO C h.objs.size), g, d, t, os⟩) :
    wpAny (model prog w) A (Builtin.«type.__call__» ⟨.ref C :: rest, [(f, v)]⟩) Q E ⟨h, g, d, t, os⟩ := by
  repeat (first | with_reducible refine wpAny_loadPart_at hC ?_ | with_reducible refine wpAny_madeBy_exc hC ?_ | wp_step)
  apply codeAny_call_builtin_code (Code.quiet_builtin _ F.quiet) (check_new_kw F hT hC _)
  apply new_kw F hT hC _ hrest
  show wpAny _ _ _ _ _ _
  have k : ∀ b o, h.get? b = some o → ((h.push (W.kdv_tup rest)).push (excO C h.objs.size)).get? b = some o := by
    intro b o e
    exact Heap.get?_push_of_some _ (Heap.get?_push_of_some _ e)
  have hC1 := k _ _ hC
  have hget : ((h.push (W.kdv_tup rest)).push (excO C h.objs.size)).get? (h.objs.size + 1) = some (excO C h.objs.size) := by
    heap_get
  have hcC : (Value.ref C :: bm).contains (.ref C) = true := by
    simp
  have i1 := hi.keeps k
  have b1 := (hb (.ref (h.objs.size + 1))).keeps k
  unfold isInstance
  repeat (first | with_reducible refine wpAny_loadPart_at hget ?_ | (with_reducible refine wpAny_isSubtype_exc hC1 ?_; rw [hcC]) | wp_step)
  show wpAny _ _ (typeLookup (.ref C) _) _ _ _
  apply i1.at
  refine wpAny_holding (wpAny_bind (b1.at ?_))
  apply wpAny_bind
  refine wpAny_call (codeAny_mono hq ?_)
  intro r s' z
  rcases r with e | (v | _ | _ | _) <;> first | exact z | exact z.elim | skip
  obtain ⟨rfl, z⟩ := z
  first
    | exact wpAny_pure (wpAny_pure z)
    | (wp_walk; exact z)
theorem call_kw (F : ExcBaseFacts B newId initId bmB) (hT : ∀ X : String, bm.contains (.type X) = bmB.contains (.type X)) {rest : List Value} {f : Str} {v : Value} {fI : Addr}
    (hC : h.get? C = some (excClassObj nm q C N bs bm hdct sn sub ab col dd k0 k1 k2 k3 k5 newId))
    (hi : W.Looks (model prog w) h (typeLookup (.ref C) "__init__") (some (.ref fI))) (hb : ∀ self, W.Looks (model prog w) h (bindSpecial (.ref fI) self) (.ref fI, [self])) (hrest : rest.length ≤ sizeLine)
    (hq : codeAny (model prog w) (A.under (.builtin "type.__call__" ⟨.ref C :: rest, [(f, v)]⟩)) (.call (.ref fI) ⟨.ref (h.objs.size + 1) :: rest, [(f, v)]⟩) (W.InitBack (h.objs.size + 1) R) ⟨(h.push (W.kdv_tup rest)).push (excO C h.objs.size), g, d, t, os⟩) :
    codeAny (model prog w) A (.call (.ref C) ⟨rest, [(f, v)]⟩) R ⟨h, g, d, t, os⟩ := by
  have l1 := tc_lookup
  have l2 := tc_bind (.ref C)
  have hTy : (⟨h, g, d, t, os⟩ : Shared).TypeIs (.ref C) "type" := ⟨_, hC, rfl⟩
  apply codeAny_of_tree
  show wpAny _ _ (callAny (.ref C) _) _ _ _
  repeat (any_goals (first | assumption | with_reducible refine wpAny_loadPart_at hC ?_ | wp_step))
  refine ⟨rfl, ?_⟩
  refine codeAny_call_builtin_at (Code.quiet_builtin _ (by decide +kernel)) entry_typeCall (wpAny_check_type_call_sub hC (type_call_kw F hT hC hi hb hrest ?_))
  refine codeAny_mono hq ?_
  intro r s' z
  rcases r with e | (v | _ | _ | _) <;> exact z
end
end LTK
end PySem
namespace LT
open PySem PySem.Spec PyProof.Rows L2
/-! ## own errors made as values -/
/-- an own error class with one field, None where it is left out -/
structure ErrV (P : Program) (w : World) (K : PySem.W.Frag) (mg : Str → Option Value) (base : Heap) (x f : Str) (C : Addr) : Prop where
  T : OexC K C
  gl : mg x = some (.ref C)
  nf : PySem.W.findIn K (.ref C) f = some none
  xf : XfC K C
  ex : ExcC K C
  ini : ∃ fI fd, PySem.W.findIn K (.ref C) "__init__" = some (some (.ref fI)) ∧ PySem.W.typeIn K (.ref fI) = some (.type "function") ∧ FnOk P w K mg base CX0 1 fI fd ["self", f] (spInit K C f) ∧
    (∀ (s : Shared) (e u : Value), K.In s.heap → BindsTo s fd ⟨[e, u], []⟩ [("self", e), (f, u)]) ∧ (∀ (s : Shared) (e : Value), K.In s.heap → BindsTo s fd ⟨[e], []⟩ [("self", e), (f, .none)]) ∧
    (∀ (s : Shared) (e u : Value), K.In s.heap → BindsTo s fd ⟨[e], [(f, u)]⟩ [("self", e), (f, u)])
theorem ErrV.errC {P : Program} {w : World} {K : PySem.W.Frag} {mg : Str → Option Value} {base : Heap} {x f : Str} {C : Addr} (c : ErrV P w K mg base x f C) : ErrC P w K mg base x f C := by
  obtain ⟨fI, fd, iC, tI, F, b1, _⟩ := c.ini
  refine ⟨c.T, c.gl, c.nf, c.xf, c.ex, fI, fd, iC, tI, F, fun s us X hl => ?_⟩
  match us, hl with
  | [e, u], _ => exact b1 s e u X
/-- the error made, its dict at dx -/
def mkH (C a dx : Addr) (f : Str) (v : V) (H : Hp) : Hp := upd (upd H dx (exd dx [(f, v)])) a (exo a C (some dx))
def mkQ (C : Addr) (f : Str) (v : V) (H : Hp) (Q : VK) : Prop := ∀ a dx, H a = none → H dx = none → dx ≠ a → Q (.ref a) (mkH C a dx f v H)
section
variable {X : Cx} {pins : List (Addr × Obj)} {σ : L2.St} {H : Hp} {x f : Str} {C : Addr} {e : Expr} {te : TE} {p pos : Pos} {j : Nat} {hp : Heap} {g : Array GenState} {dr : Drawn} {tk : Nat} {os : OsState}
theorem mk_run {us : List Value} {kw : List (Str × Value)} {v : V} {u : Value} {Q : VK} (T : OexC X.K C) (hus : us.length ≤ 1) (hkw : kw = [] ∨ ∃ u0, kw = [(f, u0)]) {fI : Addr} {fd : FuncData} (iC : PySem.W.findIn X.K (.ref C) "__init__" = some (some (.ref fI)))
    (tI : PySem.W.typeIn X.K (.ref fI) = some (.type "function")) (F1 : FnOk X.prog X.w X.K X.mg X.base CX0 1 fI fd ["self", f] (spInit X.K C f)) (hr : Room 2 X.A) (I1 : Inv X pins σ H ⟨hp, g, dr, tk, os⟩)
    (hb : ∀ (s : Shared) (e : Value), X.K.In s.heap → BindsTo s fd ⟨e :: us, kw⟩ [("self", e), (f, u)]) (r : RelV v u) (q : mkQ C f v H Q) :
    wpAny (model X.prog X.w) X.A (call (.ref C) us kw) (EP X pins σ Q) X.xe ⟨hp, g, dr, tk, os⟩ := by
  obtain ⟨nm, qn, N, bs, bm, sn, sub, ab, col, dd, k0, k1, k2, k3, k5, hC, hbm⟩ := T.cls
  have hsz : hp.objs.size ≤ hp.objs.size + 1 := Nat.le_succ _
  have hn : H (hp.objs.size + 1) = none := I1.hok.fresh hsz
  have kk : ∀ b o, hp.get? b = some o → ((hp.push (PySem.W.kdv_tup us)).push (PySem.HandSPX.excO C hp.objs.size)).get? b = some o := fun b o e => Heap.get?_push_of_some _ (Heap.get?_push_of_some _ e)
  have hget : ((hp.push (PySem.W.kdv_tup us)).push (PySem.HandSPX.excO C hp.objs.size)).get? (hp.objs.size + 1) = some (PySem.HandSPX.excO C hp.objs.size) := by heap_get
  have I2 : Inv X pins σ (upd H (hp.objs.size + 1) (exo (hp.objs.size + 1) C none)) ⟨(hp.push (PySem.W.kdv_tup us)).push (PySem.HandSPX.excO C hp.objs.size), g, dr, tk, os⟩ :=
    I1.laid (t' := tk) (a := hp.objs.size + 1) (o := exo (hp.objs.size + 1) C none) (h' := (hp.push (PySem.W.kdv_tup us)).push (PySem.HandSPX.excO C hp.objs.size)) kk hsz (exo_ok hget)
  have hus' : us.length ≤ sizeLine := by
    rw [sizeLine_eq]
    omega
  have sp : spInit X.K C f [V.ref (hp.objs.size + 1), v] (upd H (hp.objs.size + 1) (exo (hp.objs.size + 1) C none)) (fun z H2 => z = .non ∧ Q (.ref (hp.objs.size + 1)) H2) (fun _ _ _ => False) := by
    refine ⟨_, v, rfl, upd_same, fun dx hdx ne => ⟨rfl, ?_⟩⟩
    rw [upd_ne ne] at hdx
    rw [upd_upd3 ne]
    exact q _ dx hn hdx ne
  have core : codeAny (model X.prog X.w) (X.A.under (.builtin "type.__call__" ⟨.ref C :: us, kw⟩)) (.call (.ref fI) ⟨.ref (hp.objs.size + 1) :: us, kw⟩)
      (PySem.W.InitBack (hp.objs.size + 1) fun r s' => match r with | .ok (.ret v) => EP X pins σ Q v s' | .ok _ => False | .error e => X.xe e s') ⟨(hp.push (PySem.W.kdv_tup us)).push (PySem.HandSPX.excO C hp.objs.size), g, dr, tk, os⟩ := by
    refine codeAny_mono (F1.run _ X.stack _ _ ⟨Value.ref (hp.objs.size + 1) :: us, kw⟩ [.ref (hp.objs.size + 1), u] _ _ (fun _ _ _ => False) (hr.make C us kw) (I2.env0.make C us kw) (hb _ (Value.ref (hp.objs.size + 1)) I2.kIn) (Paired.cons (show RelV (V.ref (hp.objs.size + 1)) (Value.ref (hp.objs.size + 1)) from rfl) (.cons r .nil)) sp) fun r s' hq' => ?_
    cases r with
    | error er => exact hq'.elim
    | ok fl =>
      cases fl with
      | ret u =>
        obtain ⟨z, H2, J, rv, ev, q2⟩ := I2.after hq'
        subst ev
        cases rv
        exact ⟨rfl, .ref (hp.objs.size + 1), H2, J, rfl, q2⟩
      | next => exact hq'.elim
      | brk => exact hq'.elim
      | cont => exact hq'.elim
  rcases hkw with rfl | ⟨u0, rfl⟩
  · exact wpAny_call (PySem.HandSPX.call_own F.excBase_ValueError (fun Y => PySem.HandSPX.refsVE_contains Y bm hbm) (I1.kIn _ _ hC) (PySem.W.looks_findIn I1.kIn iC) (fun self => PySem.W.bind_fn I1.kIn self tI) hus' core)
  · exact wpAny_call (PySem.LTK.call_kw F.excBase_ValueError (fun Y => PySem.HandSPX.refsVE_contains Y bm hbm) (I1.kIn _ _ hC) (PySem.W.looks_findIn I1.kIn iC) (fun self => PySem.W.bind_fn I1.kIn self tI) hus' core)
def tMkP (C : Addr) (f : Str) (te : TE) : TE := fun σ H Q => te σ H fun v H1 => mkQ C f v H1 Q
def tMk0 (C : Addr) (f : Str) : TE := fun σ H Q => mkQ C f .non H Q
def tMkK (C : Addr) (f : Str) (tk : TA) : TE := fun σ H Q => tk σ H fun zs H1 => ∃ v, zs = [v] ∧ mkQ C f v H1 Q
/-- C(e) -/
theorem pe_mkP (c : ErrV X.prog X.w X.K X.mg X.base x f C) (hr : Room j X.A) (hg : Gl X x) (he : PE X e te) (hj : 2 ≤ j := by decide) (hdb : (x == ("__debug__" : Str)) = false := by decide)
    (hst : starEach [e] X.env = (false, eval e X.env) :: starEach [] X.env := by rfl) (hpl : (backTo pos (starEach [] X.env)).any (·.1) = false := by rfl) :
    PE X (.Call (.Name x p) [e] [] pos) (tMkP C f te) := by
  obtain ⟨fI, fd, iC, tI, F1, b1, b2, b3⟩ := c.ini
  constructor
  intro pins s σ H Q I h
  apply wpAny_Call_Name_kw
  apply ld_glob I hg c.gl _ hdb
  apply PySem.W.callWith_K (h₀ := X.base) I.ok.mod.kin c.T.kC _ hst hpl
  rw [hst]
  show wpAny _ _ (spliced ((false, eval e X.env) :: backTo pos (starEach [] X.env))) _ _ s
  apply Calls.spliced_cons
  refine thn (he.run pins s σ H _ I h) ?_
  rintro u s1 ⟨v, H1, I1, r1, q1⟩
  refine Calls.spliced_nil ⟨I1.kIn, ?_⟩
  obtain ⟨hp, g, dr, tk, os⟩ := s1
  exact mk_run (us := [u]) (kw := []) c.T (Nat.le_refl _) (.inl rfl) iC tI F1 (hr.mono hj) I1 (fun s e X => b1 s e u X) r1 q1
/-- C() -/
theorem pe_mk0 (c : ErrV X.prog X.w X.K X.mg X.base x f C) (hr : Room j X.A) (hg : Gl X x) (hj : 2 ≤ j := by decide) (hdb : (x == ("__debug__" : Str)) = false := by decide) :
    PE X (.Call (.Name x p) [] [] pos) (tMk0 C f) := by
  obtain ⟨fI, fd, iC, tI, F1, b1, b2, b3⟩ := c.ini
  constructor
  intro pins s σ H Q I h
  apply wpAny_Call_Name_kw
  apply ld_glob I hg c.gl _ hdb
  apply PySem.W.callWith_K0 I.kIn c.T.kC
  obtain ⟨hp, g, dr, tk, os⟩ := s
  exact mk_run (us := []) (kw := []) c.T (Nat.zero_le _) (.inl rfl) iC tI F1 (hr.mono hj) I (fun s e X => b2 s e X) (show RelV .non .none from rfl) h
/-- C(f = e) -/
theorem pe_mkK {kws : List Keyword} {tk : TA} (c : ErrV X.prog X.w X.K X.mg X.base x f C) (hr : Room j X.A) (hg : Gl X x) (hkw : PK X kws tk) (hj : 2 ≤ j := by decide)
    (hall : (backToKw pos (keywordEach kws X.env)).all (·.1.isSome) = true := by rfl) (hks : (backToKw pos (keywordEach kws X.env)).filterMap (·.1) = [f] := by rfl)
    (hdb : (x == ("__debug__" : Str)) = false := by decide)
    (hpl : ((backTo pos (starEach [] X.env)).any (·.1) || (backToKw pos (keywordEach kws X.env)).any (·.1.isNone)) = false := by rfl) :
    PE X (.Call (.Name x p) [] kws pos) (tMkK C f tk) := by
  obtain ⟨fI, fd, iC, tI, F1, b1, b2, b3⟩ := c.ini
  constructor
  intro pins s σ H Q I h
  apply wpAny_Call_Name_kw
  apply ld_glob I hg c.gl _ hdb
  apply PySem.W.callWith_KW0 (h₀ := X.base) I.ok.mod.kin c.T.kC hall _ hpl
  refine thn (hkw.run pos pins s σ H _ I h) ?_
  rintro ws s2 ⟨zs, H2, I2, rz, v, rfl, q2⟩
  refine And.intro I2.kIn ?_
  rw [hks]
  cases rz with
  | cons r rn =>
    rename_i u us
    cases rn
    obtain ⟨hp, g, dr, tk, os⟩ := s2
    exact mk_run (us := []) (kw := [(f, u)]) c.T (Nat.zero_le _) (.inr ⟨u, rfl⟩) iC tI F1 (hr.mono hj) I2 (fun s e X => b3 s e u X) r q2
/-- C(), an own class without own __init__ -/
def tMkE (cls : Value) : TE := fun _ H Q => ∀ a, H a = none → Q (.ref a) (upd H a (ExV a cls none))
theorem pe_exc0 {bmB : List Value} {B newId initId : String} (F : ExcBaseFacts B newId initId bmB) (q : PySem.W.excIn X.K C bmB newId = true) (gC : X.mg x = some (.ref C)) (kC : PySem.W.keepIn X.K (.ref C) = true) (hg : Gl X x) (hdb : (x == ("__debug__" : Str)) = false := by decide) :
    PE X (.Call (.Name x p) [] [] pos) (tMkE (.ref C)) := by
  constructor
  intro pins s σ H Q I h
  apply wpAny_Call_Name_kw
  apply ld_glob I hg gC _ hdb
  apply PySem.W.callWith_K0 I.kIn kC
  show wpAny _ _ (call (.ref C) []) _ _ _
  obtain ⟨bm, N, nm, qn, bs, hdct, sn, sub, ab, col, dd, k0, k1, k2, k3, k5, mN, hC, hN, hni, T⟩ := exc_obj I.kIn q
  obtain ⟨hp, g, dr, tk, os⟩ := s
  refine wpAny_call_exc_subT F T hC hN hni (fun h' a hm => ?_) (by show 0 ≤ sizeLine; exact Nat.zero_le _)
  have hn : H a = none := I.hok.gone hm.new
  obtain ⟨t, ht, _, _⟩ := hm.there
  exact ⟨.ref a, upd H a (ExV a (.ref C) none), I.laidN hm.keeps hm.new hn (exV_ok ht ⟨rfl, rfl⟩ rfl), rfl, h a hn⟩
/-- ValueError() -/
def rMkB : List V → Hp → VK → Prop := fun xs H Q => xs = [] ∧ ∀ a, H a = none → Q (.ref a) (upd H a (ExV a (.type "ValueError") none))
theorem call_mkB : CallR X (.type "ValueError") rMkB := by
  rintro pins s σ H xs us Q I r ⟨rfl, h⟩
  cases r
  obtain ⟨hp, g, dr, tk, os⟩ := s
  refine wpAny_call_exc PySem.F.excCall_ValueError (fun h' a hm => ?_) (by show 0 ≤ sizeLine; exact Nat.zero_le _)
  have hn : H a = none := I.hok.gone hm.new
  obtain ⟨t, ht, _, _⟩ := hm.there
  exact ⟨.ref a, upd H a (ExV a (.type "ValueError") none), I.laidN hm.keeps hm.new hn (exV_ok ht ⟨rfl, rfl⟩ rfl), rfl, h a hn⟩
/-- isinstance of what stands as an error of ValueError's own -/
inductive TyF (K : PySem.W.Frag) (H : Hp) : V → Value → Prop
  | own {x : V} {t : Value} : TyE K H x t → TyF K H x t
  | blt {a : Addr} : H a = some (ExV a (.type "ValueError") none) → TyF K H (.ref a) (.type "ValueError")
def rIsF (K : PySem.W.Frag) : List V → Hp → VK → Prop := fun xs H Q => ∃ (x c : V) (t u : Value) (b : Bool), xs = [x, c] ∧ ClsV c u ∧ TyF K H x t ∧ PySem.W.kitOne K t u = some b ∧ Q (.bl b) H
theorem call_isF (K : PySem.W.Frag) (h : X.K = K) : CallR X (.builtin "isinstance") (rIsF K) := by
  subst h
  rintro pins s σ H xs us Q I r ⟨x, c, t, u, b, rfl, k, ty, e, q⟩
  cases ty with
  | own ty => exact call_isV X.K rfl pins s σ H [x, c] us Q I r ⟨x, c, t, u, b, rfl, k, ty, e, q⟩
  | @blt a ha =>
    obtain ⟨u1, u2, rfl, r1, r2⟩ := vals2 r
    have e2 := k.eq r2
    subst e2
    cases (show u1 = Value.ref a from r1)
    obtain ⟨⟨oe, vs, h1, z, _⟩, _⟩ := I.hok a _ ha
    refine PySem.W.kia_one (PySem.W.kitx_bexc PySem.F.excAttr_ValueError (by kernel_rfl) (by kernel_rfl) (by decide)) I.kIn ⟨oe, h1, z.1⟩ e (fun z => nomatch z) fun tk => ⟨.bl b, H, I.tok tk, rfl, q⟩
end
end LT
namespace LT
open PySem PySem.Spec PyProof.Rows L2
/-! ## displays of many items, put together piece by piece -/
section
variable {A : Type} {R : Hp → A → V → Prop} {H H0 H1 H' : Hp} {σ : L2.St} {t te : TE} {ts : TA} {p : A} {ps qs : List A} {k : Nat} {Dn : Ends} {xs : List V} {a : Addr}
def MonoR (R : Hp → A → V → Prop) : Prop := ∀ H H' p x, Fx [] H H' → R H p x → R H' p x
/-- the reading t leads to an item that stands for p, and changes nothing that stood -/
def El (R : Hp → A → V → Prop) (H0 : Hp) (σ : L2.St) (t : TE) (p : A) : Prop := ∀ H Q, Fx [] H0 H → (∀ x H', Fx [] H H' → R H' p x → Q x H') → t σ H Q
def Els (R : Hp → A → V → Prop) (H0 : Hp) (σ : L2.St) (ts : TA) (ps : List A) : Prop := ∀ H Q, Fx [] H0 H → (∀ xs H', Fx [] H H' → Paired (R H') ps xs → Q xs H') → ts σ H Q
theorem els_nil : Els R H0 σ tNil ([] : List A) := fun H Q _ q => q [] H (Fx.refl _ _) .nil
theorem els_cons (m : MonoR R) (e : El R H0 σ t p) (es : Els R H0 σ ts ps) : Els R H0 σ (tCons t ts) (p :: ps) := fun H Q f q =>
  e H _ f fun x H1 f1 r => es H1 _ (f.trans f1) fun xs H2 f2 rs => q (x :: xs) H2 (f1.trans f2) (.cons (m _ _ _ _ f2 r) rs)
theorem paired_len (h : Paired (R H) ps xs) : xs.length = ps.length := (Paired.length h).symm
theorem paired_app {ys : List V} : ∀ {ps : List A} {zs : List V}, Paired (R H) ps zs → Paired (R H) qs ys → Paired (R H) (ps ++ qs) (zs ++ ys)
  | _, _, .nil, b => b
  | _, _, .cons x r, b => .cons x (paired_app r b)
theorem paired_fx (m : MonoR R) (f : Fx [] H H') (h : Paired (R H) ps xs) : Paired (R H') ps xs := h.mono fun a b r => m _ _ _ _ f r
/-- slot k holds a list of such items -/
def AtL (R : Hp → A → V → Prop) (H : Hp) (σ : L2.St) (k : Nat) (ps : List A) : Prop := ∃ a xs, σ[k]? = some (some (.ref a)) ∧ H a = some (.lst xs) ∧ Paired (R H) ps xs
def IsL (R : Hp → A → V → Prop) (H : Hp) (ps : List A) (v : V) : Prop := ∃ a xs, v = .ref a ∧ H a = some (.lst xs) ∧ Paired (R H) ps xs
theorem el_lst (m : MonoR R) (es : Els R H0 σ ts ps) (sz : ps.length ≤ 1000) : El (IsL R) H0 σ (tLst ts) ps := fun H Q f q =>
  es H _ f fun xs H1 f1 pr => ⟨by rw [paired_len pr, sizeLine_eq]; omega, fun a ha => q _ _ (f1.trans (Fx.new _ ha)) ⟨a, xs, rfl, upd_same, paired_fx m (Fx.new _ ha) pr⟩⟩
theorem st_lst (m : MonoR R) (es : Els R H σ ts ps) (sz : ps.length ≤ 1000) (h : ∀ a xs H', Fx [] H H' → H' a = some (.lst xs) → Paired (R H') ps xs → Dn.nx (σ.set k (some (.ref a))) H') : tAsg (tLst ts) (gName k) Dn σ H :=
  es H _ (Fx.refl _ _) fun xs H1 f1 pr => ⟨by rw [paired_len pr, sizeLine_eq]; omega, fun a ha => h a xs _ (f1.trans (Fx.new _ ha)) upd_same (paired_fx m (Fx.new _ ha) pr)⟩
theorem op_cat_el (m : MonoR R) {j : Nat} (hs : σ[j]? = some (some (.ref a))) (ha : H a = some (.lst xs)) (hp : Paired (R H) ps xs) (es : Els R H σ ts qs) (sz : ps.length + qs.length ≤ 1000) {Q : VK}
    (h : ∀ a xs H', Fx [] H H' → H' a = some (.lst xs) → Paired (R H') (ps ++ qs) xs → Q (.ref a) H') : tOp rCat (tVar j) (tLst ts) σ H Q :=
  ⟨_, hs, es H _ (Fx.refl _ _) fun ys H1 f1 pr => ⟨by rw [paired_len pr, sizeLine_eq]; omega, fun b hb => by
    have f2 := f1.trans (Fx.new (o := .lst ys) [] hb)
    refine ⟨a, b, xs, ys, rfl, rfl, f2.all ha, upd_same, by rw [paired_len pr, paired_len hp, sizeLine_eq]; omega, fun c hc => ?_⟩
    have f3 := Fx.new (o := HO.lst (xs ++ ys)) [] hc
    exact h c _ _ (f2.trans f3) upd_same (paired_app (paired_fx m (f2.trans f3) hp) (paired_fx m ((Fx.new (o := .lst ys) [] hb).trans f3) pr))⟩⟩
theorem st_cat (m : MonoR R) (hs : σ[k]? = some (some (.ref a))) (ha : H a = some (.lst xs)) (hp : Paired (R H) ps xs) (es : Els R H σ ts qs) (sz : ps.length + qs.length ≤ 1000)
    (h : ∀ a xs H', Fx [] H H' → H' a = some (.lst xs) → Paired (R H') (ps ++ qs) xs → Dn.nx (σ.set k (some (.ref a))) H') : tAsg (tOp rCat (tVar k) (tLst ts)) (gName k) Dn σ H :=
  op_cat_el m hs ha hp es sz fun a xs H' f e pr => h a xs H' f e pr
theorem rt_cat (m : MonoR R) (hs : σ[k]? = some (some (.ref a))) (ha : H a = some (.lst xs)) (hp : Paired (R H) ps xs) (es : Els R H σ ts qs) (sz : ps.length + qs.length ≤ 1000)
    (h : ∀ a xs H', Fx [] H H' → H' a = some (.lst xs) → Paired (R H') (ps ++ qs) xs → Dn.rt (.ref a) H') : tRet (tOp rCat (tVar k) (tLst ts)) Dn σ H :=
  op_cat_el m hs ha hp es sz fun a xs H' f e pr => h a xs H' f e pr
end
/-! ### kinds of items -/
/-- the item itself -/
def RV (_ : Hp) (p x : V) : Prop := x = p
theorem mono_RV : MonoR RV := fun _ _ _ _ _ h => h
theorem rv_eq {H : Hp} : ∀ {ps xs : List V}, Paired (RV H) ps xs → xs = ps
  | _, _, .nil => rfl
  | _, _, .cons a r => by
    cases (show _ = _ from a)
    rw [rv_eq r]
/-- an error -/
def RE (H : Hp) (p : Addr × List (Str × V)) (x : V) : Prop := ∃ a, x = .ref a ∧ IsEx H p.1 a p.2
theorem mono_RE : MonoR RE := fun _ _ _ _ f ⟨a, e, h⟩ => ⟨a, e, f.isEx h⟩
section
variable {H H0 : Hp} {σ : L2.St} {C a dx : Addr} {f : Str} {v : V} {fs : List (Str × V)} {K : PySem.W.Frag}
theorem mkH_fx (ha : H a = none) (hd : H dx = none) (ne : dx ≠ a) : Fx [] H (mkH C a dx f v H) := (Fx.new [] hd).trans (Fx.new [] (by rw [upd_ne (Ne.symm ne)]; exact ha))
theorem mkQ_of {Q : VK} (h : ∀ x H', Fx [] H H' → RE H' (C, [(f, v)]) x → Q x H') : mkQ C f v H Q := fun a dx ha hd ne =>
  h _ _ (mkH_fx ha hd ne) ⟨a, rfl, .made upd_same (by show mkH C a dx f v H dx = _; unfold mkH; rw [upd_ne ne, upd_same])⟩
theorem el_mkP {i : Nat} (hs : σ[i]? = some (some v)) : El RE H0 σ (tMkP C f (tVar i)) (C, [(f, v)]) := fun H Q _ q => ⟨v, hs, mkQ_of q⟩
theorem el_mkK {i : Nat} (hs : σ[i]? = some (some v)) : El RE H0 σ (tMkK C f (tCons (tVar i) tNil)) (C, [(f, v)]) := fun H Q _ q => ⟨v, hs, v, rfl, mkQ_of q⟩
theorem el_mk0 : El RE H0 σ (tMk0 C f) (C, [(f, .non)]) := fun H Q _ q => mkQ_of q
theorem el_mkE : El RE H0 σ (tMkE (.ref C)) (C, []) := fun H Q _ q a ha => q _ _ (Fx.new [] ha) ⟨a, rfl, .kept0 upd_same⟩
end
section
variable {P : Program} {w : World} {K : PySem.W.Frag} {mg : Str → Option Value} {base : Heap} {x f qual : Str} {params : Arguments} {body : List Stmt} {scope : Scope} {C fI : Addr} {fd : FuncData}
/-- an own error class by the text of its __init__ -/
theorem errV_of (F : FunD K "__init__" qual params body scope [.non] [] fI fd) (S : FnScope ["self", f] ["self", f] scope) (T : OexC K C) (nf : PySem.W.findIn K (.ref C) f = some none) (gl : mg x = some (.ref C)) (xf : XfC K C) (ex : ExcC K C)
    (iC : PySem.W.findIn K (.ref C) "__init__" = some (some (.ref fI))) (tI : PySem.W.typeIn K (.ref fI) = some (.type "function"))
    (hb : ∀ (cdv : Value) (A : Around) (outer : List Env) (s : Shared) (H : Hp) (E : XK), PSs (cxOf CX0 P w K mg base ["self", f] qual scope fI cdv A outer s H E).nox body (tOst K f (tVar 0) (tVar 1)))
    (bP : ∀ (T : Addr) (kV doc pm : Value) (an : Option Addr) (cdv ct e u : Value) (its : List Value), its.length = 1 →
      ∃ k, bindArgs (PySem.W.fnOf "__init__" qual params body scope (.ref T) kV doc pm an cdv ct) ⟨[e, u], []⟩ = seqItems? (.ref T) >>= k ∧ k (some its.toArray) = pure [(("self" : Str), e), (f, u)])
    (bK : ∀ (T : Addr) (kV doc pm : Value) (an : Option Addr) (cdv ct e u : Value) (its : List Value), its.length = 1 →
      ∃ k, bindArgs (PySem.W.fnOf "__init__" qual params body scope (.ref T) kV doc pm an cdv ct) ⟨[e], [(f, u)]⟩ = seqItems? (.ref T) >>= k ∧ k (some its.toArray) = pure [(("self" : Str), e), (f, u)])
    (bD : ∀ (T : Addr) (kV doc pm : Value) (an : Option Addr) (cdv ct : Value) (us its : List Value), us.length = 1 → its.length = 1 →
      ∃ k, bindArgs (PySem.W.fnOf "__init__" qual params body scope (.ref T) kV doc pm an cdv ct) ⟨us, []⟩ = seqItems? (.ref T) >>= k ∧ k (some its.toArray) = pure ((["self", f] : List Str).zip (us ++ its.drop 0))) : ErrV P w K mg base x f C := by
  refine ⟨T, gl, nf, xf, ex, fI, fd, iC, tI, F.ok S (fun vs H Q E h => ?_) (fun cdv A outer s H vs Q E hr h => ⟨_, (hb cdv A outer s H E).nox, ?_⟩), ?_, ?_, ?_⟩
  · obtain ⟨a, v, rfl, _⟩ := h
    rfl
  · obtain ⟨a, v, rfl, ha, q⟩ := h
    exact ⟨_, rfl, _, rfl, a, C, rfl, T, nf, .inl ⟨ha, q⟩⟩
  · obtain ⟨oc, od, dV, kV, doc, pm, an, cdv, ct, osl, rfl, lk, hcd, hD, hK⟩ := F.ex
    rcases hD with ⟨e, _⟩ | ⟨_, D, o, its, m, rfl, lT, oT, rT⟩
    · cases e
    · intro s e u X
      obtain ⟨k, e1, e2⟩ := bP D kV doc pm an cdv ct e u its rT.length.symm
      refine BindsTo.of_looks fun M => ?_
      rw [e1]
      exact looks_items X lT oT (.of_pure e2)
  · obtain ⟨ds, r, b⟩ := F.binds1 (ps := ["self", f]) 1 0 (fun z => nomatch z) rfl bD
    intro s e X
    have z : ds = [.none] := by
      cases r with
      | cons r1 r2 =>
        cases r2
        cases r1
        rfl
    subst z
    exact b s [e] X rfl
  · obtain ⟨oc, od, dV, kV, doc, pm, an, cdv, ct, osl, rfl, lk, hcd, hD, hK⟩ := F.ex
    rcases hD with ⟨e, _⟩ | ⟨_, D, o, its, m, rfl, lT, oT, rT⟩
    · cases e
    · intro s e u X
      obtain ⟨k, e1, e2⟩ := bK D kV doc pm an cdv ct e u its rT.length.symm
      refine BindsTo.of_looks fun M => ?_
      rw [e1]
      exact looks_items X lT oT (.of_pure e2)
end
end LT
namespace LT
open PySem PySem.Spec PyProof.Rows L2
section
variable {H H0 : Hp} {σ : L2.St} {C D a dx : Addr} {f : Str} {v : V} {fs : List (Str × V)} {K : PySem.W.Frag} {j : Nat} {b : Bool} {xs : List V} {ps : List (Addr × List (Str × V))}
theorem paired_nth {A B : Type} {F : A → B → Prop} : ∀ {ps : List A} {xs : List B} {i : Nat} {p : A}, Paired F ps xs → ps[i]? = some p → ∃ x, xs[i]? = some x ∧ F p x
  | _, _, 0, _, .cons h _, e => by
    cases e
    exact ⟨_, rfl, h⟩
  | _, _, i + 1, _, .cons _ r, e => paired_nth (i := i) r e
/-- errors[i].f -/
theorem el_fld (i : Nat) (n : Int) (hn : n = i) (hs : σ[j]? = some (some (.ref a))) (ha : H0 a = some (.lst xs)) (pr : Paired (RE H0) ps xs) (hp : ps[i]? = some (C, [(f, v)])) (xf : XfC K C) (nf : PySem.W.findIn K (.ref C) f = some none) :
    El RV H0 σ (tExf K f (tOp rIxl (tVar j) (tC (.int n)))) v := by
  intro H Q fx q
  obtain ⟨x, hx, b, rfl, ie⟩ := paired_nth pr hp
  subst hn
  exact ⟨_, hs, a, xs, _, .ref b, rfl, rfl, fx.all ha, atI_nat hx, C, b, [(f, v)], v, rfl, fx.isEx ie, by simp [List.lookup], xf, nf, q v H (Fx.refl _ _) rfl⟩
/-- isinstance(error, D) -/
theorem el_is (hs : σ[j]? = some (some (.ref a))) (ie : IsEx H0 C a fs) (ec : ExcC K C) (hk : PySem.W.kitOne K (.ref C) (.ref D) = some b) : El RV H0 σ (tCB (rIsF K) (tCons (tVar j) (tCons (tC (.ref D)) tNil))) (.bl b) :=
  fun H Q fx q => ⟨_, hs, .ref a, .ref D, .ref C, .ref D, b, rfl, .own D, .own (.exc (fx.isEx ie) ec), hk, q _ H (Fx.refl _ _) rfl⟩
end
end LT
namespace LT
open PySem PySem.Spec PyProof.Rows L2
/-- what is equal to itself -/
def RF (_ : Hp) (_ : Unit) (x : V) : Prop := flatB x = true ∨ ∃ a, x = .ref a
theorem mono_RF : MonoR RF := fun _ _ _ _ _ h => h
def IsV (H : Hp) (vs : List V) (x : V) : Prop := ∃ a, x = .ref a ∧ H a = some (.lst vs)
theorem mono_IsV : MonoR IsV := fun _ _ _ _ f ⟨a, e, h⟩ => ⟨a, e, f.all h⟩
theorem mono_IsL {A : Type} {R : Hp → A → V → Prop} (m : MonoR R) : MonoR (IsL R) := fun _ _ _ _ f ⟨a, xs, e, h, p⟩ => ⟨a, xs, e, f.all h, paired_fx m f p⟩
section
variable {H H0 : Hp} {σ : L2.St} {v : V} {ts : TA} {us : List Unit} {K : PySem.W.Frag} {j : Nat}
theorem el_cF (h : flatB v = true) : El RF H0 σ (tC v) () := fun H Q _ q => q v H (Fx.refl _ _) (.inl h)
theorem el_tupF (es : Els RF H0 σ ts us) (sz : us.length ≤ 1000) : El RF H0 σ (tTup ts) () := fun H Q f q =>
  es H _ f fun xs H1 f1 pr => ⟨by rw [paired_len pr, sizeLine_eq]; omega, fun a ha => q _ _ (f1.trans (Fx.new _ ha)) (.inr ⟨a, rfl⟩)⟩
theorem el_lstF (es : Els RF H0 σ ts us) (sz : us.length ≤ 1000) : El RF H0 σ (tLst ts) () := fun H Q f q =>
  es H _ f fun xs H1 f1 pr => ⟨by rw [paired_len pr, sizeLine_eq]; omega, fun a ha => q _ _ (f1.trans (Fx.new _ ha)) (.inr ⟨a, rfl⟩)⟩
theorem el_negF {i : Int} : El RF H0 σ (tUn (rU fun i => .int (-i)) (tC (.int i))) () := fun H Q _ q => ⟨i, rfl, q _ _ (Fx.refl _ _) (.inl rfl)⟩
theorem el_powF {i k : Int} (h : CPowB i k) : El RF H0 σ (tOp (rI CPowB fun i j => .int (i ^ j.toNat)) (tC (.int i)) (tC (.int k))) () := fun H Q _ q => ⟨i, k, rfl, rfl, h, q _ _ (Fx.refl _ _) (.inl rfl)⟩
/-- {s: i} -/
theorem el_disF {s : Str} {i : Int} : El RF H0 σ (tDisp [(tC (.str s), tC (.int i))]) () := fun H Q _ q p hp =>
  ⟨upd_same, [(.inr s, .int i)], rfl, (show 1 ≤ 15 by decide), by
    rw [upd_upd]
    exact q _ _ (Fx.new _ hp) (.inr ⟨p, rfl⟩)⟩
theorem el_rep (n : Nat) (hn : n ≤ 1000) (hs : σ[j]? = some (some v)) (k : Int) (hk : k = n) : El IsV H0 σ (tOp rRep (tLst (tCons (tVar j) tNil)) (tC (.int k))) (List.replicate n v) := by
  intro H Q f q
  subst hk
  refine ⟨v, hs, Nat.le_trans (show 1 ≤ 1000 by decide) (by rw [sizeLine_eq]; decide), fun p hp => ⟨p, n, [v], rfl, rfl, upd_same, by omega, by omega, ?_, fun a ha => ?_⟩⟩
  · rw [sizeLine_eq]
    show 1 * n ≤ _
    omega
  · refine q _ _ ((Fx.new (o := .lst [v]) [] hp).trans (Fx.new _ ha)) ⟨a, rfl, ?_⟩
    rw [upd_same]
    have e : ∀ n, (List.replicate n [v]).flatten = List.replicate n v := by
      intro n
      induction n with
      | zero => rfl
      | succ n ih =>
        rw [List.replicate_succ, List.flatten_cons, ih]
        rfl
    show some (HO.lst (List.replicate n [v]).flatten) = _
    rw [e]
/-- two lists of equal lists -/
theorem isV_eq {ls : List (List V)} : ∀ {xs ys : List V}, Paired (IsV H) ls xs → Paired (IsV H) ls ys → (∀ l ∈ ls, ∀ x ∈ l, flatB x = true ∨ ∃ a, x = .ref a) → Paired (EqT K H 2) xs ys := by
  induction ls with
  | nil =>
    intro xs ys a b _
    cases a
    cases b
    exact .nil
  | cons l ls ih =>
    intro xs ys a b h
    cases a with
    | cons a1 a2 =>
      cases b with
      | cons b1 b2 =>
        obtain ⟨p, rfl, hp⟩ := a1
        obtain ⟨q, rfl, hq⟩ := b1
        exact .cons (.inr (.inl ⟨p, q, l, l, rfl, rfl, SqL.of hp, SqL.of hq, paired_refl (h l List.mem_cons_self)⟩)) (ih a2 b2 fun m hm => h m (List.mem_cons_of_mem _ hm))
end
end LT
namespace LT
open PySem PySem.Spec PyProof.Rows L2
/-! ### what the top has written of an own error class, as one word -/
def clsB (K : PySem.W.Frag) (C : Addr) : Bool :=
  decide (PySem.W.findIn K (.ref C) "__setattr__" = some (some (.builtin "object.__setattr__"))) && (xfB K C && (decide (PySem.W.typeIn K (.ref C) = some (.type "type")) && (PySem.W.keepIn K (.ref C) &&
    (decide (PySem.W.findIn K (.ref C) "__class__" = some (some (.builtin "object.__class__"))) && (decide (PySem.W.specialIn K (.builtin "object.__class__") "__get__" = some (some (.builtin "getset_descriptor.__get__"))) &&
      (decide (PySem.W.takesIn K (.builtin "object.__class__") = some true) && decide (PySem.W.mroIn K C (.type "object") = some true)))))))
def iniB (K : PySem.W.Frag) (C fI : Addr) (f : Str) : Bool := clsB K C && (decide (PySem.W.findIn K (.ref C) f = some none) && decide (PySem.W.typeIn K (.ref fI) = some (.type "function")))
section
variable {K : PySem.W.Frag} {C fI : Addr} {f : Str}
theorem clsB_ok (h : clsB K C = true) : PySem.W.findIn K (.ref C) "__setattr__" = some (some (.builtin "object.__setattr__")) ∧ XfC K C ∧ PySem.W.typeIn K (.ref C) = some (.type "type") ∧ PySem.W.keepIn K (.ref C) = true ∧ ExcC K C := by
  obtain ⟨h1, h⟩ := Bool.and_eq_true_iff.mp h
  obtain ⟨h2, h⟩ := Bool.and_eq_true_iff.mp h
  obtain ⟨h3, h⟩ := Bool.and_eq_true_iff.mp h
  obtain ⟨h4, h⟩ := Bool.and_eq_true_iff.mp h
  obtain ⟨h5, h⟩ := Bool.and_eq_true_iff.mp h
  obtain ⟨h6, h⟩ := Bool.and_eq_true_iff.mp h
  obtain ⟨h7, h8⟩ := Bool.and_eq_true_iff.mp h
  have x := xfB_ok h2
  exact ⟨of_decide_eq_true h1, x, of_decide_eq_true h3, h4, x.ga, x.gg, x.exC, x.hdC, of_decide_eq_true h5, of_decide_eq_true h6, of_decide_eq_true h7, of_decide_eq_true h8⟩
theorem iniB_ok {nm q : Str} {N : Addr} {bs bm : List Value} {sn : List Str} {sub : List Value} {ab : Bool} {col : Option Bool} {dd : Option Addr} {k0 k1 k2 k3 k5 : Option Value} (hC : K.lookup C = some (excClassObj nm q C N bs bm true sn sub ab col dd k0 k1 k2 k3 k5 "ValueError.__new__"))
    (hbm : PySem.HandSPX.refsVE bm = true) (h : iniB K C fI f = true) : OexC K C ∧ XfC K C ∧ ExcC K C ∧ PySem.W.findIn K (.ref C) f = some none ∧ PySem.W.typeIn K (.ref fI) = some (.type "function") := by
  obtain ⟨h1, h⟩ := Bool.and_eq_true_iff.mp h
  obtain ⟨h2, h3⟩ := Bool.and_eq_true_iff.mp h
  obtain ⟨sa, x, t, k, e⟩ := clsB_ok h1
  exact ⟨⟨⟨nm, q, N, bs, bm, sn, sub, ab, col, dd, k0, k1, k2, k3, k5, hC, hbm⟩, sa, x.exC, t, k⟩, x, e, of_decide_eq_true h2, of_decide_eq_true h3⟩
def csOf (l : List Addr) (i : Nat) : Addr := l.getD i 0
def tabB (K : PySem.W.Frag) (l : List Addr) (n : Nat) : Bool := (List.range n).all fun i => (List.range n).all fun k => decide (PySem.W.kitOne K (.ref (csOf l i)) (.ref (csOf l k)) = some (decide (i = k)))
theorem tabB_ok {l : List Addr} {n : Nat} (h : tabB K l n = true) : ∀ i k, i < n → k < n → PySem.W.kitOne K (.ref (csOf l i)) (.ref (csOf l k)) = some (decide (i = k)) := fun i k hi hk =>
  of_decide_eq_true (List.all_eq_true.mp (List.all_eq_true.mp h i (List.mem_range.mpr hi)) k (List.mem_range.mpr hk))
def belowB (K : PySem.W.Frag) (l : List Addr) (n m : Nat) : Bool := (List.range n).all fun i => decide (PySem.W.kitOne K (.ref (csOf l i)) (.ref (csOf l m)) = some true) && decide (PySem.W.kitOne K (.ref (csOf l i)) (.type "ValueError") = some true)
theorem belowB_ok {l : List Addr} {n m : Nat} (h : belowB K l n m = true) (i : Nat) (hi : i < n) : PySem.W.kitOne K (.ref (csOf l i)) (.ref (csOf l m)) = some true ∧ PySem.W.kitOne K (.ref (csOf l i)) (.type "ValueError") = some true := by
  obtain ⟨a, b⟩ := Bool.and_eq_true_iff.mp (List.all_eq_true.mp h i (List.mem_range.mpr hi))
  exact ⟨of_decide_eq_true a, of_decide_eq_true b⟩
def excB (K : PySem.W.Frag) (l : List Addr) (n : Nat) : Bool := (List.range n).all fun i => clsB K (csOf l i)
theorem excB_ok {l : List Addr} {n : Nat} (h : excB K l n = true) (i : Nat) (hi : i < n) : ExcC K (csOf l i) := (clsB_ok (List.all_eq_true.mp h i (List.mem_range.mpr hi))).2.2.2.2
end
end LT
namespace LT
open PySem PySem.Spec PyProof.Rows L2
/-! ## calls that may raise, and what is never come to -/
section
variable {X : Cx} {CX : CXT} {x : Str} {k j : Nat} {ps ks : List Str} {sp : Sp} {gV : List V → List V} {E : L2.St → XK} {e : Expr} {es : List Expr} {kws : List Keyword} {t tk : TA} {p pos : Pos} {st : Stmt}
/-- what is never come to -/
theorem ps_dead : PS X st (fun _ _ _ => False) := ⟨fun _ _ _ _ _ _ h => h.elim⟩
/-- f(e, ..) in the body of a try -/
theorem pe_calS (c : Cal X.prog X.w X.K X.mg X.base CX x k ps sp) (hr : Room j X.A) (hg : Gl X x) (hx : ∀ σ, PassesAt CX X σ (E σ)) (ha : PA X (e :: es) t) (hj : k ≤ j := by decide)
    (hdb : (x == ("__debug__" : Str)) = false := by decide) (he : starEach (e :: es) X.env = (false, eval e X.env) :: starEach es X.env := by rfl) (hpl : (backTo pos (starEach es X.env)).any (·.1) = false := by rfl) :
    PE X (.Call (.Name x p) (e :: es) [] pos) (tCallS sp E t) := by
  obtain ⟨f, fd, F, hm, hk, hb⟩ := c.ex
  exact pe_callS F (hr.mono hj) hg hm hk hb hx ha hdb he hpl
def tCalKS (sp : Sp) (gV : List V → List V) (E : L2.St → XK) (tk : TA) : TE := fun σ H Q => tk σ H fun zs H2 => sp (gV zs) H2 Q (E σ)
theorem run_fnkS {pins : List (Addr × Obj)} {σ : L2.St} {H : Hp} {s : Shared} {Q : VK} {fd : FuncData} {f : Addr} {us ws : List Value} {vs zs : List V} {g : List Value → List Value → List Value} {gV : List V → List V → List V} {E : XK}
    (F : FnOk X.prog X.w X.K X.mg X.base CX k f fd ps sp) (hr : Room k X.A) (hb : KBinds X.K fd ps ks g gV) (hx : PassesAt CX X σ E) (I : Inv X pins σ H s) (r : Vals vs us) (rz : Vals zs ws) (h : sp (gV vs zs) H Q E) :
    wpAny (model X.prog X.w) X.A (call (.ref f) us (ks.zip ws)) (EP X pins σ Q) X.xe s := by
  have r2 := hb.rel r rz
  have hl : (g us ws).length = ps.length := by rw [← r2.length]; exact F.len _ _ _ _ h
  refine wpAny_call (codeAny_mono (F.run X.A X.stack s H ⟨us, ks.zip ws⟩ (g us ws) (gV vs zs) Q E hr I.env0 (hb.to s us ws I.kIn hl) r2 h) fun r s' hq => ?_)
  cases r with
  | error e => exact hx pins H s e s' I hq
  | ok fl =>
    cases fl with
    | ret u => exact I.after hq
    | next => exact False.elim hq
    | brk => exact False.elim hq
    | cont => exact False.elim hq
theorem pe_calKS (c : CalK X.prog X.w X.K X.mg X.base CX x k ps ks gV sp) (hr : Room j X.A) (hg : Gl X x) (hx : ∀ σ, PassesAt CX X σ (E σ)) (hkw : PK X kws tk) (hj : k ≤ j := by decide)
    (hall : (backToKw pos (keywordEach kws X.env)).all (·.1.isSome) = true := by rfl) (hks : (backToKw pos (keywordEach kws X.env)).filterMap (·.1) = ks := by rfl)
    (hdb : (x == ("__debug__" : Str)) = false := by decide)
    (hpl : ((backTo pos (starEach [] X.env)).any (·.1) || (backToKw pos (keywordEach kws X.env)).any (·.1.isNone)) = false := by rfl) :
    PE X (.Call (.Name x p) [] kws pos) (tCalKS sp gV E tk) := by
  obtain ⟨f, fd, g, gW, F, hm, hk, hb, he⟩ := c.ex
  constructor
  intro pins s σ H Q I h
  apply wpAny_Call_Name_kw
  apply ld_glob I hg hm _ hdb
  apply PySem.W.callWith_KW0 (h₀ := X.base) I.ok.mod.kin hk hall _ hpl
  refine thn (hkw.run pos pins s σ H _ I h) ?_
  rintro ws s2 ⟨zs, H2, I2, rz, q2⟩
  refine And.intro I2.kIn ?_
  rw [hks]
  exact run_fnkS (us := []) (vs := []) F (hr.mono hj) hb (hx σ) I2 .nil rz (by rw [he]; exact q2)
end
/-! ### what «except» and isinstance say of the classes -/
section
variable {K : PySem.W.Frag} {l : List Addr} {n m : Nat}
def exmB (K : PySem.W.Frag) (l : List Addr) (n m : Nat) : Bool := (List.range n).all fun i => decide (PySem.W.exmOne K (.ref (csOf l i)) (.ref (csOf l m)) = some true)
theorem exmB_ok (h : exmB K l n m = true) (i : Nat) (hi : i < n) : PySem.W.exmOne K (.ref (csOf l i)) (.ref (csOf l m)) = some true := of_decide_eq_true (List.all_eq_true.mp h i (List.mem_range.mpr hi))
def noneB (K : PySem.W.Frag) (l : List Addr) (n : Nat) : Bool := (List.range n).all fun i => decide (PySem.W.kitOne K (.type "NoneType") (.ref (csOf l i)) = some false)
theorem noneB_ok (h : noneB K l n = true) (i : Nat) (hi : i < n) : PySem.W.kitOne K (.type "NoneType") (.ref (csOf l i)) = some false := of_decide_eq_true (List.all_eq_true.mp h i (List.mem_range.mpr hi))
end
end LT
namespace LT
open PySem PySem.Spec PyProof.Rows L2
theorem is_err {K : PySem.W.Frag} {H : Hp} {C a : Addr} {fs : List (Str × V)} {c : V} {u : Value} {b : Bool} {Q : VK} (ie : IsEx H C a fs) (ec : ExcC K C) (k : ClsV c u) (hk : PySem.W.kitOne K (.ref C) u = some b) (q : Q (.bl b) H) : rIsF K [.ref a, c] H Q :=
  ⟨.ref a, c, .ref C, u, b, rfl, k, .own (.exc ie ec), hk, q⟩
end LT
namespace LT
open PySem PySem.Spec PyProof.Rows L2
/-! ## told apart from what is empty -/
section
variable {X : Cx}
/-- a list == [] -/
def rEqNil (K : PySem.W.Frag) : R2 := fun x y H Q => ∃ p q xs, x = .ref p ∧ y = .ref q ∧ SqL K H p xs ∧ SqL K H q [] ∧ Q (.bl (decide (xs = []))) H
/-- a tuple != () -/
def rNeNil (K : PySem.W.Frag) : R2 := fun x y H Q => ∃ p q xs, x = .ref p ∧ y = .ref q ∧ SqT K H p xs ∧ SqT K H q [] ∧ Q (.bl (!decide (xs = []))) H
theorem op_eqNil (hu : X.A.units + 64 < cLine) : OpR X (compareOp .Eq) (rEqNil X.K) := by
  rintro pins s σ H x y v u Q I rx ry ⟨p, q, xs, rfl, rfl, ha, hb, hQ⟩
  cases (show v = Value.ref p from rx)
  cases (show u = Value.ref q from ry)
  obtain ⟨us, r1, p1, _⟩ := I.list ha
  obtain ⟨ws, r2, p2, _⟩ := I.list hb
  cases r2
  cases xs with
  | nil =>
    cases r1
    have k := SeqAt.RcAt.lists (A := X.A) (e := fun _ => true) p1.isList p2.isList rfl (by omega) fun j h1 h2 => absurd h1 (Nat.not_lt_zero j)
    exact k _ _ _ _ ⟨.bl true, H, I, rfl, hQ⟩
  | cons x xs =>
    have hsz : (us.toArray.size != ([] : List Value).toArray.size) = true := by
      rw [List.size_toArray, ← r1.length]
      rfl
    exact SeqAt.RcAt.lists_lengths (A := X.A) p1.isList p2.isList hsz (by omega) _ _ _ _ ⟨.bl false, H, I, rfl, hQ⟩
theorem op_neNil (hu : X.A.units + 64 < cLine) : OpR X (compareOp .NotEq) (rNeNil X.K) := by
  rintro pins s σ H x y v u Q I rx ry ⟨p, q, xs, rfl, rfl, ha, hb, hQ⟩
  cases (show v = Value.ref p from rx)
  cases (show u = Value.ref q from ry)
  obtain ⟨us, r1, p1, _⟩ := I.tuple ha
  obtain ⟨ws, r2, p2, _⟩ := I.tuple hb
  cases r2
  have k := SeqAt.RcNeAt.tuples (A := X.A) (e := fun _ => true) p1 p2 (by omega) fun j h1 h2 => absurd h2 (Nat.not_lt_zero j)
  rw [all_range] at k
  cases xs with
  | nil =>
    cases r1
    exact k _ _ _ _ ⟨.bl false, H, I, rfl, hQ⟩
  | cons x xs =>
    have hsz : (us.toArray.size == ([] : List Value).toArray.size) = false := by
      rw [List.size_toArray, ← r1.length]
      rfl
    rw [hsz] at k
    exact k _ _ _ _ ⟨.bl true, H, I, rfl, hQ⟩
end
/-! ## data that is flat, or tuples of it -/
mutual
def toP : D → PyData
  | .non => .none
  | .bl b => .bool b
  | .int i => .int i
  | .str x => .str x
  | .tup ds => .tuple (toPs ds)
  | .lst _ => .none
  | .dct _ => .none
def toPs : List D → List PyData
  | [] => []
  | d :: ds => toP d :: toPs ds
end
mutual
def plainD : D → Bool
  | .non => true
  | .bl _ => true
  | .int _ => true
  | .str _ => true
  | .tup ds => plainDs ds
  | .lst _ => false
  | .dct _ => false
def plainDs : List D → Bool
  | [] => true
  | d :: ds => plainD d && plainDs ds
end
mutual
theorem Rp.dp {K : PySem.W.Frag} {H : Hp} : ∀ {v : V} {d : D}, Rp H v d → plainD d = true → Dp K H v (toP d)
  | _, _, .non, _ => .non
  | _, _, .bl b, _ => .bl b
  | _, _, .int i, _ => .int i
  | _, _, .str x, _ => .str x
  | _, _, .tup e r, h => .tup (SqT.of e) (r.dps h)
theorem RpAll.dps {K : PySem.W.Frag} {H : Hp} : ∀ {vs : List V} {ds : List D}, RpAll H vs ds → plainDs ds = true → DpAll K H vs (toPs ds)
  | _, _, .nil, _ => .nil
  | _, _, .cons a b, h => .cons (a.dp (Bool.and_eq_true_iff.mp h).1) (b.dps (Bool.and_eq_true_iff.mp h).2)
end
end LT
namespace LT
open PySem PySem.Spec PyProof.Rows L2
theorem call_intB {X : Cx} : CallR X (.type "int") (fun xs H Q => ∃ k, xs = [V.bl k] ∧ Q (.int (if k = true then 1 else 0)) H) := fun pins s σ H xs us Q I r h => call_int1 pins s σ H xs us Q I r (Or.inr h)
end LT
/-! t * k, t empty or not -/
namespace LT
open PySem PySem.Spec PyProof.Rows L2
open AutoSeq1 (wpAny_loadPart')
theorem tuple_mul0 (l : Addr) (n : Nat) (dd : Option Addr) (sl : Array (Option Value)) (x : Int) (u : Tok) (c0 : (decide (x < -(2 ^ 63)) || decide (x ≥ 2 ^ 63)) = false) :
    Meets (Builtin.«tuple.__mul__» ⟨[.ref l, .int x u], []⟩) (fun _ R s => s.heap.get? l = some { cls := .type "tuple", dict := dd, data := .seq (#[] : Array Value) n, slots := sl } ∧ R (.ok (.ret (Value.ref l))) s) :=
  .of_wp fun prog w A R s h => by
    obtain ⟨hp, g, d, tk, os⟩ := s
    obtain ⟨hl, h⟩ := h
    have f1 := AutoSeq1.idx_int
    have c1 : ((#[] : Array Value).isEmpty || x == 1) = true := rfl
    wp_walk using wpAny_loadPart' hl
    repeat (first
      | (refine wpAny_ite_false (decide_eq_false (by rw [c0]; exact Bool.false_ne_true)) ?_; wp_walk using wpAny_loadPart' hl)
      | (refine wpAny_ite_true (decide_eq_true c1) ?_; wp_walk using wpAny_loadPart' hl))
    exact ⟨_, rfl, h⟩
section
variable {X : Cx}
def rRepA (K : PySem.W.Frag) : R2 := fun x y H Q => ∃ l k xs, x = .ref l ∧ y = .int k ∧ SqT K H l xs ∧ 2 ≤ k ∧ k ≤ 1000 ∧ xs.length ≤ 1000 ∧ (xs = [] → Q (.ref l) H) ∧ (xs ≠ [] → ∀ p, H p = none → Q (.ref p) (upd H p (.tup (List.replicate k.toNat xs).flatten)))
theorem op_repA : OpR X (binaryOp .Mult) (rRepA X.K) := by
  intro pins s σ H x y v u Q I rx ry h
  obtain ⟨l, k, xs, rfl, rfl, hT, h1, h2, hz, q1, q2⟩ := h
  by_cases hx : xs = []
  · subst hx
    cases (show v = Value.ref l from rx)
    obtain ⟨t, rfl⟩ := (show ∃ t, u = Value.int k t from ry)
    obtain ⟨its, r, ⟨⟨cls, dd, data, sl⟩, ho, hc, n, hd⟩, hs⟩ := I.tuple hT
    simp only at hc hd
    subst hc hd
    cases r
    have c0 : (decide (k < -(2 ^ 63)) || decide (k ≥ 2 ^ 63)) = false := by
      rw [decide_eq_false (by omega), decide_eq_false (by omega)]
      rfl
    exact wpAny_binaryOp_repeat_ref (T := "tuple") (U := "int") (by decide) ⟨_, ho, rfl⟩ (fun s' => typeIs_int s' k t) noFill_tuple_mul F.fills_int_mul F.slot_int_rmul repeat_tuple F.slot_int_index.lookup
      (call_meets F.slot_int_rmul (typeIs_int s k t) F.entry_int_rmul (F.args_int_rmul_2 _ _) (int_rmul_tuple k t l #[] n dd sl)
        ⟨ho, rfl, ⟨_, ho, rfl⟩, call_meets F.slot_tuple_mul ⟨_, ho, rfl⟩ F.entry_tuple_mul (F.args_tuple_mul_2 _ _) (tuple_mul0 l n dd sl k t c0) ⟨ho, ⟨.ref l, H, I, rfl, q1 rfl⟩⟩⟩)
  · exact op_repT pins s σ H _ _ v u Q I rx ry ⟨l, k, xs, rfl, rfl, hT, hx, h1, h2, hz, q2 hx⟩
end
end LT
namespace LT
open PySem PySem.Spec PyProof.Rows L2
/-! ## data of which no tuple is too long, down to a depth -/
def sm : Nat → Nat → D → Prop
  | 0, _, _ => True
  | k + 1, n, .tup ds => ds.length ≤ n ∧ ∀ d ∈ ds, sm k n d
  | _ + 1, _, _ => True
def Gd (k n : Nat) (H : Hp) (v : V) : Prop := ∃ d, Rp H v d ∧ sm k n d
theorem sm_down : ∀ {k n : Nat} {d : D}, sm (k + 1) n d → sm k n d
  | 0, _, _, _ => trivial
  | k + 1, n, .tup ds, h => ⟨h.1, fun d hd => sm_down (h.2 d hd)⟩
  | _ + 1, _, .non, _ => trivial
  | _ + 1, _, .bl _, _ => trivial
  | _ + 1, _, .int _, _ => trivial
  | _ + 1, _, .str _, _ => trivial
  | _ + 1, _, .lst _, _ => trivial
  | _ + 1, _, .dct _, _ => trivial
theorem sm_mono {m : Nat} : ∀ {k n : Nat} {d : D}, n ≤ m → sm k n d → sm k m d
  | 0, _, _, _, _ => trivial
  | k + 1, n, .tup ds, hn, h => ⟨Nat.le_trans h.1 hn, fun d hd => sm_mono hn (h.2 d hd)⟩
  | _ + 1, _, .non, _, _ => trivial
  | _ + 1, _, .bl _, _, _ => trivial
  | _ + 1, _, .int _, _, _ => trivial
  | _ + 1, _, .str _, _, _ => trivial
  | _ + 1, _, .lst _, _, _ => trivial
  | _ + 1, _, .dct _, _, _ => trivial
section
variable {k n m : Nat} {M : List Addr} {H H1 H2 : Hp} {v : V} {a p : Addr} {xs ys : List V} {ds : List D}
theorem Gd.fx (f : Fx M H H1) (h : Gd k n H v) : Gd k n H1 v := let ⟨d, r, s⟩ := h; ⟨d, f.rp r, s⟩
theorem Gd.mono (h : Gd k n H v) (hn : n ≤ m) : Gd k m H v := let ⟨d, r, s⟩ := h; ⟨d, r, sm_mono hn s⟩
theorem Gd.down (h : Gd (k + 1) n H v) : Gd k n H v := let ⟨d, r, s⟩ := h; ⟨d, r, sm_down s⟩
theorem gd_list : ∀ {xs : List V}, (∀ x ∈ xs, Gd k n H x) → ∃ ds, RpAll H xs ds ∧ ∀ d ∈ ds, sm k n d
  | [], _ => ⟨[], .nil, fun _ z => nomatch z⟩
  | x :: xs, h => by
    obtain ⟨d, r, s⟩ := h x List.mem_cons_self
    obtain ⟨ds, rs, ss⟩ := gd_list fun y hy => h y (List.mem_cons_of_mem _ hy)
    refine ⟨d :: ds, .cons r rs, fun e he => ?_⟩
    rcases List.mem_cons.mp he with rfl | he
    · exact s
    · exact ss e he
theorem Gd.tup (e : H a = some (.tup xs)) (hl : xs.length ≤ n) (h : ∀ x ∈ xs, Gd k n H x) : Gd (k + 1) n H (.ref a) := by
  obtain ⟨ds, rs, ss⟩ := gd_list h
  exact ⟨.tup ds, .tup e rs, by rw [← rs.len]; exact hl, ss⟩
theorem Gd.lst (e : H a = some (.lst xs)) : Gd k n H (.ref a) := ⟨.lst a, .lst e, by cases k <;> trivial⟩
theorem Gd.dct {kvs : List (Key × V)} (e : H a = some (.dK kvs)) : Gd k n H (.ref a) := ⟨.dct a, .dct e, by cases k <;> trivial⟩
theorem rp_items : ∀ {xs : List V} {ds : List D}, RpAll H xs ds → (∀ d ∈ ds, sm k n d) → ∀ x ∈ xs, Gd k n H x
  | _, _, .nil, _, _, h => nomatch h
  | _, _, .cons r rs, s, x, h => by
    rcases List.mem_cons.mp h with rfl | h
    · exact ⟨_, r, s _ List.mem_cons_self⟩
    · exact rp_items rs (fun d hd => s d (List.mem_cons_of_mem _ hd)) x h
/-- what is a tuple, and what is none -/
theorem Gd.is (h : Gd (k + 1) n H v) : (∃ a xs, v = .ref a ∧ H a = some (.tup xs) ∧ xs.length ≤ n ∧ (∀ x ∈ xs, Gd k n H x) ∧ ∃ d, Rp H v d ∧ isTy "tuple" d = true) ∨ ∃ d, Rp H v d ∧ isTy "tuple" d = false := by
  obtain ⟨d, r, s⟩ := h
  cases d with
  | tup ds =>
    obtain ⟨a, xs, rfl, e, rs⟩ := r.tup_inv
    exact .inl ⟨a, xs, rfl, e, by rw [rs.len]; exact s.1, rp_items rs s.2, _, r, rfl⟩
  | _ => exact .inr ⟨_, r, rfl⟩
theorem gd_flat (h : flatB v = true) (hd : ∃ d, Rp H v d ∧ ∀ k n, sm k n d) : Gd k n H v := let ⟨d, r, s⟩ := hd; ⟨d, r, s k n⟩
theorem Gd.non : Gd k n H .non := ⟨.non, .non, by cases k <;> trivial⟩
theorem Gd.bl (b : Bool) : Gd k n H (.bl b) := ⟨.bl b, .bl b, by cases k <;> trivial⟩
theorem Gd.int (i : Int) : Gd k n H (.int i) := ⟨.int i, .int i, by cases k <;> trivial⟩
theorem Gd.str (x : Str) : Gd k n H (.str x) := ⟨.str x, .str x, by cases k <;> trivial⟩
theorem Fx.dropL {L : Addr} (a : Fx M H H1) (b : Fx (L :: M) H1 H2) (h : H L = none) : Fx M H H2 := by
  constructor
  · intro x o hx e
    have ne : x ≠ L := ne_of_none e h
    exact b.keep x o (fun z => by rcases List.mem_cons.mp z with z | z; exact ne z; exact hx z) (a.keep x o hx e)
  · intro x o e
    obtain ⟨o1, h1, k1⟩ := a.kind x o e
    obtain ⟨o2, h2, k2⟩ := b.kind x o1 h1
    exact ⟨o2, h2, alike_trans k1 k2⟩
end
/-- the items of a display that are fit -/
def RG (k n : Nat) (H : Hp) (_ : Unit) (x : V) : Prop := Gd k n H x
theorem mono_RG {k n : Nat} : MonoR (RG k n) := fun _ _ _ _ f h => h.fx f
section
variable {H H0 : Hp} {σ : L2.St} {v : V} {ts : TA} {us : List Unit} {k n : Nat}
theorem el_G (h : ∀ H, Gd k n H v) : El (RG k n) H0 σ (tC v) () := fun H Q _ q => q v H (Fx.refl _ _) (h H)
theorem el_tupG (es : Els (RG k n) H0 σ ts us) (sz : us.length ≤ n) (hn : n ≤ 1000) : El (RG (k + 1) n) H0 σ (tTup ts) () := fun H Q f q =>
  es H _ f fun xs H1 f1 pr => ⟨by rw [paired_len pr, sizeLine_eq]; omega, fun a ha => q _ _ (f1.trans (Fx.new _ ha)) (.tup upd_same (by rw [paired_len pr]; exact sz) fun x hx => by
    obtain ⟨u, r⟩ := Paired.right pr x hx
    exact Gd.fx (Fx.new [] ha) r)⟩
theorem el_lstG {k' n' : Nat} (es : Els (RG k' n') H0 σ ts us) (sz : us.length ≤ 1000) : El (RG k n) H0 σ (tLst ts) () := fun H Q f q =>
  es H _ f fun xs H1 f1 pr => ⟨by rw [paired_len pr, sizeLine_eq]; omega, fun a ha => q _ _ (f1.trans (Fx.new _ ha)) (.lst upd_same)⟩
theorem el_dctG : El (RG k n) H0 σ tDNewK () := fun H Q f q a ha => q _ _ (Fx.new _ ha) (.dct upd_same)
theorem el_negG {i : Int} : El (RG k n) H0 σ (tUn (rU fun i => .int (-i)) (tC (.int i))) () := fun H Q _ q => ⟨i, rfl, q _ _ (Fx.refl _ _) (.int _)⟩
theorem el_powG {i j : Int} (h : CPowB i j) : El (RG k n) H0 σ (tOp (rI CPowB fun i j => .int (i ^ j.toNat)) (tC (.int i)) (tC (.int j))) () := fun H Q _ q => ⟨i, j, rfl, rfl, h, q _ _ (Fx.refl _ _) (.int _)⟩
theorem el_varG {j : Nat} (hs : σ[j]? = some (some v)) (h : ∀ H, Gd k n H v) : El (RG k n) H0 σ (tVar j) () := fun H Q _ q => ⟨v, hs, q v H (Fx.refl _ _) (h H)⟩
theorem el_subG {j : Nat} {i m : Int} (hs : σ[j]? = some (some (.int m))) : El (RG k n) H0 σ (tOp (rI0 fun i j => .int (i - j)) (tVar j) (tC (.int i))) () := fun H Q _ q => ⟨_, hs, m, i, rfl, rfl, q _ _ (Fx.refl _ _) (.int _)⟩
end
end LT
namespace LT
open PySem PySem.Spec PyProof.Rows L2
section
variable {K : PySem.W.Frag} {H : Hp} {a b : Addr} {xs ys : List V} {lo hi : Option Int} {Q : VK}
theorem cutV_mem {y : V} (h : y ∈ cutV xs lo hi) : y ∈ xs := List.mem_of_mem_drop (List.mem_of_mem_take h)
theorem slt_go (e : H a = some (.tup xs)) (h : ∀ c H' ws, Fx [] H H' → H' c = some (.tup ws) → ws.length ≤ xs.length → (∀ y ∈ ws, y ∈ xs) → Q (.ref c) H') : rSlt (.ref a) lo hi H Q :=
  ⟨a, xs, rfl, e, fun _ => h a H xs (Fx.refl _ _) e (Nat.le_refl _) fun _ z => z, fun _ p hp => h p _ _ (Fx.new _ hp) upd_same (cutV_length xs lo hi) fun _ z => cutV_mem z⟩
theorem cat_go (e1 : H a = some (.tup xs)) (e2 : H b = some (.tup ys)) (sz : xs.length + ys.length ≤ 1000) (h : ∀ c H', Fx [] H H' → H' c = some (.tup (xs ++ ys)) → Q (.ref c) H') : rCatA K (.ref a) (.ref b) H Q := by
  refine ⟨a, b, xs, ys, rfl, rfl, SqT.of e1, SqT.of e2, by rw [sizeLine_eq]; omega, fun hx => ?_, fun hx hy => ?_, fun hx hy p hp => ?_⟩
  · subst hx
    exact h b H (Fx.refl _ _) e2
  · subst hy
    refine h a H (Fx.refl _ _) ?_
    rw [List.append_nil]
    exact e1
  · exact h p _ (Fx.new _ hp) upd_same
theorem rep_go (e : H a = some (.tup xs)) (sz : xs.length ≤ 400) (h : ∀ c H', Fx [] H H' → H' c = some (.tup (xs ++ xs)) → Q (.ref c) H') : rRepA K (.ref a) (.int 2) H Q := by
  refine ⟨a, 2, xs, rfl, rfl, SqT.of e, by omega, by omega, by omega, fun hx => ?_, fun hx p hp => ?_⟩
  · subst hx
    exact h a H (Fx.refl _ _) e
  · refine h p _ (Fx.new _ hp) ?_
    rw [upd_same]
    show some (HO.tup (xs ++ (xs ++ []))) = _
    rw [List.append_nil]
end
end LT
namespace LT
open PySem PySem.Spec PyProof.Rows L2
section
variable {H H0 : Hp} {σ : L2.St} {K : PySem.W.Frag} {tl tr te : TE} {ls : List (List V)} {l : List V} {v : V} {d : D}
theorem Rp.flat (h : Rp H v d) : flatB v = true ∨ ∃ a, v = .ref a := by
  cases h <;> first | exact .inl rfl | exact .inr ⟨_, rfl⟩
/-- two lists of lists, equal: != -/
theorem el_neL {Q : VK} (a : El (IsL IsV) H0 σ tl ls) (b : El (IsL IsV) H0 σ tr ls) (ok : ∀ l ∈ ls, ∀ x ∈ l, flatB x = true ∨ ∃ a, x = .ref a) (q : ∀ H', Fx [] H0 H' → Q (.bl false) H') : tOp (rLsT K false) tl tr σ H0 Q :=
  a H0 _ (Fx.refl _ _) fun x H1 f1 ⟨a, xs, ex, e, p⟩ => b H1 _ f1 fun y H2 f2 ⟨b, ys, ey, e', p'⟩ =>
    ⟨a, b, xs, ys, 2, ex, ey, SqL.of (f2.all e), SqL.of e', by decide, isV_eq (paired_fx mono_IsV f2 p) p' ok, q _ (f1.trans f2)⟩
theorem paired_rep {F : List V → V → Prop} {x : V} (h : F l x) : ∀ n, Paired F (List.replicate n l) (List.replicate n x)
  | 0 => .nil
  | n + 1 => .cons h (paired_rep h n)
/-- [t] * n, t a list -/
theorem el_repL (n : Nat) (hn : n ≤ 1000) (e : El IsV H0 σ te l) (k : Int) (hk : k = n) : El (IsL IsV) H0 σ (tOp rRep (tLst (tCons te tNil)) (tC (.int k))) (List.replicate n l) := by
  intro H Q f q
  subst hk
  refine e H _ f fun x H1 f1 hx => ?_
  refine ⟨Nat.le_trans (show 1 ≤ 1000 by decide) (by rw [sizeLine_eq]; decide), fun p hp => ⟨p, n, [x], rfl, rfl, upd_same, by omega, by omega, ?_, fun a ha => ?_⟩⟩
  · rw [sizeLine_eq]
    show 1 * n ≤ _
    omega
  · have g := (Fx.new (o := .lst [x]) [] hp).trans (Fx.new (o := .lst (List.replicate n [x]).flatten) [] ha)
    have e2 : ∀ n, (List.replicate n [x]).flatten = List.replicate n x := by
      intro n
      induction n with
      | zero => rfl
      | succ n ih =>
        rw [List.replicate_succ, List.flatten_cons, ih]
        rfl
    refine q _ _ (f1.trans g) ⟨a, List.replicate n x, rfl, ?_, paired_rep (mono_IsV _ _ _ _ g hx) n⟩
    rw [upd_same]
    show some (HO.lst (List.replicate n [x]).flatten) = _
    rw [e2]
end
theorem sm_short2 {n : Nat} (hn : n ≤ 1000000) {ds : List D} (h : sm 3 n (.tup ds)) : ∀ x ∈ ds, (match x with | .tup es => es.length ≤ 1000000 ∧ ∀ y ∈ es, short y | _ => True) := by
  intro x hx
  have h2 := h.2 x hx
  cases x with
  | tup es =>
    refine ⟨Nat.le_trans h2.1 hn, fun y hy => ?_⟩
    have h3 := h2.2 y hy
    cases y with
    | tup fs => exact Nat.le_trans h3.1 hn
    | _ => trivial
  | _ => trivial
theorem sm_short {n k : Nat} (hn : n ≤ 1000000) {d : D} (h : sm (k + 1) n d) : short d := by
  cases d with
  | tup ds => exact Nat.le_trans h.1 hn
  | _ => trivial
end LT
namespace LT
open PySem PySem.Spec PyProof.Rows L2
/-! ## displays that stand for data -/
/-- what a display holds, one of it drawn -/
theorem pick {A : Type} {R : Hp → A → V → Prop} {H : Hp} {σ : L2.St} {ts : TA} {ps : List A} {p : Addr} {N : Nat} {Q : VK} (m : MonoR R) (m' : ∀ H H' q x, Fx [p] H H' → R H q x → R H' q x) (es : Els R H σ ts ps) (hσ : σ[0]? = some (some (.ref p))) (pu : Pu N H p) (hN : N ≤ 900000000000)
    (n : Int) (hn : n = ps.length) (h3 : decide (ps.length ≠ 3 ∧ 0 < ps.length ∧ ps.length ≤ 1000) = true) (h : ∀ q v H', q ∈ ps → Fx [p] H H' → Pu (N + 1) H' p → R H' q v → Q v H') :
    tOp rIxl (tLst ts) (tCall spDraw [] E0 (tCons (tVar 0) (tCons (tC (.int n)) tNil))) σ H Q := by
  obtain ⟨k3, k0, k1⟩ := of_decide_eq_true h3
  refine es H _ (Fx.refl _ _) fun xs H1 f1 pr => ⟨by rw [paired_len pr, sizeLine_eq]; omega, fun a ha => ?_⟩
  have hl : xs.length = ps.length := paired_len pr
  have fa := Fx.new (o := .lst xs) [] ha
  have ea : upd H1 a (.lst xs) a = some (.lst xs) := upd_same
  have pr2 := paired_fx m fa pr
  generalize upd H1 a (.lst xs) = H2 at *
  have pu2 := (pu.fx f1 (fun z => nomatch z)).fx fa (fun z => nomatch z)
  have ne : a ∉ [p] := by
    intro z
    rw [List.mem_singleton] at z
    subst z
    obtain ⟨c1, c2, c3, e, _⟩ := pu2
    rw [ea] at e
    have e' := HO.lst.inj (Option.some.inj e)
    rw [e'] at hl
    exact k3 hl.symm
  refine ⟨_, hσ, p, n, N, rfl, by omega, by omega, pu2, by omega, fun d H3 d0 d1 f3 pu3 => ?_⟩
  have hd : d.toNat < xs.length := by omega
  have hx : xs[d.toNat]? = some xs[d.toNat] := List.getElem?_eq_getElem hd
  have key : ∀ {ps : List A} {xs : List V} {i : Nat} {x : V}, Paired (R H2) ps xs → xs[i]? = some x → ∃ q, q ∈ ps ∧ R H2 q x := by
    intro ps xs i x h
    induction h generalizing i with
    | nil => intro e; simp at e
    | cons a r ih =>
      intro e
      cases i with
      | zero =>
        cases e
        exact ⟨_, List.mem_cons_self, a⟩
      | succ i =>
        obtain ⟨q, hq, r⟩ := ih e
        exact ⟨q, List.mem_cons_of_mem _ hq, r⟩
  obtain ⟨q, hq, r⟩ := key pr2 hx
  exact ⟨a, xs, d, _, rfl, rfl, f3.keep a _ ne ea, atI_of d0 hx, h q _ _ hq ((f1.trans fa).any.trans f3) pu3 (m' _ _ _ _ f3 r)⟩
def RpR (H : Hp) (d : D) (x : V) : Prop := Rp H x d
theorem mono_RpR : MonoR RpR := fun _ _ _ _ f h => f.rp h
theorem rpR_all {H : Hp} : ∀ {ds : List D} {xs : List V}, Paired (RpR H) ds xs → RpAll H xs ds
  | _, _, .nil => .nil
  | _, _, .cons a r => .cons a (rpR_all r)
section
variable {H H0 : Hp} {σ : L2.St} {v : V} {t t1 t2 : TE} {ts : TA} {d : D} {ds es : List D} {j : Nat} {K : PySem.W.Frag}
theorem el_rpC (h : ∀ H, Rp H v d) : El RpR H0 σ (tC v) d := fun H Q _ q => q v H (Fx.refl _ _) (h H)
theorem el_rpV (hs : σ[j]? = some (some v)) (h : Rp H0 v d) : El RpR H0 σ (tVar j) d := fun H Q f q => ⟨v, hs, q v H (Fx.refl _ _) (f.rp h)⟩
theorem el_rpN {i : Int} : El RpR H0 σ (tUn (rU fun i => .int (-i)) (tC (.int i))) (.int (-i)) := fun H Q _ q => ⟨i, rfl, q _ _ (Fx.refl _ _) (.int _)⟩
theorem el_rpT (es : Els RpR H0 σ ts ds) (sz : ds.length ≤ 1000) : El RpR H0 σ (tTup ts) (.tup ds) := fun H Q f q =>
  es H _ f fun xs H1 f1 pr => ⟨by rw [paired_len pr, sizeLine_eq]; omega, fun a ha => q _ _ (f1.trans (Fx.new _ ha)) (.tup upd_same ((Fx.new [] ha).rpAll (rpR_all pr)))⟩
theorem el_rpCat (a : El RpR H0 σ t1 (.tup ds)) (b : El RpR H0 σ t2 (.tup es)) (sz : ds.length + es.length ≤ 1000) : El RpR H0 σ (tOp (rCatA K) t1 t2) (.tup (ds ++ es)) := fun H Q f q =>
  a H _ f fun x H1 f1 rx => b H1 _ (f.trans f1) fun y H2 f2 ry => by
    obtain ⟨p, xs, rfl, e1, r1⟩ := (f2.rp rx).tup_inv
    obtain ⟨p', ys, rfl, e2, r2⟩ := Rp.tup_inv ry
    refine cat_go e1 e2 (by rw [r1.len, r2.len]; exact sz) fun c H3 f3 e3 => q _ _ (f1.trans (f2.trans f3)) (.tup e3 ?_)
    have app : ∀ {as : List V} {ds : List D}, RpAll H3 as ds → RpAll H3 (as ++ ys) (ds ++ es) := by
      intro as
      induction as with
      | nil =>
        intro ds h
        cases h
        exact f3.rpAll r2
      | cons x as ih =>
        intro ds h
        cases h with
        | cons h1 h2 => exact .cons h1 (ih h2)
    exact app (f3.rpAll r1)
/-- (d,) * n -/
theorem el_rpRep (n : Nat) (h2 : 2 ≤ n) (hn : n ≤ 1000) (a : El RpR H0 σ t (.tup [d])) (k : Int) (hk : k = n) : El RpR H0 σ (tOp (rRepT K) t (tC (.int k))) (.tup (List.replicate n d)) := fun H Q f q =>
  a H _ f fun x H1 f1 rx => by
    subst hk
    obtain ⟨p, xs, rfl, e1, r1⟩ := Rp.tup_inv rx
    cases r1 with
    | @cons y _ _ _ hy r2 =>
      cases r2
      refine ⟨p, n, [y], rfl, rfl, SqT.of e1, (fun z => nomatch z), by omega, by omega, (show 1 ≤ 1000 by decide), fun c hc => q _ _ (f1.trans (Fx.new _ hc)) (.tup upd_same ?_)⟩
      have e2 : ∀ n, (List.replicate n [y]).flatten = List.replicate n y := by
        intro n
        induction n with
        | zero => rfl
        | succ n ih =>
          rw [List.replicate_succ, List.flatten_cons, ih]
          rfl
      show RpAll (upd H1 c (.tup (List.replicate n [y]).flatten)) (List.replicate n [y]).flatten _
      rw [e2]
      generalize hH : upd H1 c (.tup (List.replicate n y)) = H2
      have hy2 : Rp H2 y d := hH ▸ (Fx.new [] hc).rp hy
      have all : ∀ n, RpAll H2 (List.replicate n y) (List.replicate n d) := by
        intro n
        induction n with
        | zero => exact .nil
        | succ n ih => exact .cons hy2 ih
      exact all n
end
end LT
namespace LT
open PySem PySem.Spec PyProof.Rows L2
section
variable {J : It} {n : Nat} {G : Hp → Prop} {Y : Nat → Hp → V → Hp → Prop} {g : TG} {tt : TT} {te : TE} {tb : TS} {vs : List Nat} {σ : L2.St} {H1 H : Hp} {D : Addr} {Qd : Hp → Prop} {Q : VK} {wi : TI} {Dn : Ends} {M : List Addr}
/-- a comprehension, the list that is being made told at each turn -/
theorem lc_newD (w : Walk J n G Y) (hn : n ≤ 1000000) (hD : H1 D = none) (hM : ∀ b, b ∈ M → H1 b ≠ none) (R : Nat → Hp → List V → Prop)
    (hR : ∀ i H H' ys, Fx M H1 H → Fx [D] H H' → R i H ys → R i H' ys) (h0 : R 0 H1 [])
    (hG : ∀ i H ys, i ≤ n → Fx M H1 H → R i H ys → G H)
    (hs : ∀ i x H H' ys (N : V → Hp → Prop) (N' : Hp → Prop), i < n → Fx M H1 H → R i H ys → H D = some (.lst ys) → Y i H x H' →
      (∀ y H4, Fx M H H4 → R (i + 1) H4 (ys ++ [y]) → N y H4) → (∀ H4, Fx M H H4 → R (i + 1) H4 ys → N' H4) →
      g x (wipe σ vs) H' fun σ2 H2 => wipe σ2 vs = wipe σ vs ∧ tt σ2 H2 fun b H3 => if b = true then te σ2 H3 N else N' H3)
    (hd : ∀ H ys, Fx M H1 H → R n H ys → H D = some (.lst ys) → Qd H) : LcGo J g tt te vs σ H1 D Qd := by
  have hDM : D ∉ M := fun z => hM D z hD
  refine lc_it w (fun i H => ∃ ys, ys.length ≤ i ∧ H D = some (.lst ys) ∧ Fx M H1 H ∧ R i H ys) ?_ ?_ ?_ ?_
  · refine ⟨[], Nat.le_refl _, upd_same, Fx.new M hD, ?_⟩
    have f : Fx [D] (upd H1 D (.lst [])) (upd H1 D (.lst [])) := Fx.refl _ _
    refine hR 0 H1 _ [] (Fx.refl _ _) ?_ h0
    exact Fx.new [D] hD
  · rintro i H hi ⟨ys, _, _, f, r⟩
    exact hG i H ys hi f r
  · rintro i x H H' hi ⟨ys, hl, hy, f, r⟩ hY
    refine hs i x H H' ys _ _ hi f r hy hY ?_ ?_
    · intro y H4 f4 r4
      have e4 : H4 D = some (.lst ys) := f4.keep D _ hDM hy
      refine ⟨ys, e4, small_line (by omega), ys ++ [y], ?_, upd_same, (f.trans f4).putNew hD e4, ?_⟩
      · rw [List.length_append, List.length_singleton]
        omega
      · exact hR _ H4 _ _ (f.trans f4) (Fx.put List.mem_cons_self e4) r4
    · intro H4 f4 r4
      exact ⟨ys, Nat.le_succ_of_le hl, f4.keep D _ hDM hy, f.trans f4, r4⟩
  · rintro H ⟨ys, _, hy, f, r⟩
    exact hd H ys f r hy
end
end LT
namespace K02
open PySem PySem.Spec PyProof.Rows L2 LT
def topS (i : Nat) : Stmt := PySem.Challenge.pw_lazytags_k02_machines_checked.main.body.getD i (.Pass ⟨0, 0, 0, 0⟩)
abbrev s_is_integer : Stmt := topS 1
theorem sc_is_integer : FnScope ["thing", "low", "high"] ["thing", "low", "high"] (defScope s_is_integer) := ⟨rfl, rfl, rfl, by decide +kernel, rfl, by decide +kernel, by decide +kernel⟩
abbrev s_is_size : Stmt := topS 2
theorem sc_is_size : FnScope ["thing"] ["thing"] (defScope s_is_size) := ⟨rfl, rfl, rfl, by decide +kernel, rfl, by decide +kernel, by decide +kernel⟩
abbrev s_is_row : Stmt := topS 3
theorem sc_is_row : FnScope ["thing", "size", "value"] ["thing", "size"] (defScope s_is_row) := ⟨rfl, rfl, rfl, by decide +kernel, rfl, by decide +kernel, by decide +kernel⟩
abbrev s_is_line : Stmt := topS 4
theorem sc_is_line : FnScope ["thing", "many", "bound"] ["thing", "many", "bound"] (defScope s_is_line) := ⟨rfl, rfl, rfl, by decide +kernel, rfl, by decide +kernel, by decide +kernel⟩
abbrev s_InvalidSize___init__ : Stmt := inClass (topS 7) 0
theorem sc_InvalidSize___init__ : FnScope ["self", "size"] ["self", "size"] (defScope s_InvalidSize___init__) := ⟨rfl, rfl, rfl, by decide +kernel, rfl, by decide +kernel, by decide +kernel⟩
abbrev s_InvalidMachine___init__ : Stmt := inClass (topS 8) 0
theorem sc_InvalidMachine___init__ : FnScope ["self", "thing"] ["self", "thing"] (defScope s_InvalidMachine___init__) := ⟨rfl, rfl, rfl, by decide +kernel, rfl, by decide +kernel, by decide +kernel⟩
abbrev s_InvalidRow___init__ : Stmt := inClass (topS 9) 0
theorem sc_InvalidRow___init__ : FnScope ["self", "thing"] ["self", "thing"] (defScope s_InvalidRow___init__) := ⟨rfl, rfl, rfl, by decide +kernel, rfl, by decide +kernel, by decide +kernel⟩
abbrev s_InvalidMap___init__ : Stmt := inClass (topS 10) 0
theorem sc_InvalidMap___init__ : FnScope ["self", "thing"] ["self", "thing"] (defScope s_InvalidMap___init__) := ⟨rfl, rfl, rfl, by decide +kernel, rfl, by decide +kernel, by decide +kernel⟩
abbrev s_explored : Stmt := topS 13
theorem sc_explored : FnScope ["first", "many", "lead", "most", "things", "origins", "leads"] ["first", "many", "lead", "most"] (defScope s_explored) := ⟨rfl, rfl, rfl, by decide +kernel, rfl, by decide +kernel, by decide +kernel⟩
abbrev s_explored_some : Stmt := topS 14
theorem sc_explored_some : FnScope ["first", "many", "lead", "most", "things", "origins", "places", "leads", "line", "number", "further", "place"] ["first", "many", "lead", "most"] (defScope s_explored_some) := ⟨rfl, rfl, rfl, by decide +kernel, rfl, by decide +kernel, by decide +kernel⟩
abbrev s_way_to : Stmt := topS 15
theorem sc_way_to : FnScope ["origins", "place", "numbers", "number"] ["origins", "place"] (defScope s_way_to) := ⟨rfl, rfl, rfl, by decide +kernel, rfl, by decide +kernel, by decide +kernel⟩
abbrev s_check_machine : Stmt := topS 18
theorem sc_check_machine : FnScope ["thing", "size", "start", "steps", "answers", "state", "line", "told"] ["thing", "size"] (defScope s_check_machine) := ⟨rfl, rfl, rfl, by decide +kernel, rfl, by decide +kernel, by decide +kernel⟩
abbrev s_has_machine_form : Stmt := topS 19
theorem sc_has_machine_form : FnScope ["thing", "part"] ["thing"] (defScope s_has_machine_form) := ⟨rfl, rfl, rfl, by decide +kernel, rfl, by decide +kernel, by decide +kernel⟩
abbrev s_machine_size : Stmt := topS 20
theorem sc_machine_size : FnScope ["machine", "size"] ["machine"] (defScope s_machine_size) := ⟨rfl, rfl, rfl, by decide +kernel, rfl, by decide +kernel, by decide +kernel⟩
abbrev s_answer : Stmt := topS 21
theorem sc_answer : FnScope ["machine", "row"] ["machine", "row"] (defScope s_answer) := ⟨rfl, rfl, rfl, by decide +kernel, rfl, by decide +kernel, by decide +kernel⟩
abbrev s_answer_on : Stmt := topS 22
theorem sc_answer_on : FnScope ["machine", "row", "start", "steps", "answers"] ["machine", "row"] (defScope s_answer_on) := ⟨rfl, rfl, rfl, by decide +kernel, rfl, by decide +kernel, by decide +kernel⟩
abbrev s_state_after : Stmt := topS 23
theorem sc_state_after : FnScope ["steps", "state", "row", "value"] ["steps", "state", "row"] (defScope s_state_after) := ⟨rfl, rfl, rfl, by decide +kernel, rfl, by decide +kernel, by decide +kernel⟩
abbrev s_least_machine : Stmt := topS 24
theorem sc_least_machine : FnScope ["machine"] ["machine"] (defScope s_least_machine) := ⟨rfl, rfl, rfl, by decide +kernel, rfl, by decide +kernel, by decide +kernel⟩
abbrev s_shrunk : Stmt := topS 25
theorem sc_shrunk : FnScope ["machine", "start", "steps", "answers", "firsts", "found", "_", "leads", "state"] ["machine"] (defScope s_shrunk) := ⟨rfl, rfl, rfl, by decide +kernel, rfl, by decide +kernel, by decide +kernel⟩
abbrev s_first_likes : Stmt := topS 26
theorem sc_first_likes : FnScope ["steps", "answers", "kinds", "finer", "state", "line", "k", "kind"] ["steps", "answers"] (defScope s_first_likes) := ⟨rfl, rfl, rfl, by decide +kernel, rfl, by decide +kernel, by decide +kernel⟩
abbrev s_numbered : Stmt := topS 27
theorem sc_numbered : FnScope ["things", "numbers", "thing"] ["things"] (defScope s_numbered) := ⟨rfl, rfl, rfl, by decide +kernel, rfl, by decide +kernel, by decide +kernel⟩
abbrev s_machines_parted : Stmt := topS 28
theorem sc_machines_parted : FnScope ["one", "other", "size", "start", "steps", "answers", "other_start", "other_steps", "other_answers", "pairs", "origins", "_", "place", "state", "other_state"] ["one", "other"] (defScope s_machines_parted) := ⟨rfl, rfl, rfl, by decide +kernel, rfl, by decide +kernel, by decide +kernel⟩
abbrev s_mapped : Stmt := topS 29
theorem sc_mapped : FnScope ["machine", "mapping", "size", "start", "steps", "answers"] ["machine", "mapping"] (defScope s_mapped) := ⟨rfl, rfl, rfl, by decide +kernel, rfl, by decide +kernel, by decide +kernel⟩
abbrev s_mapped_steps : Stmt := topS 30
theorem sc_mapped_steps : FnScope ["steps", "mapping", "line", "value"] ["steps", "mapping"] (defScope s_mapped_steps) := ⟨rfl, rfl, rfl, by decide +kernel, rfl, by decide +kernel, by decide +kernel⟩
abbrev s_turned : Stmt := topS 31
theorem sc_turned : FnScope ["machine", "size", "_", "steps", "answers", "ends", "leads", "line", "told"] ["machine"] (defScope s_turned) := ⟨rfl, rfl, rfl, by decide +kernel, rfl, by decide +kernel, by decide +kernel⟩
abbrev s__law_mixed : Stmt := topS 33
theorem sc__law_mixed : FnScope ["_law_cell", "_law_k", "_law_number"] ["_law_cell", "_law_k"] (defScope s__law_mixed) := ⟨rfl, rfl, rfl, by decide +kernel, rfl, by decide +kernel, by decide +kernel⟩
abbrev s__law_purse : Stmt := topS 34
theorem sc__law_purse : FnScope ["_law_script", "_law_at", "_law_cell"] ["_law_script", "_law_at"] (defScope s__law_purse) := ⟨rfl, rfl, rfl, by decide +kernel, rfl, by decide +kernel, by decide +kernel⟩
abbrev s__law_draw : Stmt := topS 35
theorem sc__law_draw : FnScope ["_law_purse_here", "_law_out_of", "_law_drawn"] ["_law_purse_here", "_law_out_of"] (defScope s__law_draw) := ⟨rfl, rfl, rfl, by decide +kernel, rfl, by decide +kernel, by decide +kernel⟩
abbrev s__law_machine : Stmt := topS 36
theorem sc__law_machine : FnScope ["_law_purse_here", "_law_size", "_law_most", "_law_many", "_law_steps", "_law_few", "_law_state", "_law_value"] ["_law_purse_here", "_law_size", "_law_most"] (defScope s__law_machine) := ⟨rfl, rfl, rfl, by decide +kernel, rfl, by decide +kernel, by decide +kernel⟩
abbrev s__law_read : Stmt := topS 37
theorem sc__law_read : FnScope ["_law_asker", "_law_state", "_law_row_here", "_law_value"] ["_law_asker", "_law_state", "_law_row_here"] (defScope s__law_read) := ⟨rfl, rfl, rfl, by decide +kernel, rfl, by decide +kernel, by decide +kernel⟩
abbrev s__law_answer : Stmt := topS 38
theorem sc__law_answer : FnScope ["_law_asker", "_law_row_here"] ["_law_asker", "_law_row_here"] (defScope s__law_answer) := ⟨rfl, rfl, rfl, by decide +kernel, rfl, by decide +kernel, by decide +kernel⟩
abbrev s__law_row : Stmt := topS 39
theorem sc__law_row : FnScope ["_law_purse_here", "_law_size", "_law_most", "_law_place"] ["_law_purse_here", "_law_size", "_law_most"] (defScope s__law_row) := ⟨rfl, rfl, rfl, by decide +kernel, rfl, by decide +kernel, by decide +kernel⟩
abbrev s__law_int : Stmt := topS 40
theorem sc__law_int : FnScope ["_law_thing", "_law_most"] ["_law_thing", "_law_most"] (defScope s__law_int) := ⟨rfl, rfl, rfl, by decide +kernel, rfl, by decide +kernel, by decide +kernel⟩
abbrev s__law_ints : Stmt := topS 41
theorem sc__law_ints : FnScope ["_law_thing", "_law_most", "_law_one"] ["_law_thing", "_law_most"] (defScope s__law_ints) := ⟨rfl, rfl, rfl, by decide +kernel, rfl, by decide +kernel, by decide +kernel⟩
abbrev s__law_due : Stmt := topS 42
theorem sc__law_due : FnScope ["_law_thing", "_law_size", "_law_many", "_law_k"] ["_law_thing", "_law_size"] (defScope s__law_due) := ⟨rfl, rfl, rfl, by decide +kernel, rfl, by decide +kernel, by decide +kernel⟩
abbrev s__law_odd : Stmt := topS 43
theorem sc__law_odd : FnScope ["_law_purse_here", "_law_many", "_law_odd_here"] ["_law_purse_here", "_law_many"] (defScope s__law_odd) := ⟨rfl, rfl, rfl, by decide +kernel, rfl, by decide +kernel, by decide +kernel⟩
abbrev s__law_bent_part : Stmt := topS 44
theorem sc__law_bent_part : FnScope ["_law_purse_here", "_law_row_here", "_law_way", "_law_at", "_law_place"] ["_law_purse_here", "_law_row_here", "_law_way"] (defScope s__law_bent_part) := ⟨rfl, rfl, rfl, by decide +kernel, rfl, by decide +kernel, by decide +kernel⟩
abbrev s__law_bent : Stmt := topS 45
theorem sc__law_bent : FnScope ["_law_purse_here", "_law_thing", "_law_parts", "_law_way", "_law_which", "_law_whole"] ["_law_purse_here", "_law_thing"] (defScope s__law_bent) := ⟨rfl, rfl, rfl, by decide +kernel, rfl, by decide +kernel, by decide +kernel⟩
abbrev s__law_asked : Stmt := topS 46
theorem sc__law_asked : FnScope ["_law_way", "_law_one", "_law_two", "_law_error", "caught"] ["_law_way", "_law_one", "_law_two"] (defScope s__law_asked) := ⟨rfl, rfl, rfl, by decide +kernel, rfl, by decide +kernel, by decide +kernel⟩
abbrev s__law_doors_right : Stmt := topS 47
theorem sc__law_doors_right : FnScope ["_law_purse_here", "_law_asker", "_law_size", "_law_bad", "_law_odd_here", "_law_way", "_law_good", "_law_far", "_law_row_here", "_law_other", "_law_least", "_law_thing"] ["_law_purse_here", "_law_asker", "_law_size", "_law_bad"] (defScope s__law_doors_right) := ⟨rfl, rfl, rfl, by decide +kernel, rfl, by decide +kernel, by decide +kernel⟩
abbrev s_law : Stmt := topS 48
theorem sc_law : FnScope ["_law_script", "_law_at", "_law_purse_here", "_law_turn", "_law_size", "_law_asker", "_law_thing", "_law_bend", "_law_other"] ["_law_script"] (defScope s_law) := ⟨rfl, rfl, rfl, by decide +kernel, rfl, by decide +kernel, by decide +kernel⟩
abbrev bmB : List Value := [.type "ValueError", .type "Exception", .type "BaseException", .type "object"]
/-- the errors of the package that are met here, by their places in cs -/
structure Er (P : Program) (w : World) (K : PySem.W.Frag) (mg : Str → Option Value) (base : Heap) (cs : Nat → Addr) : Prop where
  InvalidSize : ErrV P w K mg base "InvalidSize" "size" (cs 0)
  InvalidMachine : ErrV P w K mg base "InvalidMachine" "thing" (cs 1)
  InvalidRow : ErrV P w K mg base "InvalidRow" "thing" (cs 2)
  InvalidMap : ErrV P w K mg base "InvalidMap" "thing" (cs 3)
  g_LazyError : mg "LazyError" = some (.ref (cs 4))
  q_LazyError : PySem.W.excIn K (cs 4) bmB "ValueError.__new__" = true
  k_LazyError : PySem.W.keepIn K (.ref (cs 4)) = true
  x_LazyError : ExcC K (cs 4)
  tab : ∀ i k, i < 4 → k < 4 → PySem.W.kitOne K (.ref (cs i)) (.ref (cs k)) = some (decide (i = k))
  below : ∀ i, i < 5 → PySem.W.kitOne K (.ref (cs i)) (.ref (cs 4)) = some true ∧ PySem.W.kitOne K (.ref (cs i)) (.type "ValueError") = some true
  notB : PySem.W.kitOne K (.type "ValueError") (.ref (cs 4)) = some false
  exc : ∀ i, i < 5 → ExcC K (cs i)
  exm : ∀ i, i < 4 → PySem.W.exmOne K (.ref (cs i)) (.ref (cs 4)) = some true
  none : ∀ i, i < 5 → PySem.W.kitOne K (.type "NoneType") (.ref (cs i)) = some false
theorem ini_InvalidSize {P : Program} {w : World} {K : PySem.W.Frag} {mg : Str → Option Value} {base : Heap} {C fI : Addr} {fd : FuncData} (F : FunD K "__init__" "InvalidSize.__init__" (defArgs s_InvalidSize___init__) (defBody s_InvalidSize___init__) (defScope s_InvalidSize___init__) [.non] [] fI fd) (T : OexC K C) (nf : PySem.W.findIn K (.ref C) "size" = some none)
    (gl : mg "InvalidSize" = some (.ref C)) (xf : XfC K C) (ex : ExcC K C) (iC : PySem.W.findIn K (.ref C) "__init__" = some (some (.ref fI))) (tI : PySem.W.typeIn K (.ref fI) = some (.type "function")) : ErrV P w K mg base "InvalidSize" "size" C :=
  errV_of F sc_InvalidSize___init__ T nf gl xf ex iC tI (fun _ _ _ _ _ _ => pss_one (ps_ost (pv 0) (pv 1))) (fun _ _ _ _ _ _ _ _ _ its h1 => match its, h1 with | [_], _ => ⟨_, rfl, rfl⟩) (fun _ _ _ _ _ _ _ _ _ its h1 => match its, h1 with | [_], _ => ⟨_, rfl, rfl⟩) (fun _ _ _ _ _ _ _ us its h1 h2 => match us, its, h1, h2 with | [_], [_], _, _ => ⟨_, rfl, rfl⟩)
theorem ini_InvalidMachine {P : Program} {w : World} {K : PySem.W.Frag} {mg : Str → Option Value} {base : Heap} {C fI : Addr} {fd : FuncData} (F : FunD K "__init__" "InvalidMachine.__init__" (defArgs s_InvalidMachine___init__) (defBody s_InvalidMachine___init__) (defScope s_InvalidMachine___init__) [.non] [] fI fd) (T : OexC K C) (nf : PySem.W.findIn K (.ref C) "thing" = some none)
    (gl : mg "InvalidMachine" = some (.ref C)) (xf : XfC K C) (ex : ExcC K C) (iC : PySem.W.findIn K (.ref C) "__init__" = some (some (.ref fI))) (tI : PySem.W.typeIn K (.ref fI) = some (.type "function")) : ErrV P w K mg base "InvalidMachine" "thing" C :=
  errV_of F sc_InvalidMachine___init__ T nf gl xf ex iC tI (fun _ _ _ _ _ _ => pss_one (ps_ost (pv 0) (pv 1))) (fun _ _ _ _ _ _ _ _ _ its h1 => match its, h1 with | [_], _ => ⟨_, rfl, rfl⟩) (fun _ _ _ _ _ _ _ _ _ its h1 => match its, h1 with | [_], _ => ⟨_, rfl, rfl⟩) (fun _ _ _ _ _ _ _ us its h1 h2 => match us, its, h1, h2 with | [_], [_], _, _ => ⟨_, rfl, rfl⟩)
theorem ini_InvalidRow {P : Program} {w : World} {K : PySem.W.Frag} {mg : Str → Option Value} {base : Heap} {C fI : Addr} {fd : FuncData} (F : FunD K "__init__" "InvalidRow.__init__" (defArgs s_InvalidRow___init__) (defBody s_InvalidRow___init__) (defScope s_InvalidRow___init__) [.non] [] fI fd) (T : OexC K C) (nf : PySem.W.findIn K (.ref C) "thing" = some none)
    (gl : mg "InvalidRow" = some (.ref C)) (xf : XfC K C) (ex : ExcC K C) (iC : PySem.W.findIn K (.ref C) "__init__" = some (some (.ref fI))) (tI : PySem.W.typeIn K (.ref fI) = some (.type "function")) : ErrV P w K mg base "InvalidRow" "thing" C :=
  errV_of F sc_InvalidRow___init__ T nf gl xf ex iC tI (fun _ _ _ _ _ _ => pss_one (ps_ost (pv 0) (pv 1))) (fun _ _ _ _ _ _ _ _ _ its h1 => match its, h1 with | [_], _ => ⟨_, rfl, rfl⟩) (fun _ _ _ _ _ _ _ _ _ its h1 => match its, h1 with | [_], _ => ⟨_, rfl, rfl⟩) (fun _ _ _ _ _ _ _ us its h1 h2 => match us, its, h1, h2 with | [_], [_], _, _ => ⟨_, rfl, rfl⟩)
theorem ini_InvalidMap {P : Program} {w : World} {K : PySem.W.Frag} {mg : Str → Option Value} {base : Heap} {C fI : Addr} {fd : FuncData} (F : FunD K "__init__" "InvalidMap.__init__" (defArgs s_InvalidMap___init__) (defBody s_InvalidMap___init__) (defScope s_InvalidMap___init__) [.non] [] fI fd) (T : OexC K C) (nf : PySem.W.findIn K (.ref C) "thing" = some none)
    (gl : mg "InvalidMap" = some (.ref C)) (xf : XfC K C) (ex : ExcC K C) (iC : PySem.W.findIn K (.ref C) "__init__" = some (some (.ref fI))) (tI : PySem.W.typeIn K (.ref fI) = some (.type "function")) : ErrV P w K mg base "InvalidMap" "thing" C :=
  errV_of F sc_InvalidMap___init__ T nf gl xf ex iC tI (fun _ _ _ _ _ _ => pss_one (ps_ost (pv 0) (pv 1))) (fun _ _ _ _ _ _ _ _ _ its h1 => match its, h1 with | [_], _ => ⟨_, rfl, rfl⟩) (fun _ _ _ _ _ _ _ _ _ its h1 => match its, h1 with | [_], _ => ⟨_, rfl, rfl⟩) (fun _ _ _ _ _ _ _ us its h1 h2 => match us, its, h1, h2 with | [_], [_], _, _ => ⟨_, rfl, rfl⟩)
/-- built-in names that the module leaves -/
structure Z (mg : Str → Option Value) : Prop where
  int : mg "int" = none
  bool : mg "bool" = none
  tuple : mg "tuple" = none
  isinstance : mg "isinstance" = none
  len : mg "len" = none
  max : mg "max" = none
  min : mg "min" = none
  all : mg "all" = none
  range : mg "range" = none
  enumerate : mg "enumerate" = none
  list : mg "list" = none
section
variable {P : Program} {w : World} {K : PySem.W.Frag} {mg : Str → Option Value} {base : Heap}
theorem ok_mixed (z : Z mg) {f : Addr} {fd : FuncData} (F : Fun K "_law_mixed" "_law_mixed" s__law_mixed f fd) : FnOk P w K mg base CX0 1 f fd ["_law_cell", "_law_k"] spMixed := by
  refine F.ok sc__law_mixed (fun vs H Q E h => ?_) (fun cdv A outer s H vs Q E hr h => ⟨_, (pss_cons (ps_set (i := 2) sc__law_mixed.nd rfl (.inl rfl) (pe_op op_mod (pe_callTy call_intI (by rfl) z.int (by decide +kernel) (pa_cons (pe_op op_add (pe_op op_add (pe_op op_add (pe_op op_mul (pv 0) pe_int) (pe_op op_mul (pe_op op_mul pe_int (pv 1)) (pv 1))) (pe_op op_mul pe_int (pv 1))) pe_int) pa_nil)) pe_int))
      (pss_one (ps_ret (pe_op op_fdiv (pe_op op_mod (pe_callTy call_intI (by rfl) z.int (by decide +kernel) (pa_cons (pe_op op_add (pe_op op_add (pe_op op_mul (pv 2) (pv 2)) (pe_op op_mul pe_int (pv 2))) pe_int) pa_nil)) pe_int) pe_int)))), ?_⟩)
  · obtain ⟨c, k, rfl, _⟩ := h
    rfl
  · obtain ⟨c, k, rfl, c0, c1, k0, k1, q⟩ := h
    simp only [tSeq, tAsg, tOp, tUn, tCB, tCons, tNil, tVar, tC, rI, rI0, rU, tRet, tRetN, gName, tIfS, tTest, tIf, tB, tNot, tAnd, tOr, tAndV, tOrV, tNotV, tCmp, t2I, tLst, tTup, tCall, tCalK0, tNext, tChain, tSl, tPart, tNoPart, tPar, tDrop, gSub, gTupT, gCons, gNil, rSetL, rIxl, rIxt, rSlt, rEq, rNe, L2.start, tLc_eq, tFor_eq, iTup, iList, iRng1, iRng2, iEnumT, tYes, pts_nil,
  List.map_cons, List.map_nil, List.length_cons, List.length_nil, List.replicate_succ, List.replicate_zero, Nat.reduceAdd, Nat.reduceSub, Nat.add_zero, Nat.zero_add, List.cons_append, List.nil_append, List.append_nil, List.getElem?_cons_zero, List.getElem?_cons_succ, List.set_cons_zero, List.set_cons_succ, wipe,
  Option.some.injEq, exists_eq_left', exists_eq_left, V.int.injEq, V.bl.injEq, V.str.injEq, V.ref.injEq, HO.lst.injEq, HO.tup.injEq, List.cons.injEq, and_true, true_and, reduceCtorEq, false_or, or_false, false_and, and_false, exists_false, exists_and_left, exists_eq, and_assoc, if_true, if_false, Bool.false_eq_true, decide_eq_true_eq, upd_same]
    generalize hn : (c * 2654435761 + 40503 * k * k + 97 * k + 13) % 2147483647 = n
    have n0 : 0 ≤ n ∧ n < 2147483647 := by
      rw [← hn]
      exact ⟨Int.emod_nonneg _ (by decide), Int.emod_lt_of_pos _ (by decide)⟩
    refine ⟨.inl ⟨by omega, by omega⟩, .inl ⟨by decide, by decide⟩, .inr ⟨by omega, by omega⟩, .inl ⟨by decide, by decide⟩, by decide, .inl ⟨by omega, by omega⟩, .inl ⟨by decide, by decide⟩, by decide, ⟨by decide, by decide⟩, ?_⟩
    have r0 := Int.emod_nonneg (n * n + 7 * n + 11) (show (2147483629 : Int) ≠ 0 by decide)
    have r1 := Int.emod_lt_of_pos (n * n + 7 * n + 11) (show (0 : Int) < 2147483629 by decide)
    exact q _ (by omega) (by omega)
theorem ok_draw (z : Z mg) (c__law_mixed : Cal P w K mg base CX0 "_law_mixed" 1 ["_law_cell", "_law_k"] spMixed) {f : Addr} {fd : FuncData} (F : Fun K "_law_draw" "_law_draw" s__law_draw f fd) :
    FnOk P w K mg base CX0 2 f fd ["_law_purse_here", "_law_out_of"] spDraw := by
  refine F.ok sc__law_draw (fun vs H Q E h => ?_) (fun cdv A outer s H vs Q E hr h => ⟨_, (pss_cons (ps_if (pt_cmpR op_gt (pe_ix ix_l (pv 0) pe_int (fun _ _ => rfl)) pe_int (nomark _)) (pss_cons (ps_set (i := 2) sc__law_draw.nd rfl (.inl rfl) (pe_op op_mod (pe_callTy call_intI (by rfl) z.int (by decide +kernel) (pa_cons (pe_ix ix_l (pv 0) pe_int (fun _ _ => rfl)) pa_nil)) (pv 1)))
      (pss_cons (ps_asg (pe_op op_fdiv (pe_ix ix_l (pv 0) pe_int (fun _ _ => rfl)) (pv 1)) (pg_sub (pv 0) pe_int set_list))
      (pss_one (ps_ret (pv 2))))) pss_nil)
      (pss_cons (ps_asg (pe_op op_add (pe_ix ix_l (pv 0) pe_int (fun _ _ => rfl)) pe_int) (pg_sub (pv 0) pe_int set_list))
      (pss_one (ps_ret (pe_op op_mod (pe_callTy call_intI (by rfl) z.int (by decide +kernel) (pa_cons (pe_cal c__law_mixed hr rfl pass0 (pa_cons (pe_ix ix_l (pv 0) pe_int (fun _ _ => rfl)) (pa_cons (pe_ix ix_l (pv 0) pe_int (fun _ _ => rfl)) pa_nil))) pa_nil)) (pv 1)))))), ?_⟩)
  · obtain ⟨p, n, N, rfl, _⟩ := h
    rfl
  · obtain ⟨p, n, N, rfl, n0, n1, ⟨a, b, c, hp, b0, b1, c0, c1⟩, hN, q⟩ := h
    have e0 : ∀ x y z' : V, atI [x, y, z'] (0 : Int) = some x := fun _ _ _ => rfl
    have e1 : ∀ x y z' : V, atI [x, y, z'] (1 : Int) = some y := fun _ _ _ => rfl
    have e2 : ∀ x y z' : V, atI [x, y, z'] (2 : Int) = some z' := fun _ _ _ => rfl
    have i0 : ixN 3 (0 : Int) = some 0 := rfl
    have i2 : ixN 3 (2 : Int) = some 2 := rfl
    simp only [tSeq, tAsg, tOp, tUn, tCB, tCons, tNil, tVar, tC, rI, rI0, rU, tRet, tRetN, gName, tIfS, tTest, tIf, tB, tNot, tAnd, tOr, tAndV, tOrV, tNotV, tCmp, t2I, tLst, tTup, tCall, tCalK0, tNext, tChain, tSl, tPart, tNoPart, tPar, tDrop, gSub, gTupT, gCons, gNil, rSetL, rIxl, rIxt, rSlt, rEq, rNe, L2.start, tLc_eq, tFor_eq, iTup, iList, iRng1, iRng2, iEnumT, tYes, pts_nil,
  List.map_cons, List.map_nil, List.length_cons, List.length_nil, List.replicate_succ, List.replicate_zero, Nat.reduceAdd, Nat.reduceSub, Nat.add_zero, Nat.zero_add, List.cons_append, List.nil_append, List.append_nil, List.getElem?_cons_zero, List.getElem?_cons_succ, List.set_cons_zero, List.set_cons_succ, wipe,
  Option.some.injEq, exists_eq_left', exists_eq_left, V.int.injEq, V.bl.injEq, V.str.injEq, V.ref.injEq, HO.lst.injEq, HO.tup.injEq, List.cons.injEq, and_true, true_and, reduceCtorEq, false_or, or_false, false_and, and_false, exists_false, exists_and_left, exists_eq, and_assoc, if_true, if_false, Bool.false_eq_true, decide_eq_true_eq, upd_same, hp, e0, e1, e2, i0, i2]
    by_cases ha : 0 < a
    · rw [if_pos ha]
      refine ⟨n0, ⟨n0, n1⟩, q _ _ (Int.emod_nonneg _ (by omega)) (Int.emod_lt_of_pos _ n0) (Fx.put List.mem_cons_self hp) ⟨_, _, _, upd_same, b0, b1, c0, by omega⟩⟩
    · rw [if_neg ha]
      refine ⟨b, c + 1, rfl, b0, b1, by omega, by omega, fun r r0 r1 => ⟨r, rfl, n0, ?_⟩⟩
      exact q _ _ (Int.emod_nonneg _ (by omega)) (Int.emod_lt_of_pos _ n0) (Fx.put List.mem_cons_self hp) ⟨_, _, _, upd_same, b0, b1, by omega, by omega⟩
theorem ok_purse (z : Z mg) {f : Addr} {fd : FuncData} (F : Fun K "_law_purse" "_law_purse" s__law_purse f fd) :
    FnOk P w K mg base CX0 1 f fd ["_law_script", "_law_at"] (spPurse K) := by
  refine F.ok sc__law_purse (fun vs H Q E h => ?_) (fun cdv A outer s H vs Q E hr h => ⟨_, (pss_cons (ps_set (i := 2) sc__law_purse.nd rfl (.inl rfl) pe_int)
      (pss_cons (ps_if (pt_cmpR op_lt (pv 1) (pe_callB call_len_seq (by rfl) z.len (by decide +kernel) (pa_cons (pv 0) pa_nil)) (nomark _)) (pss_one (ps_set (i := 2) sc__law_purse.nd rfl (.inl rfl) (pe_ix ix_list (pv 0) (pv 1) (fun _ _ => rfl)))) pss_nil)
      (pss_one (ps_ret (pe_lst (pa_cons (pe_op op_mod (pe_callTy call_intI (by rfl) z.int (by decide +kernel) (pa_cons (pe_callB (call_max2 rfl) (by rfl) z.max (by decide +kernel) (pa_cons (pe_op op_sub (pv 2) (pe_op op_powB pe_int pe_int)) (pa_cons pe_int pa_nil))) pa_nil)) (pe_op op_powB (pe_op op_powB pe_int pe_int) pe_int)) (pa_cons (pe_op op_mod (pe_callTy call_intI (by rfl) z.int (by decide +kernel) (pa_cons (pv 2) pa_nil)) pe_int) (pa_cons (pe_op op_mul pe_int (pv 1)) pa_nil)))))))), ?_⟩)
  · obtain ⟨p, n, N, rfl, _⟩ := h
    rfl
  · obtain ⟨a, ns, i, rfl, hS, hi, q⟩ := h
    have fin : ∀ c : Int, ∀ p, H p = none → Q (.ref p) (upd H p (.lst [.int ((if 0 > c - 10 ^ (18 : Int).toNat then 0 else c - 10 ^ (18 : Int).toNat) % (10 ^ (60 : Int).toNat) ^ (8 : Int).toNat), .int (c % 2147483647), .int (1000 * i)])) := by
      intro c p hp
      refine q p _ hp (Fx.new _ hp) ⟨_, _, _, upd_same, Int.emod_nonneg _ (by decide), Int.emod_lt_of_pos _ (by decide), by omega, by omega⟩
    simp only [tSeq, tAsg, tOp, tUn, tCB, tCons, tNil, tVar, tC, rI, rI0, rU, tRet, tRetN, gName, tIfS, tTest, tIf, tB, tNot, tAnd, tOr, tAndV, tOrV, tNotV, tCmp, t2I, tLst, tTup, tCall, tCalK0, tNext, tChain, tSl, tPart, tNoPart, tPar, tDrop, gSub, gTupT, gCons, gNil, rSetL, rIxl, rIxt, rSlt, rEq, rNe, L2.start, tLc_eq, tFor_eq, iTup, iList, iRng1, iRng2, iEnumT, tYes, pts_nil,
  List.map_cons, List.map_nil, List.length_cons, List.length_nil, List.replicate_succ, List.replicate_zero, Nat.reduceAdd, Nat.reduceSub, Nat.add_zero, Nat.zero_add, List.cons_append, List.nil_append, List.append_nil, List.getElem?_cons_zero, List.getElem?_cons_succ, List.set_cons_zero, List.set_cons_succ, wipe,
  Option.some.injEq, exists_eq_left', exists_eq_left, V.int.injEq, V.bl.injEq, V.str.injEq, V.ref.injEq, HO.lst.injEq, HO.tup.injEq, List.cons.injEq, and_true, true_and, reduceCtorEq, false_or, or_false, false_and, and_false, exists_false, exists_and_left, exists_eq, and_assoc, if_true, if_false, Bool.false_eq_true, decide_eq_true_eq, upd_same]
    have w1 : CPowB 10 18 := ⟨by decide, by decide +kernel⟩
    have w2 : CPowB 10 60 := ⟨by decide, by decide +kernel⟩
    have w3 : CPowB (10 ^ Int.toNat 60) 8 := ⟨by decide, by decide +kernel⟩
    have w4 : (0 : Int) < (10 ^ Int.toNat 60) ^ Int.toNat 8 := by decide +kernel
    have w5 : CMul 1000 (i : Int) := .inl ⟨by decide, by decide⟩
    have w6 : 3 ≤ sizeLine := by decide
    refine ⟨ns.map V.int, .inl hS, ?_⟩
    by_cases hi : (i : Int) < ((ns.map V.int).length : Int)
    · rw [if_pos hi]
      have hi' : i < ns.length := by rw [List.length_map] at hi; omega
      refine ⟨a, _, i, .int ns[i], rfl, rfl, hS, atI_nat (by rw [List.getElem?_map, List.getElem?_eq_getElem hi']; rfl), ?_⟩
      simp only [tSeq, tAsg, tOp, tUn, tCB, tCons, tNil, tVar, tC, rI, rI0, rU, tRet, tRetN, gName, tIfS, tTest, tIf, tB, tNot, tAnd, tOr, tAndV, tOrV, tNotV, tCmp, t2I, tLst, tTup, tCall, tCalK0, tNext, tChain, tSl, tPart, tNoPart, tPar, tDrop, gSub, gTupT, gCons, gNil, rSetL, rIxl, rIxt, rSlt, rEq, rNe, L2.start, tLc_eq, tFor_eq, iTup, iList, iRng1, iRng2, iEnumT, tYes, pts_nil,
  List.map_cons, List.map_nil, List.length_cons, List.length_nil, List.replicate_succ, List.replicate_zero, Nat.reduceAdd, Nat.reduceSub, Nat.add_zero, Nat.zero_add, List.cons_append, List.nil_append, List.append_nil, List.getElem?_cons_zero, List.getElem?_cons_succ, List.set_cons_zero, List.set_cons_succ, wipe,
  Option.some.injEq, exists_eq_left', exists_eq_left, V.int.injEq, V.bl.injEq, V.str.injEq, V.ref.injEq, HO.lst.injEq, HO.tup.injEq, List.cons.injEq, and_true, true_and, reduceCtorEq, false_or, or_false, false_and, and_false, exists_false, exists_and_left, exists_eq, and_assoc, if_true, if_false, Bool.false_eq_true, decide_eq_true_eq, upd_same]
      exact ⟨w1, w2, w3, w4, by decide, w5, w6, fun p hp => fin ns[i] p hp⟩
    · rw [if_neg hi]
      exact ⟨w1, w2, w3, w4, by decide, w5, w6, fun p hp => fin 0 p hp⟩
theorem ok_machine (z : Z mg) (c__law_draw : Cal P w K mg base CX0 "_law_draw" 2 ["_law_purse_here", "_law_out_of"] spDraw) {f : Addr} {fd : FuncData} (F : Fun K "_law_machine" "_law_machine" s__law_machine f fd) :
    FnOk P w K mg base CX0 3 f fd ["_law_purse_here", "_law_size", "_law_most"] spMachine := by
  refine F.ok sc__law_machine (fun vs H Q E h => ?_) (fun cdv A outer s H vs Q E hr h => ⟨_, (pss_cons (ps_set (i := 3) sc__law_machine.nd rfl (.inr rfl) (pe_op op_add pe_int (pe_cal c__law_draw hr rfl pass0 (pa_cons (pv 0) (pa_cons (pv 2) pa_nil)))))
      (pss_cons (ps_set (i := 4) sc__law_machine.nd rfl (.inl rfl) (pe_callTy call_tupL (by rfl) z.tuple (by decide +kernel) (pa_cons (pe_lc (own := [("_law_state", 6)]) rfl sc__law_machine.nd (pi_range1 (by rfl) z.range (pa_cons (pv 3) pa_nil)) (blkOk_by (own := [("_law_state", 6)]) (N := ["_law_purse_here", "_law_size", "_law_most", "_law_many", "_law_steps", "_law_few", "_law_state", "_law_value"]) (sc := (defScope s__law_machine)) (by decide +kernel)) (fun _ _ _ _ _ => (pg_name (i := 6) sc__law_machine.nd rfl (.inl rfl))) (fun _ _ _ _ _ => pts_nil) (fun _ _ _ _ _ => (pe_callTy call_tupL (by rfl) z.tuple (by decide +kernel) (pa_cons (pe_lc (own := [("_law_value", 7)]) rfl sc__law_machine.nd (pi_range1 (by rfl) z.range (pa_cons (pv 1) pa_nil)) (blkOk_by (own := [("_law_value", 7)]) (N := ["_law_purse_here", "_law_size", "_law_most", "_law_many", "_law_steps", "_law_few", "_law_state", "_law_value"]) (by rfl)) (fun _ _ _ _ _ => (pg_name (i := 7) sc__law_machine.nd rfl (.inl rfl))) (fun _ _ _ _ _ => pts_nil) (fun _ _ _ _ _ => (pe_cal c__law_draw hr rfl pass0 (pa_cons (pv 0) (pa_cons (pv 3) pa_nil))))) pa_nil)))) pa_nil)))
      (pss_cons (ps_set (i := 5) sc__law_machine.nd rfl (.inr rfl) (pe_ix ix_l (pe_lst (pa_cons pe_int (pa_cons pe_int (pa_cons pe_int (pa_cons pe_int pa_nil))))) (pe_cal c__law_draw hr rfl pass0 (pa_cons (pv 0) (pa_cons pe_int pa_nil))) (fun _ _ => rfl)))
      (pss_one (ps_ret (pe_tup (pa_cons (pe_cal c__law_draw hr rfl pass0 (pa_cons (pv 0) (pa_cons (pv 3) pa_nil))) (pa_cons (pv 4) (pa_cons (pe_callTy call_tupL (by rfl) z.tuple (by decide +kernel) (pa_cons (pe_lc (own := [("_law_state", 6)]) rfl sc__law_machine.nd (pi_range1 (by rfl) z.range (pa_cons (pv 3) pa_nil)) (blkOk_by (own := [("_law_state", 6)]) (N := ["_law_purse_here", "_law_size", "_law_most", "_law_many", "_law_steps", "_law_few", "_law_state", "_law_value"]) (sc := (defScope s__law_machine)) (by decide +kernel)) (fun _ _ _ _ _ => (pg_name (i := 6) sc__law_machine.nd rfl (.inl rfl))) (fun _ _ _ _ _ => pts_nil) (fun _ _ _ _ _ => (pe_cal c__law_draw hr rfl pass0 (pa_cons (pv 0) (pa_cons (pv 5) pa_nil))))) pa_nil)) pa_nil))))))))), ?_⟩)
  · obtain ⟨p, n, m, N, rfl, _⟩ := h
    rfl
  · obtain ⟨p, wide, most, N, rfl, w0, w1, m0, m1, pu, hN, q⟩ := h
    simp only [tSeq, tAsg, tOp, tUn, tCB, tCons, tNil, tVar, tC, rI, rI0, rU, tRet, tRetN, gName, tIfS, tTest, tIf, tB, tNot, tAnd, tOr, tAndV, tOrV, tNotV, tCmp, t2I, tLst, tTup, tCall, tCalK0, tNext, tChain, tSl, tPart, tNoPart, tPar, tDrop, gSub, gTupT, gCons, gNil, rSetL, rIxl, rIxt, rSlt, rEq, rNe, L2.start, tLc_eq, tFor_eq, iTup, iList, iRng1, iRng2, iEnumT, tYes, pts_nil,
  List.map_cons, List.map_nil, List.length_cons, List.length_nil, List.replicate_succ, List.replicate_zero, Nat.reduceAdd, Nat.reduceSub, Nat.add_zero, Nat.zero_add, List.cons_append, List.nil_append, List.append_nil, List.getElem?_cons_zero, List.getElem?_cons_succ, List.set_cons_zero, List.set_cons_succ, wipe,
  Option.some.injEq, exists_eq_left', exists_eq_left, V.int.injEq, V.bl.injEq, V.str.injEq, V.ref.injEq, HO.lst.injEq, HO.tup.injEq, List.cons.injEq, and_true, true_and, reduceCtorEq, false_or, or_false, false_and, and_false, exists_false, exists_and_left, exists_eq, and_assoc, if_true, if_false, Bool.false_eq_true, decide_eq_true_eq, upd_same]
    refine ⟨p, _, N, rfl, by omega, by omega, pu, by omega, fun n H1 n0 n1 f1 pu1 => ?_⟩
    simp only [tSeq, tAsg, tOp, tUn, tCB, tCons, tNil, tVar, tC, rI, rI0, rU, tRet, tRetN, gName, tIfS, tTest, tIf, tB, tNot, tAnd, tOr, tAndV, tOrV, tNotV, tCmp, t2I, tLst, tTup, tCall, tCalK0, tNext, tChain, tSl, tPart, tNoPart, tPar, tDrop, gSub, gTupT, gCons, gNil, rSetL, rIxl, rIxt, rSlt, rEq, rNe, L2.start, tLc_eq, tFor_eq, iTup, iList, iRng1, iRng2, iEnumT, tYes, pts_nil,
  List.map_cons, List.map_nil, List.length_cons, List.length_nil, List.replicate_succ, List.replicate_zero, Nat.reduceAdd, Nat.reduceSub, Nat.add_zero, Nat.zero_add, List.cons_append, List.nil_append, List.append_nil, List.getElem?_cons_zero, List.getElem?_cons_succ, List.set_cons_zero, List.set_cons_succ, wipe,
  Option.some.injEq, exists_eq_left', exists_eq_left, V.int.injEq, V.bl.injEq, V.str.injEq, V.ref.injEq, HO.lst.injEq, HO.tup.injEq, List.cons.injEq, and_true, true_and, reduceCtorEq, false_or, or_false, false_and, and_false, exists_false, exists_and_left, exists_eq, and_assoc, if_true, if_false, Bool.false_eq_true, decide_eq_true_eq, upd_same]
    have nn : (1 + n).toNat ≤ 30 := by omega
    have nz : ((1 + n).toNat : Int) = 1 + n := by omega
    refine ⟨by omega, by omega, fun D hD => ?_⟩
    have nDp : p ≠ D := fun z => pu1.at (z ▸ hD)
    refine lc_new (M := [p]) walk_range (by omega) hD (by simp; exact pu1.at)
      (fun i H ys => Pu (N + 1 + i * wide) H p ∧ ∃ rows : List (List Int), rows.length = i ∧ RpAll H ys (rows.map intsD) ∧ ∀ r ∈ rows, r.length = wide ∧ ∀ x ∈ r, 0 ≤ x ∧ x < 1 + n) ?_ ?_ ?_ ?_ ?_
    · rintro i H2 H3 ys _ f ⟨pu2, rows, hl, ra, hb⟩
      exact ⟨pu2.fx f (by rw [List.mem_singleton]; exact nDp), rows, hl, f.rpAll ra, hb⟩
    · exact ⟨pu1.mono (by omega), [], rfl, .nil, fun x hx => nomatch hx⟩
    · intros; trivial
    · rintro i x H2 H3 ys N1 N2 hi f ⟨pu2, rows, hl, ra, hb⟩ ⟨rfl, rfl⟩ hN1 hN2
      have hw : i * wide ≤ 30 * 4 := Nat.mul_le_mul (by omega) w1
      simp only [tSeq, tAsg, tOp, tUn, tCB, tCons, tNil, tVar, tC, rI, rI0, rU, tRet, tRetN, gName, tIfS, tTest, tIf, tB, tNot, tAnd, tOr, tAndV, tOrV, tNotV, tCmp, t2I, tLst, tTup, tCall, tCalK0, tNext, tChain, tSl, tPart, tNoPart, tPar, tDrop, gSub, gTupT, gCons, gNil, rSetL, rIxl, rIxt, rSlt, rEq, rNe, L2.start, tLc_eq, tFor_eq, iTup, iList, iRng1, iRng2, iEnumT, tYes, pts_nil,
  List.map_cons, List.map_nil, List.length_cons, List.length_nil, List.replicate_succ, List.replicate_zero, Nat.reduceAdd, Nat.reduceSub, Nat.add_zero, Nat.zero_add, List.cons_append, List.nil_append, List.append_nil, List.getElem?_cons_zero, List.getElem?_cons_succ, List.set_cons_zero, List.set_cons_succ, wipe,
  Option.some.injEq, exists_eq_left', exists_eq_left, V.int.injEq, V.bl.injEq, V.str.injEq, V.ref.injEq, HO.lst.injEq, HO.tup.injEq, List.cons.injEq, and_true, true_and, reduceCtorEq, false_or, or_false, false_and, and_false, exists_false, exists_and_left, exists_eq, and_assoc, if_true, if_false, Bool.false_eq_true, decide_eq_true_eq, upd_same]
      refine ⟨by omega, by omega, fun D2 hD2 => ?_⟩
      refine lc_draws (u := 1 + n) (by omega) (by omega) (by omega) pu2 (by omega) hD2 (fun x H N1 N2 h => ?_) fun H4 ns hl4 hb4 f4 pu4 hys => ?_
      · simp only [tSeq, tAsg, tOp, tUn, tCB, tCons, tNil, tVar, tC, rI, rI0, rU, tRet, tRetN, gName, tIfS, tTest, tIf, tB, tNot, tAnd, tOr, tAndV, tOrV, tNotV, tCmp, t2I, tLst, tTup, tCall, tCalK0, tNext, tChain, tSl, tPart, tNoPart, tPar, tDrop, gSub, gTupT, gCons, gNil, rSetL, rIxl, rIxt, rSlt, rEq, rNe, L2.start, tLc_eq, tFor_eq, iTup, iList, iRng1, iRng2, iEnumT, tYes, pts_nil,
  List.map_cons, List.map_nil, List.length_cons, List.length_nil, List.replicate_succ, List.replicate_zero, Nat.reduceAdd, Nat.reduceSub, Nat.add_zero, Nat.zero_add, List.cons_append, List.nil_append, List.append_nil, List.getElem?_cons_zero, List.getElem?_cons_succ, List.set_cons_zero, List.set_cons_succ, wipe,
  Option.some.injEq, exists_eq_left', exists_eq_left, V.int.injEq, V.bl.injEq, V.str.injEq, V.ref.injEq, HO.lst.injEq, HO.tup.injEq, List.cons.injEq, and_true, true_and, reduceCtorEq, false_or, or_false, false_and, and_false, exists_false, exists_and_left, exists_eq, and_assoc, if_true, if_false, Bool.false_eq_true, decide_eq_true_eq, upd_same]
        exact h
      · refine ⟨_, hys, fun l hl2 => hN1 _ _ (f4.trans (Fx.new _ hl2)) ⟨(pu4.fx (Fx.new [] hl2) (fun z => nomatch z)).mono ?_, rows ++ [ns], ?_, ?_, ?_⟩⟩
        · rw [Nat.add_mul]; omega
        · rw [List.length_append, hl]; rfl
        · rw [List.map_append]
          exact ((f4.trans (Fx.new _ hl2)).rpAll ra).snoc (Rp.of_ints upd_same)
        · intro r hr2
          rcases List.mem_append.mp hr2 with hr2 | hr2
          · exact hb r hr2
          · rw [List.mem_singleton.mp hr2]
            exact ⟨by omega, hb4⟩
    · rintro H2 ys f ⟨pu2, rows, hl, ra, hb⟩ hys
      have hw : (1 + n).toNat * wide ≤ 30 * 4 := Nat.mul_le_mul (by omega) w1
      refine ⟨_, hys, fun l hl2 => ⟨by decide, fun p1 hp1 => ?_⟩⟩
      have f3 : Fx [p] H2 (upd (upd H2 l (.tup ys)) p1 (.lst [.int 2, .int 3, .int 1, .int 100])) := (Fx.new _ hl2).trans (Fx.new _ hp1)
      have g3 : Fx [] H2 (upd (upd H2 l (.tup ys)) p1 (.lst [.int 2, .int 3, .int 1, .int 100])) := (Fx.new _ hl2).trans (Fx.new _ hp1)
      generalize hH3 : upd (upd H2 l (.tup ys)) p1 (.lst [.int 2, .int 3, .int 1, .int 100]) = H3 at f3 g3
      have el : H3 l = some (.tup ys) := by
        rw [← hH3, upd_ne (ne_of_none upd_same hp1), upd_same]
      have ep1 : H3 p1 = some (.lst [.int 2, .int 3, .int 1, .int 100]) := by rw [← hH3, upd_same]
      have np : p ∉ ([] : List Addr) := fun z => nomatch z
      have pu3 := pu2.fx g3 np
      have npp : p1 ∉ [p] := by
        rw [List.mem_singleton]
        rintro rfl
        exact (pu2.fx (Fx.new [] hl2) np).at hp1
      refine ⟨p, 4, _, rfl, by decide, by decide, pu3, by omega, fun k H4 k0 k1 f4 pu4 => ?_⟩
      refine ⟨_, k, rfl, f4.keep p1 _ npp ep1, ?_⟩
      obtain ⟨few, hat, hf0, hf1⟩ : ∃ few : Int, atI [V.int 2, V.int 3, V.int 1, V.int 100] k = some (.int few) ∧ 0 < few ∧ few ≤ 100 := by
        have : k = 0 ∨ k = 1 ∨ k = 2 ∨ k = 3 := by omega
        rcases this with rfl | rfl | rfl | rfl
        · exact ⟨2, rfl, by decide, by decide⟩
        · exact ⟨3, rfl, by decide, by decide⟩
        · exact ⟨1, rfl, by decide, by decide⟩
        · exact ⟨100, rfl, by decide, by decide⟩
      refine ⟨_, hat, ?_⟩
      refine ⟨p, _, _, rfl, by omega, by omega, pu4, by omega, fun st H5 s0 s1 f5 pu5 => ?_⟩
      refine ⟨by omega, by omega, fun D2 hD2 => ?_⟩
      refine lc_draws (by omega) hf0 (by omega) pu5 (by omega) hD2 (fun x H N1 N2 h => ?_) fun H6 ns hl6 hb6 f6 pu6 hys6 => ?_
      · simp only [tSeq, tAsg, tOp, tUn, tCB, tCons, tNil, tVar, tC, rI, rI0, rU, tRet, tRetN, gName, tIfS, tTest, tIf, tB, tNot, tAnd, tOr, tAndV, tOrV, tNotV, tCmp, t2I, tLst, tTup, tCall, tCalK0, tNext, tChain, tSl, tPart, tNoPart, tPar, tDrop, gSub, gTupT, gCons, gNil, rSetL, rIxl, rIxt, rSlt, rEq, rNe, L2.start, tLc_eq, tFor_eq, iTup, iList, iRng1, iRng2, iEnumT, tYes, pts_nil,
  List.map_cons, List.map_nil, List.length_cons, List.length_nil, List.replicate_succ, List.replicate_zero, Nat.reduceAdd, Nat.reduceSub, Nat.add_zero, Nat.zero_add, List.cons_append, List.nil_append, List.append_nil, List.getElem?_cons_zero, List.getElem?_cons_succ, List.set_cons_zero, List.set_cons_succ, wipe,
  Option.some.injEq, exists_eq_left', exists_eq_left, V.int.injEq, V.bl.injEq, V.str.injEq, V.ref.injEq, HO.lst.injEq, HO.tup.injEq, List.cons.injEq, and_true, true_and, reduceCtorEq, false_or, or_false, false_and, and_false, exists_false, exists_and_left, exists_eq, and_assoc, if_true, if_false, Bool.false_eq_true, decide_eq_true_eq, upd_same]
        exact h
      · refine ⟨_, hys6, fun l6 hl6' => ⟨by decide, fun p7 hp7 => ?_⟩⟩
        have fa : Fx [p] H3 H6 := (f4.trans f5).trans f6
        have fb : Fx [] H6 (upd (upd H6 l6 (.tup (ns.map V.int))) p7 (.tup [.int st, .ref l, .ref l6])) := (Fx.new _ hl6').trans (Fx.new _ hp7)
        have fc : Fx [p] H3 (upd (upd H6 l6 (.tup (ns.map V.int))) p7 (.tup [.int st, .ref l, .ref l6])) := fa.trans fb.any
        refine q _ _ ⟨st, rows, ns⟩ ⟨by show 0 < rows.length; omega, by show rows.length ≤ 1000; omega, fun r hr2 => ?_, by show ns.length = rows.length; omega, fun x hx => ?_, s0, by show st < (rows.length : Int); omega⟩ (by show rows.length ≤ most; omega)
          ((f1.trans f).trans (f3.trans fc)) ((pu6.fx fb np).mono (by omega)) ?_
        · obtain ⟨h1, h2⟩ := hb r hr2
          refine ⟨h1, fun x hx => ?_⟩
          obtain ⟨x0, x1⟩ := h2 x hx
          exact ⟨x0, by show x < (rows.length : Int); omega⟩
        · obtain ⟨x0, x1⟩ := hb6 x hx
          exact ⟨x0, by omega⟩
        · refine .tup upd_same (.cons (.int st) (.cons (.tup (fc.tup el) ((f3.trans fc).rpAll ra)) (.cons (Rp.of_ints ?_) .nil)))
          rw [upd_ne (ne_of_none upd_same hp7), upd_same]
theorem ok_is_integer (z : Z mg) {f : Addr} {fd : FuncData} (F : Fun K "is_integer" "is_integer" s_is_integer f fd) : FnOk P w K mg base CX0 1 f fd ["thing", "low", "high"] spIsInteger := by
  refine F.ok sc_is_integer (fun vs H Q E h => ?_) (fun cdv A outer s H vs Q E hr h => ⟨_, (pss_one (ps_ret (pe_and (pe_callB (call_isiE K rfl) (by rfl) z.isinstance (by decide +kernel) (pa_cons (pv 0) (pa_cons (pe_bltn (v := .ty "int") (by rfl) z.int (by decide +kernel) rfl) pa_nil))) (pe_and (pe_not (pe_callB (call_isiE K rfl) (by rfl) z.isinstance (by decide +kernel) (pa_cons (pv 0) (pa_cons (pe_bltn (v := .ty "bool") (by rfl) z.bool (by decide +kernel) rfl) pa_nil)))) (pe_one (pe_chain op_le op_le (pv 1) (pv 0) (pv 2))))))), ?_⟩)
  · obtain ⟨v, d, lo, hi, rfl, _⟩ := h
    rfl
  · obtain ⟨v, d, lo, hi, rfl, rp, q⟩ := h
    simp only [tSeq, tAsg, tOp, tUn, tCB, tCons, tNil, tVar, tC, rI, rI0, rU, tRet, tRetN, gName, tIfS, tTest, tIf, tB, tNot, tAnd, tOr, tAndV, tOrV, tNotV, tCmp, t2I, tLst, tTup, tCall, tCalK0, tNext, tChain, tSl, tPart, tNoPart, tPar, tDrop, gSub, gTupT, gCons, gNil, rSetL, rIxl, rIxt, rSlt, rEq, rNe, L2.start, tLc_eq, tFor_eq, iTup, iList, iRng1, iRng2, iEnumT, tYes, pts_nil,
  List.map_cons, List.map_nil, List.length_cons, List.length_nil, List.replicate_succ, List.replicate_zero, Nat.reduceAdd, Nat.reduceSub, Nat.add_zero, Nat.zero_add, List.cons_append, List.nil_append, List.append_nil, List.getElem?_cons_zero, List.getElem?_cons_succ, List.set_cons_zero, List.set_cons_succ, wipe,
  Option.some.injEq, exists_eq_left', exists_eq_left, V.int.injEq, V.bl.injEq, V.str.injEq, V.ref.injEq, HO.lst.injEq, HO.tup.injEq, List.cons.injEq, and_true, true_and, reduceCtorEq, false_or, or_false, false_and, and_false, exists_false, exists_and_left, exists_eq, and_assoc, if_true, if_false, Bool.false_eq_true, decide_eq_true_eq, upd_same]
    refine isi_rp rp (by decide) ?_
    rw [isTy_int]
    refine ⟨_, rfl, ?_⟩
    cases d with
    | int i =>
      have := rp.int_inv
      subst this
      simp only [tSeq, tAsg, tOp, tUn, tCB, tCons, tNil, tVar, tC, rI, rI0, rU, tRet, tRetN, gName, tIfS, tTest, tIf, tB, tNot, tAnd, tOr, tAndV, tOrV, tNotV, tCmp, t2I, tLst, tTup, tCall, tCalK0, tNext, tChain, tSl, tPart, tNoPart, tPar, tDrop, gSub, gTupT, gCons, gNil, rSetL, rIxl, rIxt, rSlt, rEq, rNe, L2.start, tLc_eq, tFor_eq, iTup, iList, iRng1, iRng2, iEnumT, tYes, pts_nil,
  List.map_cons, List.map_nil, List.length_cons, List.length_nil, List.replicate_succ, List.replicate_zero, Nat.reduceAdd, Nat.reduceSub, Nat.add_zero, Nat.zero_add, List.cons_append, List.nil_append, List.append_nil, List.getElem?_cons_zero, List.getElem?_cons_succ, List.set_cons_zero, List.set_cons_succ, wipe,
  Option.some.injEq, exists_eq_left', exists_eq_left, V.int.injEq, V.bl.injEq, V.str.injEq, V.ref.injEq, HO.lst.injEq, HO.tup.injEq, List.cons.injEq, and_true, true_and, reduceCtorEq, false_or, or_false, false_and, and_false, exists_false, exists_and_left, exists_eq, and_assoc, if_true, if_false, Bool.false_eq_true, decide_eq_true_eq, upd_same]
      refine isi_rp rp (by decide) ?_
      simp only [tSeq, tAsg, tOp, tUn, tCB, tCons, tNil, tVar, tC, rI, rI0, rU, tRet, tRetN, gName, tIfS, tTest, tIf, tB, tNot, tAnd, tOr, tAndV, tOrV, tNotV, tCmp, t2I, tLst, tTup, tCall, tCalK0, tNext, tChain, tSl, tPart, tNoPart, tPar, tDrop, gSub, gTupT, gCons, gNil, rSetL, rIxl, rIxt, rSlt, rEq, rNe, L2.start, tLc_eq, tFor_eq, iTup, iList, iRng1, iRng2, iEnumT, tYes, pts_nil,
  List.map_cons, List.map_nil, List.length_cons, List.length_nil, List.replicate_succ, List.replicate_zero, Nat.reduceAdd, Nat.reduceSub, Nat.add_zero, Nat.zero_add, List.cons_append, List.nil_append, List.append_nil, List.getElem?_cons_zero, List.getElem?_cons_succ, List.set_cons_zero, List.set_cons_succ, wipe,
  Option.some.injEq, exists_eq_left', exists_eq_left, V.int.injEq, V.bl.injEq, V.str.injEq, V.ref.injEq, HO.lst.injEq, HO.tup.injEq, List.cons.injEq, and_true, true_and, reduceCtorEq, false_or, or_false, false_and, and_false, exists_false, exists_and_left, exists_eq, and_assoc, if_true, if_false, Bool.false_eq_true, decide_eq_true_eq, upd_same, isTy_bool]
      rw [if_pos (by rfl)]
      unfold isInteger at q
      by_cases h : lo ≤ i
      · rw [if_pos h]
        simpa [h] using q
      · rw [if_neg h]
        simpa [h] using q
    | bl b =>
      simp only [tSeq, tAsg, tOp, tUn, tCB, tCons, tNil, tVar, tC, rI, rI0, rU, tRet, tRetN, gName, tIfS, tTest, tIf, tB, tNot, tAnd, tOr, tAndV, tOrV, tNotV, tCmp, t2I, tLst, tTup, tCall, tCalK0, tNext, tChain, tSl, tPart, tNoPart, tPar, tDrop, gSub, gTupT, gCons, gNil, rSetL, rIxl, rIxt, rSlt, rEq, rNe, L2.start, tLc_eq, tFor_eq, iTup, iList, iRng1, iRng2, iEnumT, tYes, pts_nil,
  List.map_cons, List.map_nil, List.length_cons, List.length_nil, List.replicate_succ, List.replicate_zero, Nat.reduceAdd, Nat.reduceSub, Nat.add_zero, Nat.zero_add, List.cons_append, List.nil_append, List.append_nil, List.getElem?_cons_zero, List.getElem?_cons_succ, List.set_cons_zero, List.set_cons_succ, wipe,
  Option.some.injEq, exists_eq_left', exists_eq_left, V.int.injEq, V.bl.injEq, V.str.injEq, V.ref.injEq, HO.lst.injEq, HO.tup.injEq, List.cons.injEq, and_true, true_and, reduceCtorEq, false_or, or_false, false_and, and_false, exists_false, exists_and_left, exists_eq, and_assoc, if_true, if_false, Bool.false_eq_true, decide_eq_true_eq, upd_same]
      refine isi_rp rp (by decide) ?_
      simp only [tSeq, tAsg, tOp, tUn, tCB, tCons, tNil, tVar, tC, rI, rI0, rU, tRet, tRetN, gName, tIfS, tTest, tIf, tB, tNot, tAnd, tOr, tAndV, tOrV, tNotV, tCmp, t2I, tLst, tTup, tCall, tCalK0, tNext, tChain, tSl, tPart, tNoPart, tPar, tDrop, gSub, gTupT, gCons, gNil, rSetL, rIxl, rIxt, rSlt, rEq, rNe, L2.start, tLc_eq, tFor_eq, iTup, iList, iRng1, iRng2, iEnumT, tYes, pts_nil,
  List.map_cons, List.map_nil, List.length_cons, List.length_nil, List.replicate_succ, List.replicate_zero, Nat.reduceAdd, Nat.reduceSub, Nat.add_zero, Nat.zero_add, List.cons_append, List.nil_append, List.append_nil, List.getElem?_cons_zero, List.getElem?_cons_succ, List.set_cons_zero, List.set_cons_succ, wipe,
  Option.some.injEq, exists_eq_left', exists_eq_left, V.int.injEq, V.bl.injEq, V.str.injEq, V.ref.injEq, HO.lst.injEq, HO.tup.injEq, List.cons.injEq, and_true, true_and, reduceCtorEq, false_or, or_false, false_and, and_false, exists_false, exists_and_left, exists_eq, and_assoc, if_true, if_false, Bool.false_eq_true, decide_eq_true_eq, upd_same, isTy_bool]
      exact q
    | _ => simp only [tSeq, tAsg, tOp, tUn, tCB, tCons, tNil, tVar, tC, rI, rI0, rU, tRet, tRetN, gName, tIfS, tTest, tIf, tB, tNot, tAnd, tOr, tAndV, tOrV, tNotV, tCmp, t2I, tLst, tTup, tCall, tCalK0, tNext, tChain, tSl, tPart, tNoPart, tPar, tDrop, gSub, gTupT, gCons, gNil, rSetL, rIxl, rIxt, rSlt, rEq, rNe, L2.start, tLc_eq, tFor_eq, iTup, iList, iRng1, iRng2, iEnumT, tYes, pts_nil,
  List.map_cons, List.map_nil, List.length_cons, List.length_nil, List.replicate_succ, List.replicate_zero, Nat.reduceAdd, Nat.reduceSub, Nat.add_zero, Nat.zero_add, List.cons_append, List.nil_append, List.append_nil, List.getElem?_cons_zero, List.getElem?_cons_succ, List.set_cons_zero, List.set_cons_succ, wipe,
  Option.some.injEq, exists_eq_left', exists_eq_left, V.int.injEq, V.bl.injEq, V.str.injEq, V.ref.injEq, HO.lst.injEq, HO.tup.injEq, List.cons.injEq, and_true, true_and, reduceCtorEq, false_or, or_false, false_and, and_false, exists_false, exists_and_left, exists_eq, and_assoc, if_true, if_false, Bool.false_eq_true, decide_eq_true_eq, upd_same]; exact q
theorem ok_is_size (z : Z mg) (c_is_integer : Cal P w K mg base CX0 "is_integer" 1 ["thing", "low", "high"] spIsInteger) {f : Addr} {fd : FuncData} (F : Fun K "is_size" "is_size" s_is_size f fd) : FnOk P w K mg base CX0 2 f fd ["thing"] spIsSize := by
  refine F.ok sc_is_size (fun vs H Q E h => ?_) (fun cdv A outer s H vs Q E hr h => ⟨_, (pss_one (ps_ret (pe_cal c_is_integer hr rfl pass0 (pa_cons (pv 0) (pa_cons pe_int (pa_cons pe_int pa_nil)))))), ?_⟩)
  · obtain ⟨v, d, rfl, _⟩ := h
    rfl
  · obtain ⟨v, d, rfl, rp, q⟩ := h
    simp only [tSeq, tAsg, tOp, tUn, tCB, tCons, tNil, tVar, tC, rI, rI0, rU, tRet, tRetN, gName, tIfS, tTest, tIf, tB, tNot, tAnd, tOr, tAndV, tOrV, tNotV, tCmp, t2I, tLst, tTup, tCall, tCalK0, tNext, tChain, tSl, tPart, tNoPart, tPar, tDrop, gSub, gTupT, gCons, gNil, rSetL, rIxl, rIxt, rSlt, rEq, rNe, L2.start, tLc_eq, tFor_eq, iTup, iList, iRng1, iRng2, iEnumT, tYes, pts_nil,
  List.map_cons, List.map_nil, List.length_cons, List.length_nil, List.replicate_succ, List.replicate_zero, Nat.reduceAdd, Nat.reduceSub, Nat.add_zero, Nat.zero_add, List.cons_append, List.nil_append, List.append_nil, List.getElem?_cons_zero, List.getElem?_cons_succ, List.set_cons_zero, List.set_cons_succ, wipe,
  Option.some.injEq, exists_eq_left', exists_eq_left, V.int.injEq, V.bl.injEq, V.str.injEq, V.ref.injEq, HO.lst.injEq, HO.tup.injEq, List.cons.injEq, and_true, true_and, reduceCtorEq, false_or, or_false, false_and, and_false, exists_false, exists_and_left, exists_eq, and_assoc, if_true, if_false, Bool.false_eq_true, decide_eq_true_eq, upd_same]
    exact ⟨v, d, 1, 4, rfl, rp, q⟩
theorem ok_is_row (z : Z mg) (c_is_integer : Cal P w K mg base CX0 "is_integer" 1 ["thing", "low", "high"] spIsInteger) {f : Addr} {fd : FuncData} (F : Fun K "is_row" "is_row" s_is_row f fd) : FnOk P w K mg base CX0 2 f fd ["thing", "size"] spIsRow := by
  refine F.ok sc_is_row (fun vs H Q E h => ?_) (fun cdv A outer s H vs Q E hr h => ⟨_, (pss_one (ps_ret (pe_and (pe_callB (call_isiE K rfl) (by rfl) z.isinstance (by decide +kernel) (pa_cons (pv 0) (pa_cons (pe_bltn (v := .ty "tuple") (by rfl) z.tuple (by decide +kernel) rfl) pa_nil))) (pe_one (pe_callB (cr_all rfl) (by rfl) z.all (by decide +kernel) (pa_cons (pe_lc (own := [("value", 2)]) rfl sc_is_row.nd (pi_tup (pv 0)) (blkOk_by (own := [("value", 2)]) (N := ["thing", "size", "value"]) (sc := (defScope s_is_row)) (by decide +kernel)) (fun _ _ _ _ _ => (pg_name (i := 2) sc_is_row.nd rfl (.inl rfl))) (fun _ _ _ _ _ => pts_nil) (fun _ _ _ _ _ => (pe_cal c_is_integer hr rfl pass0 (pa_cons (pv 2) (pa_cons pe_int (pa_cons (pe_op op_sub (pv 1) pe_int) pa_nil)))))) pa_nil)))))), ?_⟩)
  · obtain ⟨v, d, n, rfl, _⟩ := h
    rfl
  · obtain ⟨v, d, n, rfl, rp, sh, q⟩ := h
    simp only [tSeq, tAsg, tOp, tUn, tCB, tCons, tNil, tVar, tC, rI, rI0, rU, tRet, tRetN, gName, tIfS, tTest, tIf, tB, tNot, tAnd, tOr, tAndV, tOrV, tNotV, tCmp, t2I, tLst, tTup, tCall, tCalK0, tNext, tChain, tSl, tPart, tNoPart, tPar, tDrop, gSub, gTupT, gCons, gNil, rSetL, rIxl, rIxt, rSlt, rEq, rNe, L2.start, tLc_eq, tFor_eq, iTup, iList, iRng1, iRng2, iEnumT, tYes, pts_nil,
  List.map_cons, List.map_nil, List.length_cons, List.length_nil, List.replicate_succ, List.replicate_zero, Nat.reduceAdd, Nat.reduceSub, Nat.add_zero, Nat.zero_add, List.cons_append, List.nil_append, List.append_nil, List.getElem?_cons_zero, List.getElem?_cons_succ, List.set_cons_zero, List.set_cons_succ, wipe,
  Option.some.injEq, exists_eq_left', exists_eq_left, V.int.injEq, V.bl.injEq, V.str.injEq, V.ref.injEq, HO.lst.injEq, HO.tup.injEq, List.cons.injEq, and_true, true_and, reduceCtorEq, false_or, or_false, false_and, and_false, exists_false, exists_and_left, exists_eq, and_assoc, if_true, if_false, Bool.false_eq_true, decide_eq_true_eq, upd_same]
    refine isi_rp rp (by decide) ?_
    rw [isTy_tuple]
    refine ⟨_, rfl, ?_⟩
    cases d with
    | tup ds =>
      obtain ⟨a, xs, rfl, e, r⟩ := rp.tup_inv
      simp only [tSeq, tAsg, tOp, tUn, tCB, tCons, tNil, tVar, tC, rI, rI0, rU, tRet, tRetN, gName, tIfS, tTest, tIf, tB, tNot, tAnd, tOr, tAndV, tOrV, tNotV, tCmp, t2I, tLst, tTup, tCall, tCalK0, tNext, tChain, tSl, tPart, tNoPart, tPar, tDrop, gSub, gTupT, gCons, gNil, rSetL, rIxl, rIxt, rSlt, rEq, rNe, L2.start, tLc_eq, tFor_eq, iTup, iList, iRng1, iRng2, iEnumT, tYes, pts_nil,
  List.map_cons, List.map_nil, List.length_cons, List.length_nil, List.replicate_succ, List.replicate_zero, Nat.reduceAdd, Nat.reduceSub, Nat.add_zero, Nat.zero_add, List.cons_append, List.nil_append, List.append_nil, List.getElem?_cons_zero, List.getElem?_cons_succ, List.set_cons_zero, List.set_cons_succ, wipe,
  Option.some.injEq, exists_eq_left', exists_eq_left, V.int.injEq, V.bl.injEq, V.str.injEq, V.ref.injEq, HO.lst.injEq, HO.tup.injEq, List.cons.injEq, and_true, true_and, reduceCtorEq, false_or, or_false, false_and, and_false, exists_false, exists_and_left, exists_eq, and_assoc, if_true, if_false, Bool.false_eq_true, decide_eq_true_eq, upd_same]
      refine ⟨⟨xs, SqT.of e⟩, fun D hD => ?_⟩
      refine lc_bools (fun x => isInteger x 0 (n - 1)) e r (by rw [r.len]; exact sh) hD (fun x d H2 N1 N2 hd rx hN => ?_) fun H2 fx hy => ?_
      · simp only [tSeq, tAsg, tOp, tUn, tCB, tCons, tNil, tVar, tC, rI, rI0, rU, tRet, tRetN, gName, tIfS, tTest, tIf, tB, tNot, tAnd, tOr, tAndV, tOrV, tNotV, tCmp, t2I, tLst, tTup, tCall, tCalK0, tNext, tChain, tSl, tPart, tNoPart, tPar, tDrop, gSub, gTupT, gCons, gNil, rSetL, rIxl, rIxt, rSlt, rEq, rNe, L2.start, tLc_eq, tFor_eq, iTup, iList, iRng1, iRng2, iEnumT, tYes, pts_nil,
  List.map_cons, List.map_nil, List.length_cons, List.length_nil, List.replicate_succ, List.replicate_zero, Nat.reduceAdd, Nat.reduceSub, Nat.add_zero, Nat.zero_add, List.cons_append, List.nil_append, List.append_nil, List.getElem?_cons_zero, List.getElem?_cons_succ, List.set_cons_zero, List.set_cons_succ, wipe,
  Option.some.injEq, exists_eq_left', exists_eq_left, V.int.injEq, V.bl.injEq, V.str.injEq, V.ref.injEq, HO.lst.injEq, HO.tup.injEq, List.cons.injEq, and_true, true_and, reduceCtorEq, false_or, or_false, false_and, and_false, exists_false, exists_and_left, exists_eq, and_assoc, if_true, if_false, Bool.false_eq_true, decide_eq_true_eq, upd_same]
        exact ⟨x, d, 0, _, rfl, rx, hN _ (Fx.refl _ _)⟩
      · refine ⟨D, _, rfl, SqL.of hy, ?_⟩
        have := q H2 fx
        rw [List.all_map]
        exact this
    | _ => simp only [tSeq, tAsg, tOp, tUn, tCB, tCons, tNil, tVar, tC, rI, rI0, rU, tRet, tRetN, gName, tIfS, tTest, tIf, tB, tNot, tAnd, tOr, tAndV, tOrV, tNotV, tCmp, t2I, tLst, tTup, tCall, tCalK0, tNext, tChain, tSl, tPart, tNoPart, tPar, tDrop, gSub, gTupT, gCons, gNil, rSetL, rIxl, rIxt, rSlt, rEq, rNe, L2.start, tLc_eq, tFor_eq, iTup, iList, iRng1, iRng2, iEnumT, tYes, pts_nil,
  List.map_cons, List.map_nil, List.length_cons, List.length_nil, List.replicate_succ, List.replicate_zero, Nat.reduceAdd, Nat.reduceSub, Nat.add_zero, Nat.zero_add, List.cons_append, List.nil_append, List.append_nil, List.getElem?_cons_zero, List.getElem?_cons_succ, List.set_cons_zero, List.set_cons_succ, wipe,
  Option.some.injEq, exists_eq_left', exists_eq_left, V.int.injEq, V.bl.injEq, V.str.injEq, V.ref.injEq, HO.lst.injEq, HO.tup.injEq, List.cons.injEq, and_true, true_and, reduceCtorEq, false_or, or_false, false_and, and_false, exists_false, exists_and_left, exists_eq, and_assoc, if_true, if_false, Bool.false_eq_true, decide_eq_true_eq, upd_same]; exact q _ (Fx.refl _ _)
end
end K02
namespace K02
open PySem PySem.Spec PyProof.Rows L2 LT
section
variable {P : Program} {w : World} {K : PySem.W.Frag} {mg : Str → Option Value} {base : Heap} {cs : Nat → Addr}
def nonE (d : LT.D) : Bool := match d with
  | .tup (_ :: _) => true
  | _ => false
def isForm (d : LT.D) : Bool := match d with
  | .tup ds => decide (ds.length = 3) && (ds.drop 1).all nonE
  | _ => false
def spForm : Sp := fun vs H Q _ => ∃ v d, vs = [v] ∧ Rp H v d ∧ ∀ H', Fx [] H H' → Q (.bl (isForm d)) H'
theorem ok_has_machine_form (z : Z mg) {f : Addr} {fd : FuncData} (F : Fun K "has_machine_form" "has_machine_form" s_has_machine_form f fd) : FnOk P w K mg base CX0 1 f fd ["thing"] spForm := by
  refine F.ok sc_has_machine_form (fun vs H Q E h => ?_) (fun cdv A outer s H vs Q E hr h => ⟨_, (pss_cons (ps_if (PW.pt (pw_or (pt_not (pt_val (pe_callB (call_isiE K rfl) (by rfl) z.isinstance (by decide +kernel) (pa_cons (pv 0) (pa_cons (pe_bltn (v := .ty "tuple") (by rfl) z.tuple (by decide +kernel) rfl) pa_nil))))) (pw_or1 (pt_cmpR op_ne (pe_callB call_lenT (by rfl) z.len (by decide +kernel) (pa_cons (pv 0) pa_nil)) pe_int (nomark _))))) (pss_one (ps_ret pe_bl)) pss_nil)
      (pss_one (ps_ret (pe_callB (cr_all rfl) (by rfl) z.all (by decide +kernel) (pa_cons (pe_lc (own := [("part", 1)]) rfl sc_has_machine_form.nd (pi_tup (pe_slice sl_t (pv 0) (po_some pe_int) po_none)) (blkOk_by (own := [("part", 1)]) (N := ["thing", "part"]) (sc := (defScope s_has_machine_form)) (by decide +kernel)) (fun _ _ _ _ _ => (pg_name (i := 1) sc_has_machine_form.nd rfl (.inl rfl))) (fun _ _ _ _ _ => pts_nil) (fun _ _ _ _ _ => (pe_and (pe_callB (call_isiE K rfl) (by rfl) z.isinstance (by decide +kernel) (pa_cons (pv 1) (pa_cons (pe_bltn (v := .ty "tuple") (by rfl) z.tuple (by decide +kernel) rfl) pa_nil))) (pe_one (pe_cmpR op_gt (pe_callB call_lenT (by rfl) z.len (by decide +kernel) (pa_cons (pv 1) pa_nil)) pe_int (nomark _)))))) pa_nil))))), ?_⟩)
  · obtain ⟨v, d, rfl, _⟩ := h
    rfl
  · obtain ⟨v, d, rfl, rp, q⟩ := h
    simp only [tSeq, tAsg, tOp, tUn, tCB, tCons, tNil, tVar, tC, rI, rI0, rU, tRet, tRetN, gName, tIfS, tTest, tIf, tB, tNot, tAnd, tOr, tAndV, tOrV, tNotV, tCmp, t2I, tLst, tTup, tCall, tCalK0, tNext, tChain, tSl, tPart, tNoPart, tPar, tDrop, gSub, gTupT, gCons, gNil, rSetL, rIxl, rIxt, rSlt, rEq, rNe, L2.start, tLc_eq, tFor_eq, iTup, iList, iRng1, iRng2, iEnumT, tYes, pts_nil,
  List.map_cons, List.map_nil, List.length_cons, List.length_nil, List.replicate_succ, List.replicate_zero, Nat.reduceAdd, Nat.reduceSub, Nat.add_zero, Nat.zero_add, List.cons_append, List.nil_append, List.append_nil, List.getElem?_cons_zero, List.getElem?_cons_succ, List.set_cons_zero, List.set_cons_succ, wipe,
  Option.some.injEq, exists_eq_left', exists_eq_left, V.int.injEq, V.bl.injEq, V.str.injEq, V.ref.injEq, HO.lst.injEq, HO.tup.injEq, List.cons.injEq, and_true, true_and, reduceCtorEq, false_or, or_false, false_and, and_false, exists_false, exists_and_left, exists_eq, and_assoc, if_true, if_false, Bool.false_eq_true, decide_eq_true_eq, upd_same]
    refine isi_rp rp (by decide) ?_
    rw [isTy_tuple]
    refine ⟨_, rfl, ?_⟩
    cases d with
    | tup ds =>
      obtain ⟨a, xs, rfl, e, r⟩ := rp.tup_inv
      have hl := r.len
      simp only [tSeq, tAsg, tOp, tUn, tCB, tCons, tNil, tVar, tC, rI, rI0, rU, tRet, tRetN, gName, tIfS, tTest, tIf, tB, tNot, tAnd, tOr, tAndV, tOrV, tNotV, tCmp, t2I, tLst, tTup, tCall, tCalK0, tNext, tChain, tSl, tPart, tNoPart, tPar, tDrop, gSub, gTupT, gCons, gNil, rSetL, rIxl, rIxt, rSlt, rEq, rNe, L2.start, tLc_eq, tFor_eq, iTup, iList, iRng1, iRng2, iEnumT, tYes, pts_nil,
  List.map_cons, List.map_nil, List.length_cons, List.length_nil, List.replicate_succ, List.replicate_zero, Nat.reduceAdd, Nat.reduceSub, Nat.add_zero, Nat.zero_add, List.cons_append, List.nil_append, List.append_nil, List.getElem?_cons_zero, List.getElem?_cons_succ, List.set_cons_zero, List.set_cons_succ, wipe,
  Option.some.injEq, exists_eq_left', exists_eq_left, V.int.injEq, V.bl.injEq, V.str.injEq, V.ref.injEq, HO.lst.injEq, HO.tup.injEq, List.cons.injEq, and_true, true_and, reduceCtorEq, false_or, or_false, false_and, and_false, exists_false, exists_and_left, exists_eq, and_assoc, if_true, if_false, Bool.false_eq_true, decide_eq_true_eq, upd_same, e]
      rw [if_neg (by decide)]
      refine ⟨rfl, ?_⟩
      by_cases h3 : ds.length = 3
      · rw [if_neg (by simp [hl, h3])]
        match ds, h3, r, q with
        | [d1, d2, d3], _, .cons (v := x1) r1 (.cons (v := x2) r2 (.cons (v := x3) r3 .nil)), q =>
        refine ⟨fun z => absurd z.1 (by show ¬ HT.sIx 3 0 (some 1) = 0; decide), fun _ p hp => ⟨⟨_, SqT.of upd_same⟩, fun D hD => ?_⟩⟩
        have f1 : Fx [] H (upd H p (.tup [x2, x3])) := Fx.new _ hp
        refine lc_bools (xs := [x2, x3]) (ds := [d2, d3]) nonE upd_same (f1.rpAll (.cons r2 (.cons r3 .nil))) (by show 2 ≤ 1000000; decide) hD (fun x d H2 N1 N2 hd rx hN => ?_) fun H2 fx hy => ?_
        · simp only [tSeq, tAsg, tOp, tUn, tCB, tCons, tNil, tVar, tC, rI, rI0, rU, tRet, tRetN, gName, tIfS, tTest, tIf, tB, tNot, tAnd, tOr, tAndV, tOrV, tNotV, tCmp, t2I, tLst, tTup, tCall, tCalK0, tNext, tChain, tSl, tPart, tNoPart, tPar, tDrop, gSub, gTupT, gCons, gNil, rSetL, rIxl, rIxt, rSlt, rEq, rNe, L2.start, tLc_eq, tFor_eq, iTup, iList, iRng1, iRng2, iEnumT, tYes, pts_nil,
  List.map_cons, List.map_nil, List.length_cons, List.length_nil, List.replicate_succ, List.replicate_zero, Nat.reduceAdd, Nat.reduceSub, Nat.add_zero, Nat.zero_add, List.cons_append, List.nil_append, List.append_nil, List.getElem?_cons_zero, List.getElem?_cons_succ, List.set_cons_zero, List.set_cons_succ, wipe,
  Option.some.injEq, exists_eq_left', exists_eq_left, V.int.injEq, V.bl.injEq, V.str.injEq, V.ref.injEq, HO.lst.injEq, HO.tup.injEq, List.cons.injEq, and_true, true_and, reduceCtorEq, false_or, or_false, false_and, and_false, exists_false, exists_and_left, exists_eq, and_assoc, if_true, if_false, Bool.false_eq_true, decide_eq_true_eq, upd_same]
          refine isi_rp rx (by decide) ?_
          rw [isTy_tuple]
          refine ⟨_, rfl, ?_⟩
          cases d with
          | tup es =>
            obtain ⟨a2, ys, rfl, e2, r2'⟩ := rx.tup_inv
            simp only [tSeq, tAsg, tOp, tUn, tCB, tCons, tNil, tVar, tC, rI, rI0, rU, tRet, tRetN, gName, tIfS, tTest, tIf, tB, tNot, tAnd, tOr, tAndV, tOrV, tNotV, tCmp, t2I, tLst, tTup, tCall, tCalK0, tNext, tChain, tSl, tPart, tNoPart, tPar, tDrop, gSub, gTupT, gCons, gNil, rSetL, rIxl, rIxt, rSlt, rEq, rNe, L2.start, tLc_eq, tFor_eq, iTup, iList, iRng1, iRng2, iEnumT, tYes, pts_nil,
  List.map_cons, List.map_nil, List.length_cons, List.length_nil, List.replicate_succ, List.replicate_zero, Nat.reduceAdd, Nat.reduceSub, Nat.add_zero, Nat.zero_add, List.cons_append, List.nil_append, List.append_nil, List.getElem?_cons_zero, List.getElem?_cons_succ, List.set_cons_zero, List.set_cons_succ, wipe,
  Option.some.injEq, exists_eq_left', exists_eq_left, V.int.injEq, V.bl.injEq, V.str.injEq, V.ref.injEq, HO.lst.injEq, HO.tup.injEq, List.cons.injEq, and_true, true_and, reduceCtorEq, false_or, or_false, false_and, and_false, exists_false, exists_and_left, exists_eq, and_assoc, if_true, if_false, Bool.false_eq_true, decide_eq_true_eq, upd_same, e2]
            have := hN _ (Fx.refl _ _)
            cases r2' with
            | nil => exact this
            | cons _ _ =>
              simp only [List.length_cons]
              rw [decide_eq_true (by omega)]
              exact this
          | _ => simp only [tSeq, tAsg, tOp, tUn, tCB, tCons, tNil, tVar, tC, rI, rI0, rU, tRet, tRetN, gName, tIfS, tTest, tIf, tB, tNot, tAnd, tOr, tAndV, tOrV, tNotV, tCmp, t2I, tLst, tTup, tCall, tCalK0, tNext, tChain, tSl, tPart, tNoPart, tPar, tDrop, gSub, gTupT, gCons, gNil, rSetL, rIxl, rIxt, rSlt, rEq, rNe, L2.start, tLc_eq, tFor_eq, iTup, iList, iRng1, iRng2, iEnumT, tYes, pts_nil,
  List.map_cons, List.map_nil, List.length_cons, List.length_nil, List.replicate_succ, List.replicate_zero, Nat.reduceAdd, Nat.reduceSub, Nat.add_zero, Nat.zero_add, List.cons_append, List.nil_append, List.append_nil, List.getElem?_cons_zero, List.getElem?_cons_succ, List.set_cons_zero, List.set_cons_succ, wipe,
  Option.some.injEq, exists_eq_left', exists_eq_left, V.int.injEq, V.bl.injEq, V.str.injEq, V.ref.injEq, HO.lst.injEq, HO.tup.injEq, List.cons.injEq, and_true, true_and, reduceCtorEq, false_or, or_false, false_and, and_false, exists_false, exists_and_left, exists_eq, and_assoc, if_true, if_false, Bool.false_eq_true, decide_eq_true_eq, upd_same]; exact hN _ (Fx.refl _ _)
        · refine ⟨D, _, rfl, SqL.of hy, ?_⟩
          have := q H2 (f1.trans fx)
          have e4 : isForm (.tup [d1, d2, d3]) = List.all (List.map nonE [d2, d3]) id := by
            show (decide (3 = 3) && (nonE d2 && (nonE d3 && true))) = (nonE d2 && (nonE d3 && true))
            rfl
          rw [e4] at this
          exact this
      · rw [if_pos (by simp [hl]; omega)]
        have := q H (Fx.refl _ _)
        have e4 : isForm (.tup ds) = false := by
          unfold isForm
          simp only [decide_eq_false h3, Bool.false_and]
        rw [e4] at this
        exact this
    | _ => simp only [tSeq, tAsg, tOp, tUn, tCB, tCons, tNil, tVar, tC, rI, rI0, rU, tRet, tRetN, gName, tIfS, tTest, tIf, tB, tNot, tAnd, tOr, tAndV, tOrV, tNotV, tCmp, t2I, tLst, tTup, tCall, tCalK0, tNext, tChain, tSl, tPart, tNoPart, tPar, tDrop, gSub, gTupT, gCons, gNil, rSetL, rIxl, rIxt, rSlt, rEq, rNe, L2.start, tLc_eq, tFor_eq, iTup, iList, iRng1, iRng2, iEnumT, tYes, pts_nil,
  List.map_cons, List.map_nil, List.length_cons, List.length_nil, List.replicate_succ, List.replicate_zero, Nat.reduceAdd, Nat.reduceSub, Nat.add_zero, Nat.zero_add, List.cons_append, List.nil_append, List.append_nil, List.getElem?_cons_zero, List.getElem?_cons_succ, List.set_cons_zero, List.set_cons_succ, wipe,
  Option.some.injEq, exists_eq_left', exists_eq_left, V.int.injEq, V.bl.injEq, V.str.injEq, V.ref.injEq, HO.lst.injEq, HO.tup.injEq, List.cons.injEq, and_true, true_and, reduceCtorEq, false_or, or_false, false_and, and_false, exists_false, exists_and_left, exists_eq, and_assoc, if_true, if_false, Bool.false_eq_true, decide_eq_true_eq, upd_same]; exact q _ (Fx.refl _ _)
def lenIs (d : LT.D) (s : Nat) : Bool := match d with | .tup es => decide (es.length = s) | _ => false
def spIsLine : Sp := fun vs H Q _ => ∃ v d, ∃ s : Nat, ∃ n : Int, vs = [v, .int s, .int n] ∧ Rp H v d ∧ short d ∧ ∀ H', Fx [] H H' → Q (.bl (isRow d n && lenIs d s)) H'
theorem ok_is_line (z : Z mg) (c_is_row : Cal P w K mg base CX0 "is_row" 2 ["thing", "size"] spIsRow) {f : Addr} {fd : FuncData} (F : Fun K "is_line" "is_line" s_is_line f fd) : FnOk P w K mg base CX0 3 f fd ["thing", "many", "bound"] spIsLine := by
  refine F.ok sc_is_line (fun vs H Q E h => ?_) (fun cdv A outer s H vs Q E hr h => ⟨_, (pss_one (ps_ret (pe_and (pe_cal c_is_row hr rfl pass0 (pa_cons (pv 0) (pa_cons (pv 2) pa_nil))) (pe_one (pe_cmpR op_eq (pe_callB call_lenT (by rfl) z.len (by decide +kernel) (pa_cons (pv 0) pa_nil)) (pv 1) (nomark _)))))), ?_⟩)
  · obtain ⟨v, d, s, n, rfl, _⟩ := h
    rfl
  · obtain ⟨v, d, s, n, rfl, rp, sh, q⟩ := h
    simp only [tSeq, tAsg, tOp, tUn, tCB, tCons, tNil, tVar, tC, rI, rI0, rU, tRet, tRetN, gName, tIfS, tTest, tIf, tB, tNot, tAnd, tOr, tAndV, tOrV, tNotV, tCmp, t2I, tLst, tTup, tCall, tCalK0, tNext, tChain, tSl, tPart, tNoPart, tPar, tDrop, gSub, gTupT, gCons, gNil, rSetL, rIxl, rIxt, rSlt, rEq, rNe, L2.start, tLc_eq, tFor_eq, iTup, iList, iRng1, iRng2, iEnumT, tYes, pts_nil,
  List.map_cons, List.map_nil, List.length_cons, List.length_nil, List.replicate_succ, List.replicate_zero, Nat.reduceAdd, Nat.reduceSub, Nat.add_zero, Nat.zero_add, List.cons_append, List.nil_append, List.append_nil, List.getElem?_cons_zero, List.getElem?_cons_succ, List.set_cons_zero, List.set_cons_succ, wipe,
  Option.some.injEq, exists_eq_left', exists_eq_left, V.int.injEq, V.bl.injEq, V.str.injEq, V.ref.injEq, HO.lst.injEq, HO.tup.injEq, List.cons.injEq, and_true, true_and, reduceCtorEq, false_or, or_false, false_and, and_false, exists_false, exists_and_left, exists_eq, and_assoc, if_true, if_false, Bool.false_eq_true, decide_eq_true_eq, upd_same]
    refine ⟨v, d, n, rfl, rp, sh, fun H1 f1 => ⟨_, rfl, ?_⟩⟩
    have q1 := q H1 f1
    cases hR : isRow d n with
    | false =>
      rw [hR] at q1
      exact q1
    | true =>
      cases d with
      | tup es =>
        obtain ⟨a, xs, rfl, e, r⟩ := (f1.rp rp).tup_inv
        simp only [tSeq, tAsg, tOp, tUn, tCB, tCons, tNil, tVar, tC, rI, rI0, rU, tRet, tRetN, gName, tIfS, tTest, tIf, tB, tNot, tAnd, tOr, tAndV, tOrV, tNotV, tCmp, t2I, tLst, tTup, tCall, tCalK0, tNext, tChain, tSl, tPart, tNoPart, tPar, tDrop, gSub, gTupT, gCons, gNil, rSetL, rIxl, rIxt, rSlt, rEq, rNe, L2.start, tLc_eq, tFor_eq, iTup, iList, iRng1, iRng2, iEnumT, tYes, pts_nil,
  List.map_cons, List.map_nil, List.length_cons, List.length_nil, List.replicate_succ, List.replicate_zero, Nat.reduceAdd, Nat.reduceSub, Nat.add_zero, Nat.zero_add, List.cons_append, List.nil_append, List.append_nil, List.getElem?_cons_zero, List.getElem?_cons_succ, List.set_cons_zero, List.set_cons_succ, wipe,
  Option.some.injEq, exists_eq_left', exists_eq_left, V.int.injEq, V.bl.injEq, V.str.injEq, V.ref.injEq, HO.lst.injEq, HO.tup.injEq, List.cons.injEq, and_true, true_and, reduceCtorEq, false_or, or_false, false_and, and_false, exists_false, exists_and_left, exists_eq, and_assoc, if_true, if_false, Bool.false_eq_true, decide_eq_true_eq, upd_same, e]
        rw [hR, Bool.true_and] at q1
        rw [r.len]
        have e2 : decide ((es.length : Int) = (s : Int)) = lenIs (.tup es) s := by
          show _ = decide (es.length = s)
          by_cases h : es.length = s
          · rw [decide_eq_true h, decide_eq_true (by omega)]
          · rw [decide_eq_false h, decide_eq_false (by omega)]
        rw [e2]
        exact ⟨rfl, q1⟩
      | _ => cases hR
/-- the first problem of what is checked -/
def badAt (n s : Nat) : List LT.D → Nat → Option Nat
  | [], _ => none
  | d :: ds, k => if !isRow d n || !(match d with | .tup es => decide (es.length = s) | _ => false) then some k else badAt n s ds (k + 1)
def checkD (d : LT.D) (s : Nat) : LT.D := if isForm d = false then .tup [.str "form"] else match d with
  | .tup [st, .tup steps, .tup answers] => match badAt steps.length s steps 0 with
    | some k => .tup [.str "steps", .int k]
    | none => if decide (answers.length = steps.length) && (answers.all fun x => isInteger x 0 99) then (if isInteger st 0 (steps.length - 1) then .non else .tup [.str "start"]) else .tup [.str "answers"]
  | _ => .tup [.str "form"]
/-- no tuple in it is too long, one level down too -/
def short2 (d : LT.D) : Prop := match d with
  | .tup ds => ∀ x ∈ ds, match x with | .tup es => es.length ≤ 1000000 ∧ ∀ y ∈ es, short y | _ => True
  | _ => True
theorem nonE_inv {d : LT.D} (h : nonE d = true) : ∃ es, d = .tup es ∧ es ≠ [] := by
  cases d with
  | tup es =>
    cases es with
    | nil => cases h
    | cons e es => exact ⟨_, rfl, fun z => nomatch z⟩
  | _ => cases h
theorem isForm_inv {d : LT.D} (h : isForm d = true) : ∃ a ss ts, d = .tup [a, .tup ss, .tup ts] ∧ ss ≠ [] ∧ ts ≠ [] := by
  cases d with
  | tup ds =>
    unfold isForm at h
    simp only [Bool.and_eq_true, decide_eq_true_eq] at h
    obtain ⟨h1, h2⟩ := h
    match ds, h1, h2 with
    | [a, b, c], _, h2 =>
      simp only [List.drop_succ_cons, List.drop_zero, List.all_cons, List.all_nil, Bool.and_eq_true, Bool.and_true] at h2
      obtain ⟨ss, rfl, n1⟩ := nonE_inv h2.1
      obtain ⟨ts, rfl, n2⟩ := nonE_inv h2.2
      exact ⟨a, ss, ts, rfl, n1, n2⟩
  | _ => cases h
def badHere (n s : Nat) (d : LT.D) : Bool := !isRow d n || !(match d with | .tup es => decide (es.length = s) | _ => false)
theorem badAt_step {n s : Nat} {ds : List LT.D} {i k : Nat} {d : LT.D} (h : ds[i]? = some d) : badAt n s (ds.drop i) k = if badHere n s d then some k else badAt n s (ds.drop (i + 1)) (k + 1) := by
  obtain ⟨hi, e⟩ := List.getElem?_eq_some_iff.mp h
  rw [List.drop_eq_getElem_cons hi, e]
  rfl
/-- an error of the class at C, its field f holding v -/
def EOut (C : Addr) (f : Str) (v : V) (H : Hp) (E : XK) : Prop := ∀ d H', Fx [] H H' → H' d = some (.xd [(f, v)]) → E (.ref C) (some d) H'
theorem EOut.fx {C : Addr} {f : Str} {v : V} {H H' : Hp} {E : XK} (h : EOut C f v H E) (fx : Fx [] H H') : EOut C f v H' E := fun d H2 f2 e => h d H2 (fx.trans f2) e
theorem EOut.rai {C : Addr} {f : Str} {v : V} {H : Hp} {E : XK} (h : EOut C f v H E) : RaiseOk K C f (fun cls d H2 => E cls d H2) v H := RaiseOk.of fun d hd => h d _ (Fx.new _ hd) upd_same
def spCheck (cs : Nat → Addr) : Sp := fun vs H Q E => ∃ v d x dx, vs = [v, x] ∧ Rp H v d ∧ Rp H x dx ∧ (isInteger dx 1 4 = false → EOut (cs 0) "size" x H E) ∧
  (∀ s : Nat, dx = .int s → 0 < s → s ≤ 4 → short2 d ∧ ∀ u H', Fx [] H H' → Rp H' u (checkD d s) → Q u H')
theorem isInteger_inv {d : LT.D} {lo hi : Int} (h : isInteger d lo hi = true) : ∃ i, d = .int i ∧ lo ≤ i ∧ i ≤ hi := by
  cases d with
  | int i =>
    obtain ⟨a, b⟩ := Bool.and_eq_true_iff.mp h
    exact ⟨i, rfl, of_decide_eq_true a, of_decide_eq_true b⟩
  | _ => cases h
theorem ok_check_machine (z : Z mg) (er : Er P w K mg base cs) (c_is_integer : Cal P w K mg base CX0 "is_integer" 1 ["thing", "low", "high"] spIsInteger) (c_is_size : Cal P w K mg base CX0 "is_size" 2 ["thing"] spIsSize)
    (c_is_line : Cal P w K mg base CX0 "is_line" 3 ["thing", "many", "bound"] spIsLine) (c_has_machine_form : Cal P w K mg base CX0 "has_machine_form" 1 ["thing"] spForm) {f : Addr} {fd : FuncData} (F : Fun K "check_machine" "check_machine" s_check_machine f fd) :
    FnOk P w K mg base (L2.CX P w) 4 f fd ["thing", "size"] (spCheck cs) := by
  refine F.okX sc_check_machine (fun vs H Q E h => ?_) (fun cdv A outer s H vs Q E hr h => ⟨_, (pss_cons (ps_if (pt_not (pt_val (pe_cal c_is_size hr rfl pass0 (pa_cons (pv 1) pa_nil)))) (pss_one (ps_raiseC er.InvalidSize.errC rfl hr (takes_of rfl rfl rfl rfl) rfl (pv 1))) pss_nil)
      (pss_cons (ps_if (pt_not (pt_val (pe_cal c_has_machine_form hr rfl pass0 (pa_cons (pv 0) pa_nil)))) (pss_one (ps_ret (pe_tup (pa_cons pe_str pa_nil)))) pss_nil)
      (pss_cons (ps_asg (pv 0) (pg_tT 3 rfl (pgs_cons (pg_name (i := 2) sc_check_machine.nd rfl (.inl rfl)) (pgs_cons (pg_name (i := 3) sc_check_machine.nd rfl (.inl rfl)) (pgs_cons (pg_name (i := 4) sc_check_machine.nd rfl (.inl rfl)) pgs_nil)))))
      (pss_cons (ps_for (passes_of rfl) rfl (pi_enumT (by rfl) z.enumerate (pa_cons (pv 3) pa_nil)) (pg_tT 2 rfl (pgs_cons (pg_name (i := 5) sc_check_machine.nd rfl (.inl rfl)) (pgs_cons (pg_name (i := 6) sc_check_machine.nd rfl (.inl rfl)) pgs_nil)))
      (pss_one (ps_if (pt_not (pt_val (pe_cal c_is_line hr rfl pass0 (pa_cons (pv 6) (pa_cons (pv 1) (pa_cons (pe_callB call_lenT (by rfl) z.len (by decide +kernel) (pa_cons (pv 3) pa_nil)) pa_nil)))))) (pss_one (ps_ret (pe_tup (pa_cons pe_str (pa_cons (pv 5) pa_nil))))) pss_nil)))
      (pss_cons (ps_if (PW.pt (pw_or (pt_cmpR op_ne (pe_callB call_lenT (by rfl) z.len (by decide +kernel) (pa_cons (pv 4) pa_nil)) (pe_callB call_lenT (by rfl) z.len (by decide +kernel) (pa_cons (pv 3) pa_nil)) (nomark _)) (pw_or1 (pt_not (pt_val (pe_callB (cr_all rfl) (by rfl) z.all (by decide +kernel) (pa_cons (pe_lc (own := [("told", 7)]) rfl sc_check_machine.nd (pi_tup (pv 4)) (blkOk_by (own := [("told", 7)]) (N := ["thing", "size", "start", "steps", "answers", "state", "line", "told"]) (sc := (defScope s_check_machine)) (by decide +kernel)) (fun _ _ _ _ _ => (pg_name (i := 7) sc_check_machine.nd rfl (.inl rfl))) (fun _ _ _ _ _ => pts_nil) (fun _ _ _ _ _ => (pe_cal c_is_integer hr rfl pass0 (pa_cons (pv 7) (pa_cons pe_int (pa_cons pe_int pa_nil)))))) pa_nil))))))) (pss_one (ps_ret (pe_tup (pa_cons pe_str pa_nil)))) pss_nil)
      (pss_cons (ps_if (pt_not (pt_val (pe_cal c_is_integer hr rfl pass0 (pa_cons (pv 2) (pa_cons pe_int (pa_cons (pe_op op_sub (pe_callB call_lenT (by rfl) z.len (by decide +kernel) (pa_cons (pv 3) pa_nil)) pe_int) pa_nil)))))) (pss_one (ps_ret (pe_tup (pa_cons pe_str pa_nil)))) pss_nil)
      (pss_one (ps_ret pe_non)))))))), ?_⟩)
  · obtain ⟨v, d, x, dx, rfl, _⟩ := h
    rfl
  · obtain ⟨v, d, x, dx, rfl, rp, rx, qE, qS⟩ := h
    simp only [tSeq, tAsg, tOp, tUn, tCB, tCons, tNil, tVar, tC, rI, rI0, rU, tRet, tRetN, gName, tIfS, tTest, tIf, tB, tNot, tAnd, tOr, tAndV, tOrV, tNotV, tCmp, t2I, tLst, tTup, tCall, tCalK0, tNext, tChain, tSl, tPart, tNoPart, tPar, tDrop, gSub, gTupT, gCons, gNil, rSetL, rIxl, rIxt, rSlt, rEq, rNe, L2.start, tLc_eq, tFor_eq, iTup, iList, iRng1, iRng2, iEnumT, tYes, pts_nil,
  List.map_cons, List.map_nil, List.length_cons, List.length_nil, List.replicate_succ, List.replicate_zero, Nat.reduceAdd, Nat.reduceSub, Nat.add_zero, Nat.zero_add, List.cons_append, List.nil_append, List.append_nil, List.getElem?_cons_zero, List.getElem?_cons_succ, List.set_cons_zero, List.set_cons_succ, wipe,
  Option.some.injEq, exists_eq_left', exists_eq_left, V.int.injEq, V.bl.injEq, V.str.injEq, V.ref.injEq, HO.lst.injEq, HO.tup.injEq, List.cons.injEq, and_true, true_and, reduceCtorEq, false_or, or_false, false_and, and_false, exists_false, exists_and_left, exists_eq, and_assoc, if_true, if_false, Bool.false_eq_true, decide_eq_true_eq, upd_same, tRaiseC]
    refine ⟨x, dx, rfl, rx, ?_⟩
    refine ⟨_, rfl, ?_⟩
    cases hI : isInteger dx 1 4 with
    | false =>
      rw [if_pos (by decide)]
      exact (qE hI).rai
    | true =>
    obtain ⟨i, rfl, i0, i1⟩ := isInteger_inv hI
    obtain ⟨s, rfl⟩ : ∃ s : Nat, i = s := ⟨i.toNat, by omega⟩
    cases rx
    obtain ⟨sh, q⟩ := qS s rfl (by omega) (by omega)
    rw [if_neg (by decide)]
    refine ⟨v, d, rfl, rp, fun H1 f1 => ⟨_, rfl, ?_⟩⟩
    cases hf : isForm d with
    | false =>
      rw [if_pos (by decide)]
      refine ⟨by decide, fun p hp => ?_⟩
      refine q _ _ (f1.trans (Fx.new _ hp)) ?_
      unfold checkD
      rw [if_pos hf]
      exact .tup upd_same (.cons (.str _) .nil)
    | true =>
      rw [if_neg (by decide)]
      obtain ⟨d1, ss, ts, rfl, ns, nt⟩ := isForm_inv hf
      obtain ⟨a, xs, rfl, ea, r0⟩ := (f1.rp rp).tup_inv
      match xs, r0, ea with
      | [x1, x2, x3], .cons r1 (.cons r2 (.cons r3 .nil)), ea =>
      obtain ⟨b, bs, rfl, eb, rb⟩ := r2.tup_inv
      obtain ⟨c, cs, rfl, ec, rc⟩ := r3.tup_inv
      obtain ⟨hss, hss2⟩ := sh (.tup ss) (by simp)
      obtain ⟨hts, hts2⟩ := sh (.tup ts) (by simp)
      have lb := rb.len
      have lc := rc.len
      have goE : checkD (.tup [d1, .tup ss, .tup ts]) s = match badAt ss.length s ss 0 with
        | some k => .tup [.str "steps", .int k]
        | none => if decide (ts.length = ss.length) && (ts.all fun x => isInteger x 0 99) then (if isInteger d1 0 (ss.length - 1) then .non else .tup [.str "start"]) else .tup [.str "answers"] := by
        unfold checkD
        rw [hf, if_neg (by decide)]
      simp only [tSeq, tAsg, tOp, tUn, tCB, tCons, tNil, tVar, tC, rI, rI0, rU, tRet, tRetN, gName, tIfS, tTest, tIf, tB, tNot, tAnd, tOr, tAndV, tOrV, tNotV, tCmp, t2I, tLst, tTup, tCall, tCalK0, tNext, tChain, tSl, tPart, tNoPart, tPar, tDrop, gSub, gTupT, gCons, gNil, rSetL, rIxl, rIxt, rSlt, rEq, rNe, L2.start, tLc_eq, tFor_eq, iTup, iList, iRng1, iRng2, iEnumT, tYes, pts_nil,
  List.map_cons, List.map_nil, List.length_cons, List.length_nil, List.replicate_succ, List.replicate_zero, Nat.reduceAdd, Nat.reduceSub, Nat.add_zero, Nat.zero_add, List.cons_append, List.nil_append, List.append_nil, List.getElem?_cons_zero, List.getElem?_cons_succ, List.set_cons_zero, List.set_cons_succ, wipe,
  Option.some.injEq, exists_eq_left', exists_eq_left, V.int.injEq, V.bl.injEq, V.str.injEq, V.ref.injEq, HO.lst.injEq, HO.tup.injEq, List.cons.injEq, and_true, true_and, reduceCtorEq, false_or, or_false, false_and, and_false, exists_false, exists_and_left, exists_eq, and_assoc, if_true, if_false, Bool.false_eq_true, decide_eq_true_eq, upd_same, ea]
      refine ⟨_, SqT.of eb, ?_⟩
      refine for_go (walk_enumT (xs := bs)) (fun i σ H' => i ≤ bs.length ∧ Fx [] H1 H' ∧ badAt ss.length s ss 0 = badAt ss.length s (ss.drop i) i ∧ ∃ x5 x6, σ = [some (.ref a), some (.int s), some x1, some (.ref b), some (.ref c), x5, x6, none])
        ⟨Nat.zero_le _, Fx.refl _ _, rfl, none, none, rfl⟩ ?_ ?_ ?_
      · rintro i σ H' hi ⟨_, fx, _⟩
        exact fx.tup eb
      · rintro i x σ H2 H3 hi ⟨hi2, fx, eB, x5, x6, rfl⟩ ⟨T, y1, y2, rfl, hT, rfl, e1, e2⟩
        cases Option.some.inj e1
        have f3 : Fx [] H2 (upd H2 T (.tup [.int i, y2])) := Fx.new _ hT
        obtain ⟨d2, hd2, rd2⟩ := rb.at e2
        have rd3 := (fx.trans f3).rp rd2
        simp only [tSeq, tAsg, tOp, tUn, tCB, tCons, tNil, tVar, tC, rI, rI0, rU, tRet, tRetN, gName, tIfS, tTest, tIf, tB, tNot, tAnd, tOr, tAndV, tOrV, tNotV, tCmp, t2I, tLst, tTup, tCall, tCalK0, tNext, tChain, tSl, tPart, tNoPart, tPar, tDrop, gSub, gTupT, gCons, gNil, rSetL, rIxl, rIxt, rSlt, rEq, rNe, L2.start, tLc_eq, tFor_eq, iTup, iList, iRng1, iRng2, iEnumT, tYes, pts_nil,
  List.map_cons, List.map_nil, List.length_cons, List.length_nil, List.replicate_succ, List.replicate_zero, Nat.reduceAdd, Nat.reduceSub, Nat.add_zero, Nat.zero_add, List.cons_append, List.nil_append, List.append_nil, List.getElem?_cons_zero, List.getElem?_cons_succ, List.set_cons_zero, List.set_cons_succ, wipe,
  Option.some.injEq, exists_eq_left', exists_eq_left, V.int.injEq, V.bl.injEq, V.str.injEq, V.ref.injEq, HO.lst.injEq, HO.tup.injEq, List.cons.injEq, and_true, true_and, reduceCtorEq, false_or, or_false, false_and, and_false, exists_false, exists_and_left, exists_eq, and_assoc, if_true, if_false, Bool.false_eq_true, decide_eq_true_eq, upd_same]
        refine ⟨_, ((fx.trans f3).tup eb), ?_⟩
        refine ⟨y2, d2, s, bs.length, rfl, rd3, hss2 d2 (List.mem_of_getElem? hd2), fun H4 f4 => ⟨_, rfl, ?_⟩⟩
        have step := badAt_step (n := ss.length) (s := s) (k := i) hd2
        rw [lb]
        have hbad : badHere ss.length s d2 = !(isRow d2 ss.length && lenIs d2 s) := by
          unfold badHere lenIs
          cases isRow d2 ss.length <;> rfl
        cases hR : (isRow d2 ss.length && lenIs d2 s) with
        | false =>
          rw [if_pos (by decide)]
          refine ⟨by decide, fun p hp => ?_⟩
          refine q _ _ (f1.trans (((fx.trans f3).trans f4).trans (Fx.new _ hp))) ?_
          rw [goE, eB, step, if_pos (by rw [hbad, hR]; rfl)]
          exact .tup upd_same (.cons (.str _) (.cons (.int _) .nil))
        | true =>
          rw [if_neg (by decide)]
          refine ⟨by omega, (fx.trans f3).trans f4, ?_, _, rfl⟩
          rw [eB, step, if_neg (by rw [hbad, hR]; decide)]
      · rintro σ H2 ⟨_, fx, eB, x5, x6, rfl⟩
        rw [lb, List.drop_length] at eB
        have eN : badAt ss.length s ss 0 = none := eB
        rw [eN] at goE
        have e2b := fx.tup eb
        have e2c := fx.tup ec
        simp only [tSeq, tAsg, tOp, tUn, tCB, tCons, tNil, tVar, tC, rI, rI0, rU, tRet, tRetN, gName, tIfS, tTest, tIf, tB, tNot, tAnd, tOr, tAndV, tOrV, tNotV, tCmp, t2I, tLst, tTup, tCall, tCalK0, tNext, tChain, tSl, tPart, tNoPart, tPar, tDrop, gSub, gTupT, gCons, gNil, rSetL, rIxl, rIxt, rSlt, rEq, rNe, L2.start, tLc_eq, tFor_eq, iTup, iList, iRng1, iRng2, iEnumT, tYes, pts_nil,
  List.map_cons, List.map_nil, List.length_cons, List.length_nil, List.replicate_succ, List.replicate_zero, Nat.reduceAdd, Nat.reduceSub, Nat.add_zero, Nat.zero_add, List.cons_append, List.nil_append, List.append_nil, List.getElem?_cons_zero, List.getElem?_cons_succ, List.set_cons_zero, List.set_cons_succ, wipe,
  Option.some.injEq, exists_eq_left', exists_eq_left, V.int.injEq, V.bl.injEq, V.str.injEq, V.ref.injEq, HO.lst.injEq, HO.tup.injEq, List.cons.injEq, and_true, true_and, reduceCtorEq, false_or, or_false, false_and, and_false, exists_false, exists_and_left, exists_eq, and_assoc, if_true, if_false, Bool.false_eq_true, decide_eq_true_eq, upd_same, e2b, e2c]
        have fin : ∀ (d : LT.D) (x : Str), checkD (.tup [d1, .tup ss, .tup ts]) s = .tup [.str x] → ∀ H5 p, Fx [] H2 H5 → H5 p = none → Q (.ref p) (upd H5 p (.tup [.str x])) := by
          intro d x e H5 p f5 hp
          refine q _ _ (f1.trans ((fx.trans f5).trans (Fx.new _ hp))) ?_
          rw [e]
          exact .tup upd_same (.cons (.str _) .nil)
        refine ⟨rfl, ?_⟩
        rw [lb, lc]
        by_cases hl : ts.length = ss.length
        · rw [if_neg (by simp [hl])]
          refine ⟨⟨_, SqT.of e2c⟩, fun D hD => ?_⟩
          refine lc_bools (fun x => isInteger x 0 99) e2c (fx.rpAll rc) (by omega) hD (fun x d H4 N1 N2 hd rx hN => ?_) fun H4 f4 hy => ?_
          · simp only [tSeq, tAsg, tOp, tUn, tCB, tCons, tNil, tVar, tC, rI, rI0, rU, tRet, tRetN, gName, tIfS, tTest, tIf, tB, tNot, tAnd, tOr, tAndV, tOrV, tNotV, tCmp, t2I, tLst, tTup, tCall, tCalK0, tNext, tChain, tSl, tPart, tNoPart, tPar, tDrop, gSub, gTupT, gCons, gNil, rSetL, rIxl, rIxt, rSlt, rEq, rNe, L2.start, tLc_eq, tFor_eq, iTup, iList, iRng1, iRng2, iEnumT, tYes, pts_nil,
  List.map_cons, List.map_nil, List.length_cons, List.length_nil, List.replicate_succ, List.replicate_zero, Nat.reduceAdd, Nat.reduceSub, Nat.add_zero, Nat.zero_add, List.cons_append, List.nil_append, List.append_nil, List.getElem?_cons_zero, List.getElem?_cons_succ, List.set_cons_zero, List.set_cons_succ, wipe,
  Option.some.injEq, exists_eq_left', exists_eq_left, V.int.injEq, V.bl.injEq, V.str.injEq, V.ref.injEq, HO.lst.injEq, HO.tup.injEq, List.cons.injEq, and_true, true_and, reduceCtorEq, false_or, or_false, false_and, and_false, exists_false, exists_and_left, exists_eq, and_assoc, if_true, if_false, Bool.false_eq_true, decide_eq_true_eq, upd_same]
            exact ⟨x, d, 0, 99, rfl, rx, hN _ (Fx.refl _ _)⟩
          · refine ⟨D, _, rfl, SqL.of hy, _, rfl, ?_⟩
            have eA : (List.all (List.map (fun x => isInteger x 0 99) ts) id) = ts.all fun x => isInteger x 0 99 := by
              rw [List.all_map]
              rfl
            rw [eA]
            cases hA : (ts.all fun x => isInteger x 0 99) with
            | false =>
              rw [if_pos (by decide)]
              refine ⟨by decide, fun p hp => fin d1 "answers" ?_ _ p f4 hp⟩
              rw [goE, hA, if_neg (by simp)]
            | true =>
              rw [if_neg (by decide)]
              refine ⟨bs, f4.tup e2b, x1, d1, 0, _, rfl, f4.rp (fx.rp r1), _, rfl, ?_⟩
              rw [lb]
              cases hS : isInteger d1 0 (ss.length - 1) with
              | false =>
                rw [if_pos (by decide)]
                refine ⟨by decide, fun p hp => fin d1 "start" ?_ _ p f4 hp⟩
                rw [goE, hA, if_pos (by simp [hl]), if_neg (by rw [hS]; decide)]
              | true =>
                rw [if_neg (by decide)]
                refine q _ _ (f1.trans (fx.trans f4)) ?_
                rw [goE, hA, if_pos (by simp [hl]), if_pos hS]
                exact .non
        · rw [if_pos (by simp; omega)]
          refine ⟨by decide, fun p hp => fin d1 "answers" ?_ _ p (Fx.refl _ _) hp⟩
          rw [goE, if_neg (by simp [hl])]
end
end K02
namespace K02
open PySem PySem.Spec PyProof.Rows L2 LT
section
variable {P : Program} {w : World} {K : PySem.W.Frag} {mg : Str → Option Value} {base : Heap} {cs : Nat → Addr}
def isNon (d : LT.D) : Bool := match d with
  | .non => true
  | _ => false
theorem isNon_t {d : LT.D} (h : isNon d = true) : d = .non := by
  cases d <;> first | rfl | cases h
theorem rp_non {H : Hp} {v : V} {d : LT.D} (h : Rp H v d) (e : isNon d = false) : v ≠ .non := by
  rintro rfl
  cases h
  cases e
/-- the size of a machine, none of what is none -/
def sizeD (d : LT.D) : Option Nat := [1, 2, 3, 4].find? fun s => isNon (checkD d s)
def spSize (cs : Nat → Addr) : Sp := fun vs H Q E => ∃ v d, vs = [v] ∧ Rp H v d ∧ short2 d ∧ (∀ n, sizeD d = some n → ∀ H', Fx [] H H' → Q (.int n) H') ∧ (sizeD d = none → EOut (cs 1) "thing" v H E)
theorem sizeD_none {d : LT.D} : sizeD d = none ↔ ∀ s, 1 ≤ s → s ≤ 4 → isNon (checkD d s) = false := by
  unfold sizeD
  rw [List.find?_eq_none]
  constructor
  · intro h s s0 s1
    have : s ∈ [1, 2, 3, 4] := by
      have : s = 1 ∨ s = 2 ∨ s = 3 ∨ s = 4 := by omega
      rcases this with rfl | rfl | rfl | rfl <;> simp
    simpa using h s this
  · intro h s hs
    have : 1 ≤ s ∧ s ≤ 4 := by
      simp only [List.mem_cons, List.not_mem_nil, or_false] at hs
      omega
    simpa using h s this.1 this.2
theorem sizeD_first {d : LT.D} {s : Nat} (h0 : 1 ≤ s) (h4 : s ≤ 4) (hs : isNon (checkD d s) = true) (hb : ∀ j, 1 ≤ j → j < s → isNon (checkD d j) = false) : sizeD d = some s := by
  have : s = 1 ∨ s = 2 ∨ s = 3 ∨ s = 4 := by omega
  unfold sizeD
  rcases this with rfl | rfl | rfl | rfl
  · simp [List.find?, hs]
  · simp [List.find?, hs, hb 1 (by omega) (by omega)]
  · simp [List.find?, hs, hb 1 (by omega) (by omega), hb 2 (by omega) (by omega)]
  · simp [List.find?, hs, hb 1 (by omega) (by omega), hb 2 (by omega) (by omega), hb 3 (by omega) (by omega)]
theorem ok_machine_size (z : Z mg) (er : Er P w K mg base cs) (c_check_machine : Cal P w K mg base (L2.CX P w) "check_machine" 4 ["thing", "size"] (spCheck cs)) {f : Addr} {fd : FuncData} (F : Fun K "machine_size" "machine_size" s_machine_size f fd) :
    FnOk P w K mg base (L2.CX P w) 5 f fd ["machine"] (spSize cs) := by
  refine F.okX sc_machine_size (fun vs H Q E h => ?_) (fun cdv A outer s H vs Q E hr h => ⟨_, (pss_cons (ps_for (passes_of rfl) rfl (pi_range2 (by rfl) z.range (pa_cons pe_int (pa_cons pe_int pa_nil))) (pg_name (i := 1) sc_machine_size.nd rfl (.inl rfl))
      (pss_one (ps_if (pt_cmpR op_isN (pe_cal c_check_machine hr rfl (passes_call (takes_of rfl rfl rfl rfl) (fun _ _ _ _ z => z)) (pa_cons (pv 0) (pa_cons (pv 1) pa_nil))) pe_non (nomark _)) (pss_one (ps_ret (pv 1))) pss_nil)))
      (pss_one (ps_raiseC er.InvalidMachine.errC rfl hr (takes_of rfl rfl rfl rfl) rfl (pv 0)))), ?_⟩)
  · obtain ⟨v, d, rfl, _⟩ := h
    rfl
  · obtain ⟨v, d, rfl, rp, sh, qS, qE⟩ := h
    simp only [tSeq, tAsg, tOp, tUn, tCB, tCons, tNil, tVar, tC, rI, rI0, rU, tRet, tRetN, gName, tIfS, tTest, tIf, tB, tNot, tAnd, tOr, tAndV, tOrV, tNotV, tCmp, t2I, tLst, tTup, tCall, tCalK0, tNext, tChain, tSl, tPart, tNoPart, tPar, tDrop, gSub, gTupT, gCons, gNil, rSetL, rIxl, rIxt, rSlt, rEq, rNe, L2.start, tLc_eq, tFor_eq, iTup, iList, iRng1, iRng2, iEnumT, tYes, pts_nil,
  List.map_cons, List.map_nil, List.length_cons, List.length_nil, List.replicate_succ, List.replicate_zero, Nat.reduceAdd, Nat.reduceSub, Nat.add_zero, Nat.zero_add, List.cons_append, List.nil_append, List.append_nil, List.getElem?_cons_zero, List.getElem?_cons_succ, List.set_cons_zero, List.set_cons_succ, wipe,
  Option.some.injEq, exists_eq_left', exists_eq_left, V.int.injEq, V.bl.injEq, V.str.injEq, V.ref.injEq, HO.lst.injEq, HO.tup.injEq, List.cons.injEq, and_true, true_and, reduceCtorEq, false_or, or_false, false_and, and_false, exists_false, exists_and_left, exists_eq, and_assoc, if_true, if_false, Bool.false_eq_true, decide_eq_true_eq, upd_same, tRaiseC]
    refine ⟨by omega, by omega, by omega, by omega, ?_⟩
    refine for_go walk_range (fun i σ H' => Fx [] H H' ∧ (∀ j, 1 ≤ j → j < 1 + i → isNon (checkD d j) = false) ∧ ∃ x, σ = [some v, x]) ⟨Fx.refl _ _, fun j h1 h2 => by omega, none, rfl⟩ ?_ ?_ ?_
    · intros; trivial
    · rintro i x σ H2 H3 hi ⟨fx, hj, y, rfl⟩ ⟨rfl, rfl⟩
      have hi4 : i < 4 := hi
      simp only [tSeq, tAsg, tOp, tUn, tCB, tCons, tNil, tVar, tC, rI, rI0, rU, tRet, tRetN, gName, tIfS, tTest, tIf, tB, tNot, tAnd, tOr, tAndV, tOrV, tNotV, tCmp, t2I, tLst, tTup, tCall, tCalK0, tNext, tChain, tSl, tPart, tNoPart, tPar, tDrop, gSub, gTupT, gCons, gNil, rSetL, rIxl, rIxt, rSlt, rEq, rNe, L2.start, tLc_eq, tFor_eq, iTup, iList, iRng1, iRng2, iEnumT, tYes, pts_nil,
  List.map_cons, List.map_nil, List.length_cons, List.length_nil, List.replicate_succ, List.replicate_zero, Nat.reduceAdd, Nat.reduceSub, Nat.add_zero, Nat.zero_add, List.cons_append, List.nil_append, List.append_nil, List.getElem?_cons_zero, List.getElem?_cons_succ, List.set_cons_zero, List.set_cons_succ, wipe,
  Option.some.injEq, exists_eq_left', exists_eq_left, V.int.injEq, V.bl.injEq, V.str.injEq, V.ref.injEq, HO.lst.injEq, HO.tup.injEq, List.cons.injEq, and_true, true_and, reduceCtorEq, false_or, or_false, false_and, and_false, exists_false, exists_and_left, exists_eq, and_assoc, if_true, if_false, Bool.false_eq_true, decide_eq_true_eq, upd_same]
      refine ⟨v, d, .int (1 + i), .int (1 + i), rfl, fx.rp rp, .int _, fun hI => ?_, fun s hs s0 s1 => ⟨sh, fun u H4 f4 ru => ?_⟩⟩
      · have : isInteger (.int (1 + i)) 1 4 = true := by
          show (decide ((1 : Int) ≤ 1 + i) && decide ((1 : Int) + i ≤ 4)) = true
          rw [decide_eq_true (by omega), decide_eq_true (by omega)]
          rfl
        rw [this] at hI
        cases hI
      · have hs' : s = 1 + i := by
          have := LT.D.int.inj hs
          omega
        subst hs'
        cases hN : isNon (checkD d (1 + i)) with
        | true =>
          rw [isNon_t hN] at ru
          cases ru
          show if V.non = V.non then Q (V.int (1 + ↑i)) H4 else _
          rw [if_pos rfl]
          have := qS (1 + i) (sizeD_first (by omega) (by omega) hN fun j h1 h2 => hj j h1 h2) H4 (fx.trans f4)
          rw [Int.natCast_add] at this
          exact this
        | false =>
          have nn := rp_non ru hN
          show if u = V.non then _ else _
          rw [if_neg nn]
          refine ⟨fx.trans f4, fun j h1 h2 => ?_, _, rfl⟩
          by_cases e : j = 1 + i
          · rw [e]
            exact hN
          · exact hj j h1 (by omega)
    · rintro σ H2 ⟨fx, hj, y, rfl⟩
      have e : sizeD d = none := sizeD_none.mpr fun j h1 h2 => hj j h1 (by show j < 1 + (5 - 1 : Int).toNat; have : (5 - 1 : Int).toNat = 4 := rfl; omega)
      exact ⟨v, rfl, ((qE e).fx fx).rai⟩
def mapOk (d : LT.D) (n : Int) : Bool := match d with
  | .tup ds => isRow (.tup ds) n && (decide (1 ≤ ds.length) && decide (ds.length ≤ 4))
  | _ => false
/-- answer, where it raises -/
def spAnswer (cs : Nat → Addr) : Sp := fun vs H Q E => ∃ x dx y dy, vs = [x, y] ∧ Rp H x dx ∧ Rp H y dy ∧ short2 dx ∧ short dy ∧ (sizeD dx = none → EOut (cs 1) "thing" x H E) ∧ (∀ n, sizeD dx = some n → isRow dy n = false ∧ EOut (cs 2) "thing" y H E)
def spOne (cs : Nat → Addr) : Sp := fun vs H Q E => ∃ x dx, vs = [x] ∧ Rp H x dx ∧ short2 dx ∧ sizeD dx = none ∧ EOut (cs 1) "thing" x H E
def spParted (cs : Nat → Addr) : Sp := fun vs H Q E => ∃ x dx y dy, vs = [x, y] ∧ Rp H x dx ∧ Rp H y dy ∧ short2 dx ∧ (sizeD dx = none → EOut (cs 1) "thing" x H E) ∧ (∀ n, sizeD dx = some n → short2 dy ∧ isNon (checkD dy n) = false ∧ EOut (cs 1) "thing" y H E)
def spMapped (cs : Nat → Addr) : Sp := fun vs H Q E => ∃ x dx y dy, vs = [x, y] ∧ Rp H x dx ∧ Rp H y dy ∧ short2 dx ∧ short dy ∧ (sizeD dx = none → EOut (cs 1) "thing" x H E) ∧ (∀ n, sizeD dx = some n → mapOk dy n = false ∧ EOut (cs 3) "thing" y H E)
theorem sizeD_le {d : LT.D} {n : Nat} (h : sizeD d = some n) : 1 ≤ n ∧ n ≤ 4 := by
  have := List.mem_of_find?_eq_some h
  simp only [List.mem_cons, List.not_mem_nil, or_false] at this
  omega
theorem size_of {E : XK} {Q : VK} {x : V} {dx : LT.D} {H : Hp} (rx : Rp H x dx) (sx : short2 dx) (q0 : sizeD dx = none → EOut (cs 1) "thing" x H E) (qn : ∀ n, sizeD dx = some n → ∀ H', Fx [] H H' → Q (.int n) H') : spSize cs [x] H Q E := ⟨x, dx, rfl, rx, sx, qn, q0⟩
theorem ok_answer (z : Z mg) (er : Er P w K mg base cs) (c_is_row : Cal P w K mg base CX0 "is_row" 2 ["thing", "size"] spIsRow) (c_machine_size : Cal P w K mg base (L2.CX P w) "machine_size" 5 ["machine"] (spSize cs))
    {f : Addr} {fd : FuncData} (F : Fun K "answer" "answer" s_answer f fd) : FnOk P w K mg base (L2.CX P w) 6 f fd ["machine", "row"] (spAnswer cs) := by
  refine F.okX sc_answer (fun vs H Q E h => ?_) (fun cdv A outer s H vs Q E hr h => ⟨_, (pss_cons (ps_if (pt_not (pt_val (pe_cal c_is_row hr rfl pass0 (pa_cons (pv 1) (pa_cons (pe_cal c_machine_size hr rfl (passes_call (takes_of rfl rfl rfl rfl) (fun _ _ _ _ z => z)) (pa_cons (pv 0) pa_nil)) pa_nil))))) (pss_one (ps_raiseC er.InvalidRow.errC rfl hr (takes_of rfl rfl rfl rfl) rfl (pv 1))) pss_nil)
      (pss_one ps_dead)), ?_⟩)
  · obtain ⟨x, dx, y, dy, rfl, _⟩ := h
    rfl
  · obtain ⟨x, dx, y, dy, rfl, rx, ry, sx, sy, q0, q1⟩ := h
    simp only [tSeq, tAsg, tOp, tUn, tCB, tCons, tNil, tVar, tC, rI, rI0, rU, tRet, tRetN, gName, tIfS, tTest, tIf, tB, tNot, tAnd, tOr, tAndV, tOrV, tNotV, tCmp, t2I, tLst, tTup, tCall, tCalK0, tNext, tChain, tSl, tPart, tNoPart, tPar, tDrop, gSub, gTupT, gCons, gNil, rSetL, rIxl, rIxt, rSlt, rEq, rNe, L2.start, tLc_eq, tFor_eq, iTup, iList, iRng1, iRng2, iEnumT, tYes, pts_nil,
  List.map_cons, List.map_nil, List.length_cons, List.length_nil, List.replicate_succ, List.replicate_zero, Nat.reduceAdd, Nat.reduceSub, Nat.add_zero, Nat.zero_add, List.cons_append, List.nil_append, List.append_nil, List.getElem?_cons_zero, List.getElem?_cons_succ, List.set_cons_zero, List.set_cons_succ, wipe,
  Option.some.injEq, exists_eq_left', exists_eq_left, V.int.injEq, V.bl.injEq, V.str.injEq, V.ref.injEq, HO.lst.injEq, HO.tup.injEq, List.cons.injEq, and_true, true_and, reduceCtorEq, false_or, or_false, false_and, and_false, exists_false, exists_and_left, exists_eq, and_assoc, if_true, if_false, Bool.false_eq_true, decide_eq_true_eq, upd_same, tRaiseC]
    refine size_of rx sx q0 fun n hn H1 f1 => ?_
    obtain ⟨e, q⟩ := q1 n hn
    refine ⟨y, dy, n, rfl, f1.rp ry, sy, fun H2 f2 => ⟨_, rfl, ?_⟩⟩
    rw [e, if_pos (by decide)]
    exact (q.fx (f1.trans f2)).rai
theorem ok_least (z : Z mg) (er : Er P w K mg base cs) (c_machine_size : Cal P w K mg base (L2.CX P w) "machine_size" 5 ["machine"] (spSize cs)) {f : Addr} {fd : FuncData} (F : Fun K "least_machine" "least_machine" s_least_machine f fd) :
    FnOk P w K mg base (L2.CX P w) 6 f fd ["machine"] (spOne cs) := by
  refine F.okX sc_least_machine (fun vs H Q E h => ?_) (fun cdv A outer s H vs Q E hr h => ⟨_, (pss_cons (ps_expr (pe_cal c_machine_size hr rfl (passes_call (takes_of rfl rfl rfl rfl) (fun _ _ _ _ z => z)) (pa_cons (pv 0) pa_nil)))
      (pss_one ps_dead)), ?_⟩)
  · obtain ⟨x, dx, rfl, _⟩ := h
    rfl
  · obtain ⟨x, dx, rfl, rx, sx, e, q⟩ := h
    simp only [tSeq, tAsg, tOp, tUn, tCB, tCons, tNil, tVar, tC, rI, rI0, rU, tRet, tRetN, gName, tIfS, tTest, tIf, tB, tNot, tAnd, tOr, tAndV, tOrV, tNotV, tCmp, t2I, tLst, tTup, tCall, tCalK0, tNext, tChain, tSl, tPart, tNoPart, tPar, tDrop, gSub, gTupT, gCons, gNil, rSetL, rIxl, rIxt, rSlt, rEq, rNe, L2.start, tLc_eq, tFor_eq, iTup, iList, iRng1, iRng2, iEnumT, tYes, pts_nil,
  List.map_cons, List.map_nil, List.length_cons, List.length_nil, List.replicate_succ, List.replicate_zero, Nat.reduceAdd, Nat.reduceSub, Nat.add_zero, Nat.zero_add, List.cons_append, List.nil_append, List.append_nil, List.getElem?_cons_zero, List.getElem?_cons_succ, List.set_cons_zero, List.set_cons_succ, wipe,
  Option.some.injEq, exists_eq_left', exists_eq_left, V.int.injEq, V.bl.injEq, V.str.injEq, V.ref.injEq, HO.lst.injEq, HO.tup.injEq, List.cons.injEq, and_true, true_and, reduceCtorEq, false_or, or_false, false_and, and_false, exists_false, exists_and_left, exists_eq, and_assoc, if_true, if_false, Bool.false_eq_true, decide_eq_true_eq, upd_same]
    exact size_of rx sx (fun _ => q) fun n hn => by rw [e] at hn; cases hn
theorem ok_turned (z : Z mg) (er : Er P w K mg base cs) (c_machine_size : Cal P w K mg base (L2.CX P w) "machine_size" 5 ["machine"] (spSize cs)) {f : Addr} {fd : FuncData} (F : Fun K "turned" "turned" s_turned f fd) :
    FnOk P w K mg base (L2.CX P w) 6 f fd ["machine"] (spOne cs) := by
  refine F.okX sc_turned (fun vs H Q E h => ?_) (fun cdv A outer s H vs Q E hr h => ⟨_, (pss_cons (ps_set (i := 1) sc_turned.nd rfl (.inl rfl) (pe_cal c_machine_size hr rfl (passes_call (takes_of rfl rfl rfl rfl) (fun _ _ _ _ z => z)) (pa_cons (pv 0) pa_nil)))
      (pss_cons ps_dead
      (pss_cons ps_dead
      (pss_one ps_dead)))), ?_⟩)
  · obtain ⟨x, dx, rfl, _⟩ := h
    rfl
  · obtain ⟨x, dx, rfl, rx, sx, e, q⟩ := h
    simp only [tSeq, tAsg, tOp, tUn, tCB, tCons, tNil, tVar, tC, rI, rI0, rU, tRet, tRetN, gName, tIfS, tTest, tIf, tB, tNot, tAnd, tOr, tAndV, tOrV, tNotV, tCmp, t2I, tLst, tTup, tCall, tCalK0, tNext, tChain, tSl, tPart, tNoPart, tPar, tDrop, gSub, gTupT, gCons, gNil, rSetL, rIxl, rIxt, rSlt, rEq, rNe, L2.start, tLc_eq, tFor_eq, iTup, iList, iRng1, iRng2, iEnumT, tYes, pts_nil,
  List.map_cons, List.map_nil, List.length_cons, List.length_nil, List.replicate_succ, List.replicate_zero, Nat.reduceAdd, Nat.reduceSub, Nat.add_zero, Nat.zero_add, List.cons_append, List.nil_append, List.append_nil, List.getElem?_cons_zero, List.getElem?_cons_succ, List.set_cons_zero, List.set_cons_succ, wipe,
  Option.some.injEq, exists_eq_left', exists_eq_left, V.int.injEq, V.bl.injEq, V.str.injEq, V.ref.injEq, HO.lst.injEq, HO.tup.injEq, List.cons.injEq, and_true, true_and, reduceCtorEq, false_or, or_false, false_and, and_false, exists_false, exists_and_left, exists_eq, and_assoc, if_true, if_false, Bool.false_eq_true, decide_eq_true_eq, upd_same]
    exact size_of rx sx (fun _ => q) fun n hn => by rw [e] at hn; cases hn
theorem ok_parted (z : Z mg) (er : Er P w K mg base cs) (c_check_machine : Cal P w K mg base (L2.CX P w) "check_machine" 4 ["thing", "size"] (spCheck cs)) (c_machine_size : Cal P w K mg base (L2.CX P w) "machine_size" 5 ["machine"] (spSize cs))
    {f : Addr} {fd : FuncData} (F : Fun K "machines_parted" "machines_parted" s_machines_parted f fd) : FnOk P w K mg base (L2.CX P w) 6 f fd ["one", "other"] (spParted cs) := by
  refine F.okX sc_machines_parted (fun vs H Q E h => ?_) (fun cdv A outer s H vs Q E hr h => ⟨_, (pss_cons (ps_set (i := 2) sc_machines_parted.nd rfl (.inl rfl) (pe_cal c_machine_size hr rfl (passes_call (takes_of rfl rfl rfl rfl) (fun _ _ _ _ z => z)) (pa_cons (pv 0) pa_nil)))
      (pss_cons (ps_if (pt_cmpR op_notN (pe_cal c_check_machine hr rfl (passes_call (takes_of rfl rfl rfl rfl) (fun _ _ _ _ z => z)) (pa_cons (pv 1) (pa_cons (pv 2) pa_nil))) pe_non (nomark _)) (pss_one (ps_raiseC er.InvalidMachine.errC rfl hr (takes_of rfl rfl rfl rfl) rfl (pv 1))) pss_nil)
      (pss_cons ps_dead
      (pss_cons ps_dead
      (pss_cons ps_dead
      (pss_cons ps_dead
      (pss_one ps_dead))))))), ?_⟩)
  · obtain ⟨x, dx, y, dy, rfl, _⟩ := h
    rfl
  · obtain ⟨x, dx, y, dy, rfl, rx, ry, sx, q0, q1⟩ := h
    simp only [tSeq, tAsg, tOp, tUn, tCB, tCons, tNil, tVar, tC, rI, rI0, rU, tRet, tRetN, gName, tIfS, tTest, tIf, tB, tNot, tAnd, tOr, tAndV, tOrV, tNotV, tCmp, t2I, tLst, tTup, tCall, tCalK0, tNext, tChain, tSl, tPart, tNoPart, tPar, tDrop, gSub, gTupT, gCons, gNil, rSetL, rIxl, rIxt, rSlt, rEq, rNe, L2.start, tLc_eq, tFor_eq, iTup, iList, iRng1, iRng2, iEnumT, tYes, pts_nil,
  List.map_cons, List.map_nil, List.length_cons, List.length_nil, List.replicate_succ, List.replicate_zero, Nat.reduceAdd, Nat.reduceSub, Nat.add_zero, Nat.zero_add, List.cons_append, List.nil_append, List.append_nil, List.getElem?_cons_zero, List.getElem?_cons_succ, List.set_cons_zero, List.set_cons_succ, wipe,
  Option.some.injEq, exists_eq_left', exists_eq_left, V.int.injEq, V.bl.injEq, V.str.injEq, V.ref.injEq, HO.lst.injEq, HO.tup.injEq, List.cons.injEq, and_true, true_and, reduceCtorEq, false_or, or_false, false_and, and_false, exists_false, exists_and_left, exists_eq, and_assoc, if_true, if_false, Bool.false_eq_true, decide_eq_true_eq, upd_same, tRaiseC]
    refine size_of rx sx q0 fun n hn H1 f1 => ?_
    obtain ⟨sy, e, q⟩ := q1 n hn
    obtain ⟨n0, n4⟩ := sizeD_le hn
    refine ⟨y, dy, .int n, .int n, rfl, f1.rp ry, .int _, fun hI => ?_, fun s hs s0 s1 => ⟨sy, fun u H4 f4 ru => ?_⟩⟩
    · have : isInteger (.int n) 1 4 = true := by
        show (decide ((1 : Int) ≤ n) && decide ((n : Int) ≤ 4)) = true
        rw [decide_eq_true (by omega), decide_eq_true (by omega)]
        rfl
      rw [this] at hI
      cases hI
    · have hs' : s = n := by
        have := LT.D.int.inj hs
        omega
      subst hs'
      have nn := rp_non ru e
      show if (!decide (u = V.non)) = true then _ else _
      rw [decide_eq_false nn, if_pos (by decide)]
      exact ((q.fx f1).fx f4).rai
theorem ok_mapped (z : Z mg) (er : Er P w K mg base cs) (c_is_row : Cal P w K mg base CX0 "is_row" 2 ["thing", "size"] spIsRow) (c_machine_size : Cal P w K mg base (L2.CX P w) "machine_size" 5 ["machine"] (spSize cs))
    {f : Addr} {fd : FuncData} (F : Fun K "mapped" "mapped" s_mapped f fd) : FnOk P w K mg base (L2.CX P w) 6 f fd ["machine", "mapping"] (spMapped cs) := by
  refine F.okX sc_mapped (fun vs H Q E h => ?_) (fun cdv A outer s H vs Q E hr h => ⟨_, (pss_cons (ps_set (i := 2) sc_mapped.nd rfl (.inl rfl) (pe_cal c_machine_size hr rfl (passes_call (takes_of rfl rfl rfl rfl) (fun _ _ _ _ z => z)) (pa_cons (pv 0) pa_nil)))
      (pss_cons (ps_if (PW.pt (pw_or (pt_not (pt_val (pe_cal c_is_row hr rfl pass0 (pa_cons (pv 1) (pa_cons (pv 2) pa_nil))))) (pw_or1 (pt_not (pt_chain op_le op_le pe_int (pe_callB call_lenT (by rfl) z.len (by decide +kernel) (pa_cons (pv 1) pa_nil)) pe_int))))) (pss_one (ps_raiseC er.InvalidMap.errC rfl hr (takes_of rfl rfl rfl rfl) rfl (pv 1))) pss_nil)
      (pss_cons ps_dead
      (pss_one ps_dead)))), ?_⟩)
  · obtain ⟨x, dx, y, dy, rfl, _⟩ := h
    rfl
  · obtain ⟨x, dx, y, dy, rfl, rx, ry, sx, sy, q0, q1⟩ := h
    simp only [tSeq, tAsg, tOp, tUn, tCB, tCons, tNil, tVar, tC, rI, rI0, rU, tRet, tRetN, gName, tIfS, tTest, tIf, tB, tNot, tAnd, tOr, tAndV, tOrV, tNotV, tCmp, t2I, tLst, tTup, tCall, tCalK0, tNext, tChain, tSl, tPart, tNoPart, tPar, tDrop, gSub, gTupT, gCons, gNil, rSetL, rIxl, rIxt, rSlt, rEq, rNe, L2.start, tLc_eq, tFor_eq, iTup, iList, iRng1, iRng2, iEnumT, tYes, pts_nil,
  List.map_cons, List.map_nil, List.length_cons, List.length_nil, List.replicate_succ, List.replicate_zero, Nat.reduceAdd, Nat.reduceSub, Nat.add_zero, Nat.zero_add, List.cons_append, List.nil_append, List.append_nil, List.getElem?_cons_zero, List.getElem?_cons_succ, List.set_cons_zero, List.set_cons_succ, wipe,
  Option.some.injEq, exists_eq_left', exists_eq_left, V.int.injEq, V.bl.injEq, V.str.injEq, V.ref.injEq, HO.lst.injEq, HO.tup.injEq, List.cons.injEq, and_true, true_and, reduceCtorEq, false_or, or_false, false_and, and_false, exists_false, exists_and_left, exists_eq, and_assoc, if_true, if_false, Bool.false_eq_true, decide_eq_true_eq, upd_same, tRaiseC]
    refine size_of rx sx q0 fun n hn H1 f1 => ?_
    obtain ⟨e, q⟩ := q1 n hn
    refine ⟨y, dy, n, rfl, f1.rp ry, sy, fun H2 f2 => ⟨_, rfl, ?_⟩⟩
    have fin := (q.fx (f1.trans f2)).rai (K := K)
    cases hR : isRow dy n with
    | false =>
      rw [if_pos (by decide)]
      exact fin
    | true =>
      rw [if_neg (by decide)]
      cases dy with
      | tup es =>
        obtain ⟨a, zs, rfl, ez, rz⟩ := (f2.rp (f1.rp ry)).tup_inv
        have hl := rz.len
        refine ⟨a, rfl, zs, ez, ?_⟩
        have e2 : (decide (1 ≤ es.length) && decide (es.length ≤ 4)) = false := by
          have : (isRow (.tup es) n && (decide (1 ≤ es.length) && decide (es.length ≤ 4))) = false := e
          rw [hR] at this
          exact this
        by_cases h1 : 1 ≤ zs.length
        · rw [if_pos (by omega)]
          rw [hl] at h1
          rw [decide_eq_true h1, Bool.true_and] at e2
          have h4 := of_decide_eq_false e2
          rw [if_pos (by rw [decide_eq_false (by omega)]; rfl)]
          exact fin
        · rw [if_neg (by omega), if_pos (by decide)]
          exact fin
      | _ => cases hR
end
end K02
namespace K02
open PySem PySem.Spec PyProof.Rows L2 LT
section
variable {P : Program} {w : World} {K : PySem.W.Frag} {mg : Str → Option Value} {base : Heap} {cs : Nat → Addr}
/-- what is asked, and what the error tells: the word, the first or the second argument -/
inductive Ask : Int → LT.D → LT.D → Str → Bool → Prop
  | m0 {w : Int} {dx dy : LT.D} : 0 ≤ w → w ≤ 4 → sizeD dx = none → short2 dx → short dy → Ask w dx dy "machine" true
  | row {dx dy : LT.D} {n : Nat} : sizeD dx = some n → isRow dy n = false → short2 dx → short dy → Ask 0 dx dy "row" false
  | m2 {dx dy : LT.D} {n : Nat} : sizeD dx = some n → isNon (checkD dy n) = false → short2 dx → short2 dy → Ask 2 dx dy "machine" false
  | map {dx dy : LT.D} {n : Nat} : sizeD dx = some n → mapOk dy n = false → short2 dx → short dy → Ask 3 dx dy "map" false
  | size {dx dy : LT.D} : isInteger dy 1 4 = false → Ask 5 dx dy "size" false
inductive Res : Nat → Str → Str → Prop
  | m : Res 1 "thing" "machine"
  | r : Res 2 "thing" "row"
  | p : Res 3 "thing" "map"
  | s : Res 0 "size" "size"
theorem seq_set {u : TS} {Dn : Ends} {σ : L2.St} {H : Hp} {v : V} {k : Nat} (h : u Dn (σ.set k (some v)) H) : tSeq (tAsg (tC v) (gName k)) u Dn σ H := h
theorem seq_any {t u : TS} {Dn : Ends} {σ : L2.St} {H : Hp} (R : L2.St → Hp → Prop) (h : ∀ σ' H', R σ' H' → u Dn σ' H') (F : ∀ rest : L2.St → Hp → Prop, (∀ σ' H', R σ' H' → rest σ' H') → t { Dn with nx := rest } σ H) : tSeq t u Dn σ H := F (u Dn) h
theorem keepE {C c : Addr} {i k : Nat} {dn : Ends} {σ : L2.St} {f : Str} {v : V} {H : Hp} (hx : PySem.W.exmOne K (.ref C) (.ref c) = some true)
    (h : ∀ a H', Fx [] H H' → IsEx H' C a [(f, v)] → dn.nx (((σ.set i (some (.ref a))).set k (some (.ref a))).set i none) H') : EOut C f v H (fun cls d H' => wKeep K (.ref c) i k (fun _ _ _ _ => False) dn cls d σ H') := by
  intro d H' fx e
  refine ⟨true, hx, fun _ a ha => h a _ (fx.trans (Fx.new _ ha)) (.kept upd_same ?_), fun z => nomatch z⟩
  rw [upd_ne (ne_of_none e ha)]
  exact e
def spAsked : Sp := fun vs H Q _ => ∃ way x dx y dy word b, vs = [.int way, x, y] ∧ Rp H x dx ∧ Rp H y dy ∧ Ask way dx dy word b ∧ ∀ p H', H p = none → Fx [] H H' → H' p = some (.lst [.str word, if b = true then x else y]) → Q (.ref p) H'
theorem ok_asked (z : Z mg) (er : Er P w K mg base cs) (c_answer : Cal P w K mg base (L2.CX P w) "answer" 6 ["machine", "row"] (spAnswer cs)) (k_least_machine : CalK P w K mg base (L2.CX P w) "least_machine" 6 ["machine"] ["machine"] (fun zs => zs) (spOne cs))
    (c_machines_parted : Cal P w K mg base (L2.CX P w) "machines_parted" 6 ["one", "other"] (spParted cs)) (c_mapped : Cal P w K mg base (L2.CX P w) "mapped" 6 ["machine", "mapping"] (spMapped cs)) (c_turned : Cal P w K mg base (L2.CX P w) "turned" 6 ["machine"] (spOne cs))
    (c_check_machine : Cal P w K mg base (L2.CX P w) "check_machine" 4 ["thing", "size"] (spCheck cs)) {f : Addr} {fd : FuncData} (F : Fun K "_law_asked" "_law_asked" s__law_asked f fd) : FnOk P w K mg base CX0 7 f fd ["_law_way", "_law_one", "_law_two"] spAsked := by
  refine F.ok sc__law_asked (fun vs H Q E h => ?_) (fun cdv A outer s H vs Q E hr h => ⟨_, (pss_cons (ps_set (i := 3) sc__law_asked.nd rfl (.inl rfl) pe_non)
      (pss_cons (ps_try_keep (x := "LazyError") (n := "caught") (y := "_law_error") (c := .ref (cs 4)) (i := 4) (k := 3) (Wout := fun _ _ _ _ => False) rfl rfl sc__law_asked.nd rfl rfl rfl rfl (by decide) rfl ⟨rfl, by decide, .inl er.g_LazyError⟩ takes0 (fun W pn xe tk _ => (pss_one (ps_if (pt_cmpR op_eq (pv 0) pe_int (nomark _)) (pss_one (ps_expr (pe_calS c_answer hr rfl (fun σ => passAt tk σ) (pa_cons (pv 1) (pa_cons (pv 2) pa_nil))))) (pss_one (ps_if (pt_cmpR op_eq (pv 0) pe_int (nomark _)) (pss_one (ps_expr (pe_calKS k_least_machine hr rfl (fun σ => passAt tk σ) (pk_cons (pv 1) pk_nil)))) (pss_one (ps_if (pt_cmpR op_eq (pv 0) pe_int (nomark _)) (pss_one (ps_expr (pe_calS c_machines_parted hr rfl (fun σ => passAt tk σ) (pa_cons (pv 1) (pa_cons (pv 2) pa_nil))))) (pss_one (ps_if (pt_cmpR op_eq (pv 0) pe_int (nomark _)) (pss_one (ps_expr (pe_calS c_mapped hr rfl (fun σ => passAt tk σ) (pa_cons (pv 1) (pa_cons (pv 2) pa_nil))))) (pss_one (ps_if (pt_cmpR op_eq (pv 0) pe_int (nomark _)) (pss_one (ps_expr (pe_calS c_turned hr rfl (fun σ => passAt tk σ) (pa_cons (pv 1) pa_nil)))) (pss_one (ps_expr (pe_calS c_check_machine hr rfl (fun σ => passAt tk σ) (pa_cons (pv 1) (pa_cons (pv 2) pa_nil)))))))))))))))))
      (pss_cons (ps_if (pt_val (pe_callB (call_isF K rfl) (by rfl) z.isinstance (by decide +kernel) (pa_cons (pv 3) (pa_cons (pe_glob (v := .ref (cs 1)) rfl er.InvalidMachine.gl rfl) pa_nil)))) (pss_one (ps_ret (pe_lst (pa_cons pe_str (pa_cons (pe_exf (pv 3)) pa_nil))))) pss_nil)
      (pss_cons (ps_if (pt_val (pe_callB (call_isF K rfl) (by rfl) z.isinstance (by decide +kernel) (pa_cons (pv 3) (pa_cons (pe_glob (v := .ref (cs 2)) rfl er.InvalidRow.gl rfl) pa_nil)))) (pss_one (ps_ret (pe_lst (pa_cons pe_str (pa_cons (pe_exf (pv 3)) pa_nil))))) pss_nil)
      (pss_cons (ps_if (pt_val (pe_callB (call_isF K rfl) (by rfl) z.isinstance (by decide +kernel) (pa_cons (pv 3) (pa_cons (pe_glob (v := .ref (cs 3)) rfl er.InvalidMap.gl rfl) pa_nil)))) (pss_one (ps_ret (pe_lst (pa_cons pe_str (pa_cons (pe_exf (pv 3)) pa_nil))))) pss_nil)
      (pss_cons (ps_if (pt_val (pe_callB (call_isF K rfl) (by rfl) z.isinstance (by decide +kernel) (pa_cons (pv 3) (pa_cons (pe_glob (v := .ref (cs 0)) rfl er.InvalidSize.gl rfl) pa_nil)))) (pss_one (ps_ret (pe_lst (pa_cons pe_str (pa_cons (pe_exf (pv 3)) pa_nil))))) pss_nil)
      (pss_one (ps_ret (pe_lst (pa_cons pe_str (pa_cons (pe_cmpR op_isN (pv 3) pe_non (nomark _)) pa_nil))))))))))), ?_⟩)
  · obtain ⟨way, x, dx, y, dy, word, b, rfl, _⟩ := h
    rfl
  · obtain ⟨way, x, dx, y, dy, word, b, rfl, rx, ry, ak, q⟩ := h
    generalize hres : (if b = true then x else y) = res at q
    refine seq_set ?_
    refine seq_any (fun σ' H' => ∃ a i fl, Res i fl word ∧ σ' = [some (.int way), some x, some y, some (.ref a), none] ∧ Fx [] H H' ∧ IsEx H' (cs i) a [(fl, res)]) (fun σ' H1 h => ?_) fun rest hrest => ?_
    · obtain ⟨a, i, fl, hR, rfl, fx, ie⟩ := h
      have out : ∀ H2 p, Fx [] H1 H2 → H2 p = none → Q (.ref p) (upd H2 p (.lst [.str word, res])) := fun H2 p f2 hp => q p _ ((fx.trans f2).fresh hp) ((fx.trans f2).trans (Fx.new _ hp)) upd_same
      simp only [tSeq, tAsg, tOp, tUn, tCB, tCons, tNil, tVar, tC, rI, rI0, rU, tRet, tRetN, gName, tIfS, tTest, tIf, tB, tNot, tAnd, tOr, tAndV, tOrV, tNotV, tCmp, t2I, tLst, tTup, tCall, tCalK0, tNext, tChain, tSl, tPart, tNoPart, tPar, tDrop, gSub, gTupT, gCons, gNil, rSetL, rIxl, rIxt, rSlt, rEq, rNe, L2.start, tLc_eq, tFor_eq, iTup, iList, iRng1, iRng2, iEnumT, tYes, pts_nil,
  List.map_cons, List.map_nil, List.length_cons, List.length_nil, List.replicate_succ, List.replicate_zero, Nat.reduceAdd, Nat.reduceSub, Nat.add_zero, Nat.zero_add, List.cons_append, List.nil_append, List.append_nil, List.getElem?_cons_zero, List.getElem?_cons_succ, List.set_cons_zero, List.set_cons_succ, wipe,
  Option.some.injEq, exists_eq_left', exists_eq_left, V.int.injEq, V.bl.injEq, V.str.injEq, V.ref.injEq, HO.lst.injEq, HO.tup.injEq, List.cons.injEq, and_true, true_and, reduceCtorEq, false_or, or_false, false_and, and_false, exists_false, exists_and_left, exists_eq, and_assoc, if_true, if_false, Bool.false_eq_true, decide_eq_true_eq, upd_same]
      cases hR with
      | m =>
        refine is_err ie (er.exc 1 (by omega)) (.own _) (er.tab 1 1 (by omega) (by omega)) ⟨_, rfl, ?_⟩
        rw [if_pos (by decide)]
        refine ⟨_, rfl, cs 1, a, _, res, rfl, ie, rfl, er.InvalidMachine.xf, er.InvalidMachine.nf, ?_⟩
        exact ⟨by decide, fun p hp => out _ p (Fx.refl _ _) hp⟩
      | r =>
        refine is_err ie (er.exc 2 (by omega)) (.own _) (er.tab 2 1 (by omega) (by omega)) ⟨_, rfl, ?_⟩
        rw [if_neg (by decide)]
        refine is_err ie (er.exc 2 (by omega)) (.own _) (er.tab 2 2 (by omega) (by omega)) ⟨_, rfl, ?_⟩
        rw [if_pos (by decide)]
        refine ⟨_, rfl, cs 2, a, _, res, rfl, ie, rfl, er.InvalidRow.xf, er.InvalidRow.nf, ?_⟩
        exact ⟨by decide, fun p hp => out _ p (Fx.refl _ _) hp⟩
      | p =>
        refine is_err ie (er.exc 3 (by omega)) (.own _) (er.tab 3 1 (by omega) (by omega)) ⟨_, rfl, ?_⟩
        rw [if_neg (by decide)]
        refine is_err ie (er.exc 3 (by omega)) (.own _) (er.tab 3 2 (by omega) (by omega)) ⟨_, rfl, ?_⟩
        rw [if_neg (by decide)]
        refine is_err ie (er.exc 3 (by omega)) (.own _) (er.tab 3 3 (by omega) (by omega)) ⟨_, rfl, ?_⟩
        rw [if_pos (by decide)]
        refine ⟨_, rfl, cs 3, a, _, res, rfl, ie, rfl, er.InvalidMap.xf, er.InvalidMap.nf, ?_⟩
        exact ⟨by decide, fun p hp => out _ p (Fx.refl _ _) hp⟩
      | s =>
        refine is_err ie (er.exc 0 (by omega)) (.own _) (er.tab 0 1 (by omega) (by omega)) ⟨_, rfl, ?_⟩
        rw [if_neg (by decide)]
        refine is_err ie (er.exc 0 (by omega)) (.own _) (er.tab 0 2 (by omega) (by omega)) ⟨_, rfl, ?_⟩
        rw [if_neg (by decide)]
        refine is_err ie (er.exc 0 (by omega)) (.own _) (er.tab 0 3 (by omega) (by omega)) ⟨_, rfl, ?_⟩
        rw [if_neg (by decide)]
        refine is_err ie (er.exc 0 (by omega)) (.own _) (er.tab 0 0 (by omega) (by omega)) ⟨_, rfl, ?_⟩
        rw [if_pos (by decide)]
        refine ⟨_, rfl, cs 0, a, _, res, rfl, ie, rfl, er.InvalidSize.xf, er.InvalidSize.nf, ?_⟩
        exact ⟨by decide, fun p hp => out _ p (Fx.refl _ _) hp⟩
    · have go : ∀ (i : Nat) (fl : Str) (dn : Ends), i < 4 → Res i fl word → dn.nx = rest → EOut (cs i) fl res H (fun cls d H' => wKeep K (.ref (cs 4)) 4 3 (fun _ _ _ _ => False) dn cls d [some (.int way), some x, some y, some .non, none] H') := by
        intro i fl dn hi hR hd
        exact keepE (er.exm i hi) fun a H' fx ie => by
          rw [hd]
          exact hrest _ _ ⟨a, i, fl, hR, rfl, fx, ie⟩
      cases ak with
      | m0 w0 w4 hz sx sy =>
        cases hres
        have : way = 0 ∨ way = 1 ∨ way = 2 ∨ way = 3 ∨ way = 4 := by omega
        rcases this with rfl | rfl | rfl | rfl | rfl
        · simp only [tSeq, tAsg, tOp, tUn, tCB, tCons, tNil, tVar, tC, rI, rI0, rU, tRet, tRetN, gName, tIfS, tTest, tIf, tB, tNot, tAnd, tOr, tAndV, tOrV, tNotV, tCmp, t2I, tLst, tTup, tCall, tCalK0, tNext, tChain, tSl, tPart, tNoPart, tPar, tDrop, gSub, gTupT, gCons, gNil, rSetL, rIxl, rIxt, rSlt, rEq, rNe, L2.start, tLc_eq, tFor_eq, iTup, iList, iRng1, iRng2, iEnumT, tYes, pts_nil,
  List.map_cons, List.map_nil, List.length_cons, List.length_nil, List.replicate_succ, List.replicate_zero, Nat.reduceAdd, Nat.reduceSub, Nat.add_zero, Nat.zero_add, List.cons_append, List.nil_append, List.append_nil, List.getElem?_cons_zero, List.getElem?_cons_succ, List.set_cons_zero, List.set_cons_succ, wipe,
  Option.some.injEq, exists_eq_left', exists_eq_left, V.int.injEq, V.bl.injEq, V.str.injEq, V.ref.injEq, HO.lst.injEq, HO.tup.injEq, List.cons.injEq, and_true, true_and, reduceCtorEq, false_or, or_false, false_and, and_false, exists_false, exists_and_left, exists_eq, and_assoc, if_true, if_false, Bool.false_eq_true, decide_eq_true_eq, upd_same, WE, tCallS, tCalKS]
          refine ⟨rfl, x, dx, y, dy, rfl, rx, ry, sx, sy, fun _ => go 1 "thing" _ (by omega) .m rfl, fun n hn => ?_⟩
          rw [hz] at hn
          cases hn
        · simp only [tSeq, tAsg, tOp, tUn, tCB, tCons, tNil, tVar, tC, rI, rI0, rU, tRet, tRetN, gName, tIfS, tTest, tIf, tB, tNot, tAnd, tOr, tAndV, tOrV, tNotV, tCmp, t2I, tLst, tTup, tCall, tCalK0, tNext, tChain, tSl, tPart, tNoPart, tPar, tDrop, gSub, gTupT, gCons, gNil, rSetL, rIxl, rIxt, rSlt, rEq, rNe, L2.start, tLc_eq, tFor_eq, iTup, iList, iRng1, iRng2, iEnumT, tYes, pts_nil,
  List.map_cons, List.map_nil, List.length_cons, List.length_nil, List.replicate_succ, List.replicate_zero, Nat.reduceAdd, Nat.reduceSub, Nat.add_zero, Nat.zero_add, List.cons_append, List.nil_append, List.append_nil, List.getElem?_cons_zero, List.getElem?_cons_succ, List.set_cons_zero, List.set_cons_succ, wipe,
  Option.some.injEq, exists_eq_left', exists_eq_left, V.int.injEq, V.bl.injEq, V.str.injEq, V.ref.injEq, HO.lst.injEq, HO.tup.injEq, List.cons.injEq, and_true, true_and, reduceCtorEq, false_or, or_false, false_and, and_false, exists_false, exists_and_left, exists_eq, and_assoc, if_true, if_false, Bool.false_eq_true, decide_eq_true_eq, upd_same, WE, tCallS, tCalKS]
          exact ⟨rfl, rfl, x, dx, rfl, rx, sx, hz, go 1 "thing" _ (by omega) .m rfl⟩
        · simp only [tSeq, tAsg, tOp, tUn, tCB, tCons, tNil, tVar, tC, rI, rI0, rU, tRet, tRetN, gName, tIfS, tTest, tIf, tB, tNot, tAnd, tOr, tAndV, tOrV, tNotV, tCmp, t2I, tLst, tTup, tCall, tCalK0, tNext, tChain, tSl, tPart, tNoPart, tPar, tDrop, gSub, gTupT, gCons, gNil, rSetL, rIxl, rIxt, rSlt, rEq, rNe, L2.start, tLc_eq, tFor_eq, iTup, iList, iRng1, iRng2, iEnumT, tYes, pts_nil,
  List.map_cons, List.map_nil, List.length_cons, List.length_nil, List.replicate_succ, List.replicate_zero, Nat.reduceAdd, Nat.reduceSub, Nat.add_zero, Nat.zero_add, List.cons_append, List.nil_append, List.append_nil, List.getElem?_cons_zero, List.getElem?_cons_succ, List.set_cons_zero, List.set_cons_succ, wipe,
  Option.some.injEq, exists_eq_left', exists_eq_left, V.int.injEq, V.bl.injEq, V.str.injEq, V.ref.injEq, HO.lst.injEq, HO.tup.injEq, List.cons.injEq, and_true, true_and, reduceCtorEq, false_or, or_false, false_and, and_false, exists_false, exists_and_left, exists_eq, and_assoc, if_true, if_false, Bool.false_eq_true, decide_eq_true_eq, upd_same, WE, tCallS, tCalKS]
          refine ⟨rfl, rfl, rfl, x, dx, y, dy, rfl, rx, ry, sx, fun _ => go 1 "thing" _ (by omega) .m rfl, fun n hn => ?_⟩
          rw [hz] at hn
          cases hn
        · simp only [tSeq, tAsg, tOp, tUn, tCB, tCons, tNil, tVar, tC, rI, rI0, rU, tRet, tRetN, gName, tIfS, tTest, tIf, tB, tNot, tAnd, tOr, tAndV, tOrV, tNotV, tCmp, t2I, tLst, tTup, tCall, tCalK0, tNext, tChain, tSl, tPart, tNoPart, tPar, tDrop, gSub, gTupT, gCons, gNil, rSetL, rIxl, rIxt, rSlt, rEq, rNe, L2.start, tLc_eq, tFor_eq, iTup, iList, iRng1, iRng2, iEnumT, tYes, pts_nil,
  List.map_cons, List.map_nil, List.length_cons, List.length_nil, List.replicate_succ, List.replicate_zero, Nat.reduceAdd, Nat.reduceSub, Nat.add_zero, Nat.zero_add, List.cons_append, List.nil_append, List.append_nil, List.getElem?_cons_zero, List.getElem?_cons_succ, List.set_cons_zero, List.set_cons_succ, wipe,
  Option.some.injEq, exists_eq_left', exists_eq_left, V.int.injEq, V.bl.injEq, V.str.injEq, V.ref.injEq, HO.lst.injEq, HO.tup.injEq, List.cons.injEq, and_true, true_and, reduceCtorEq, false_or, or_false, false_and, and_false, exists_false, exists_and_left, exists_eq, and_assoc, if_true, if_false, Bool.false_eq_true, decide_eq_true_eq, upd_same, WE, tCallS, tCalKS]
          refine ⟨rfl, rfl, rfl, rfl, x, dx, y, dy, rfl, rx, ry, sx, sy, fun _ => go 1 "thing" _ (by omega) .m rfl, fun n hn => ?_⟩
          rw [hz] at hn
          cases hn
        · simp only [tSeq, tAsg, tOp, tUn, tCB, tCons, tNil, tVar, tC, rI, rI0, rU, tRet, tRetN, gName, tIfS, tTest, tIf, tB, tNot, tAnd, tOr, tAndV, tOrV, tNotV, tCmp, t2I, tLst, tTup, tCall, tCalK0, tNext, tChain, tSl, tPart, tNoPart, tPar, tDrop, gSub, gTupT, gCons, gNil, rSetL, rIxl, rIxt, rSlt, rEq, rNe, L2.start, tLc_eq, tFor_eq, iTup, iList, iRng1, iRng2, iEnumT, tYes, pts_nil,
  List.map_cons, List.map_nil, List.length_cons, List.length_nil, List.replicate_succ, List.replicate_zero, Nat.reduceAdd, Nat.reduceSub, Nat.add_zero, Nat.zero_add, List.cons_append, List.nil_append, List.append_nil, List.getElem?_cons_zero, List.getElem?_cons_succ, List.set_cons_zero, List.set_cons_succ, wipe,
  Option.some.injEq, exists_eq_left', exists_eq_left, V.int.injEq, V.bl.injEq, V.str.injEq, V.ref.injEq, HO.lst.injEq, HO.tup.injEq, List.cons.injEq, and_true, true_and, reduceCtorEq, false_or, or_false, false_and, and_false, exists_false, exists_and_left, exists_eq, and_assoc, if_true, if_false, Bool.false_eq_true, decide_eq_true_eq, upd_same, WE, tCallS, tCalKS]
          exact ⟨rfl, rfl, rfl, rfl, rfl, x, dx, rfl, rx, sx, hz, go 1 "thing" _ (by omega) .m rfl⟩
      | row hn hR sx sy =>
        cases hres
        simp only [tSeq, tAsg, tOp, tUn, tCB, tCons, tNil, tVar, tC, rI, rI0, rU, tRet, tRetN, gName, tIfS, tTest, tIf, tB, tNot, tAnd, tOr, tAndV, tOrV, tNotV, tCmp, t2I, tLst, tTup, tCall, tCalK0, tNext, tChain, tSl, tPart, tNoPart, tPar, tDrop, gSub, gTupT, gCons, gNil, rSetL, rIxl, rIxt, rSlt, rEq, rNe, L2.start, tLc_eq, tFor_eq, iTup, iList, iRng1, iRng2, iEnumT, tYes, pts_nil,
  List.map_cons, List.map_nil, List.length_cons, List.length_nil, List.replicate_succ, List.replicate_zero, Nat.reduceAdd, Nat.reduceSub, Nat.add_zero, Nat.zero_add, List.cons_append, List.nil_append, List.append_nil, List.getElem?_cons_zero, List.getElem?_cons_succ, List.set_cons_zero, List.set_cons_succ, wipe,
  Option.some.injEq, exists_eq_left', exists_eq_left, V.int.injEq, V.bl.injEq, V.str.injEq, V.ref.injEq, HO.lst.injEq, HO.tup.injEq, List.cons.injEq, and_true, true_and, reduceCtorEq, false_or, or_false, false_and, and_false, exists_false, exists_and_left, exists_eq, and_assoc, if_true, if_false, Bool.false_eq_true, decide_eq_true_eq, upd_same, WE, tCallS, tCalKS]
        refine ⟨rfl, x, dx, y, dy, rfl, rx, ry, sx, sy, fun hz => ?_, fun m hm => ?_⟩
        · rw [hn] at hz
          cases hz
        · rw [hn] at hm
          cases hm
          exact ⟨hR, go 2 "thing" _ (by omega) .r rfl⟩
      | m2 hn hR sx sy =>
        cases hres
        simp only [tSeq, tAsg, tOp, tUn, tCB, tCons, tNil, tVar, tC, rI, rI0, rU, tRet, tRetN, gName, tIfS, tTest, tIf, tB, tNot, tAnd, tOr, tAndV, tOrV, tNotV, tCmp, t2I, tLst, tTup, tCall, tCalK0, tNext, tChain, tSl, tPart, tNoPart, tPar, tDrop, gSub, gTupT, gCons, gNil, rSetL, rIxl, rIxt, rSlt, rEq, rNe, L2.start, tLc_eq, tFor_eq, iTup, iList, iRng1, iRng2, iEnumT, tYes, pts_nil,
  List.map_cons, List.map_nil, List.length_cons, List.length_nil, List.replicate_succ, List.replicate_zero, Nat.reduceAdd, Nat.reduceSub, Nat.add_zero, Nat.zero_add, List.cons_append, List.nil_append, List.append_nil, List.getElem?_cons_zero, List.getElem?_cons_succ, List.set_cons_zero, List.set_cons_succ, wipe,
  Option.some.injEq, exists_eq_left', exists_eq_left, V.int.injEq, V.bl.injEq, V.str.injEq, V.ref.injEq, HO.lst.injEq, HO.tup.injEq, List.cons.injEq, and_true, true_and, reduceCtorEq, false_or, or_false, false_and, and_false, exists_false, exists_and_left, exists_eq, and_assoc, if_true, if_false, Bool.false_eq_true, decide_eq_true_eq, upd_same, WE, tCallS, tCalKS]
        refine ⟨rfl, rfl, rfl, x, dx, y, dy, rfl, rx, ry, sx, fun hz => ?_, fun m hm => ?_⟩
        · rw [hn] at hz
          cases hz
        · rw [hn] at hm
          cases hm
          exact ⟨sy, hR, go 1 "thing" _ (by omega) .m rfl⟩
      | map hn hR sx sy =>
        cases hres
        simp only [tSeq, tAsg, tOp, tUn, tCB, tCons, tNil, tVar, tC, rI, rI0, rU, tRet, tRetN, gName, tIfS, tTest, tIf, tB, tNot, tAnd, tOr, tAndV, tOrV, tNotV, tCmp, t2I, tLst, tTup, tCall, tCalK0, tNext, tChain, tSl, tPart, tNoPart, tPar, tDrop, gSub, gTupT, gCons, gNil, rSetL, rIxl, rIxt, rSlt, rEq, rNe, L2.start, tLc_eq, tFor_eq, iTup, iList, iRng1, iRng2, iEnumT, tYes, pts_nil,
  List.map_cons, List.map_nil, List.length_cons, List.length_nil, List.replicate_succ, List.replicate_zero, Nat.reduceAdd, Nat.reduceSub, Nat.add_zero, Nat.zero_add, List.cons_append, List.nil_append, List.append_nil, List.getElem?_cons_zero, List.getElem?_cons_succ, List.set_cons_zero, List.set_cons_succ, wipe,
  Option.some.injEq, exists_eq_left', exists_eq_left, V.int.injEq, V.bl.injEq, V.str.injEq, V.ref.injEq, HO.lst.injEq, HO.tup.injEq, List.cons.injEq, and_true, true_and, reduceCtorEq, false_or, or_false, false_and, and_false, exists_false, exists_and_left, exists_eq, and_assoc, if_true, if_false, Bool.false_eq_true, decide_eq_true_eq, upd_same, WE, tCallS, tCalKS]
        refine ⟨rfl, rfl, rfl, rfl, x, dx, y, dy, rfl, rx, ry, sx, sy, fun hz => ?_, fun m hm => ?_⟩
        · rw [hn] at hz
          cases hz
        · rw [hn] at hm
          cases hm
          exact ⟨hR, go 3 "thing" _ (by omega) .p rfl⟩
      | size hI =>
        cases hres
        simp only [tSeq, tAsg, tOp, tUn, tCB, tCons, tNil, tVar, tC, rI, rI0, rU, tRet, tRetN, gName, tIfS, tTest, tIf, tB, tNot, tAnd, tOr, tAndV, tOrV, tNotV, tCmp, t2I, tLst, tTup, tCall, tCalK0, tNext, tChain, tSl, tPart, tNoPart, tPar, tDrop, gSub, gTupT, gCons, gNil, rSetL, rIxl, rIxt, rSlt, rEq, rNe, L2.start, tLc_eq, tFor_eq, iTup, iList, iRng1, iRng2, iEnumT, tYes, pts_nil,
  List.map_cons, List.map_nil, List.length_cons, List.length_nil, List.replicate_succ, List.replicate_zero, Nat.reduceAdd, Nat.reduceSub, Nat.add_zero, Nat.zero_add, List.cons_append, List.nil_append, List.append_nil, List.getElem?_cons_zero, List.getElem?_cons_succ, List.set_cons_zero, List.set_cons_succ, wipe,
  Option.some.injEq, exists_eq_left', exists_eq_left, V.int.injEq, V.bl.injEq, V.str.injEq, V.ref.injEq, HO.lst.injEq, HO.tup.injEq, List.cons.injEq, and_true, true_and, reduceCtorEq, false_or, or_false, false_and, and_false, exists_false, exists_and_left, exists_eq, and_assoc, if_true, if_false, Bool.false_eq_true, decide_eq_true_eq, upd_same, WE, tCallS, tCalKS]
        refine ⟨rfl, rfl, rfl, rfl, rfl, x, dx, y, dy, rfl, rx, ry, fun _ => go 0 "size" _ (by omega) .s rfl, fun s hs s0 s4 => ?_⟩
        subst hs
        have : isInteger (.int s) 1 4 = true := by
          show (decide ((1 : Int) ≤ s) && decide ((s : Int) ≤ 4)) = true
          rw [decide_eq_true (by omega), decide_eq_true (by omega)]
          rfl
        rw [this] at hI
        cases hI
end
end K02
namespace K02
open PySem PySem.Spec PyProof.Rows L2 LT
section
variable {P : Program} {w : World} {K : PySem.W.Frag} {mg : Str → Option Value} {base : Heap} {cs : Nat → Addr}
def spInt : Sp := fun vs H Q _ => ∃ v d m, vs = [v, .int m] ∧ Rp H v d ∧ Q (.bl (isInteger d 0 m)) H
theorem ok_int (z : Z mg) {f : Addr} {fd : FuncData} (F : Fun K "_law_int" "_law_int" s__law_int f fd) : FnOk P w K mg base CX0 1 f fd ["_law_thing", "_law_most"] spInt := by
  refine F.ok sc__law_int (fun vs H Q E h => ?_) (fun cdv A outer s H vs Q E hr h => ⟨_, (pss_one (ps_ret (pe_and (pe_callB (call_isiE K rfl) (by rfl) z.isinstance (by decide +kernel) (pa_cons (pv 0) (pa_cons (pe_bltn (v := .ty "int") (by rfl) z.int (by decide +kernel) rfl) pa_nil))) (pe_and (pe_not (pe_callB (call_isiE K rfl) (by rfl) z.isinstance (by decide +kernel) (pa_cons (pv 0) (pa_cons (pe_bltn (v := .ty "bool") (by rfl) z.bool (by decide +kernel) rfl) pa_nil)))) (pe_one (pe_chain op_le op_le pe_int (pv 0) (pv 1))))))), ?_⟩)
  · obtain ⟨v, d, m, rfl, _⟩ := h
    rfl
  · obtain ⟨v, d, m, rfl, rp, q⟩ := h
    simp only [tSeq, tAsg, tOp, tUn, tCB, tCons, tNil, tVar, tC, rI, rI0, rU, tRet, tRetN, gName, tIfS, tTest, tIf, tB, tNot, tAnd, tOr, tAndV, tOrV, tNotV, tCmp, t2I, tLst, tTup, tCall, tCalK0, tNext, tChain, tSl, tPart, tNoPart, tPar, tDrop, gSub, gTupT, gCons, gNil, rSetL, rIxl, rIxt, rSlt, rEq, rNe, L2.start, tLc_eq, tFor_eq, iTup, iList, iRng1, iRng2, iEnumT, tYes, pts_nil,
  List.map_cons, List.map_nil, List.length_cons, List.length_nil, List.replicate_succ, List.replicate_zero, Nat.reduceAdd, Nat.reduceSub, Nat.add_zero, Nat.zero_add, List.cons_append, List.nil_append, List.append_nil, List.getElem?_cons_zero, List.getElem?_cons_succ, List.set_cons_zero, List.set_cons_succ, wipe,
  Option.some.injEq, exists_eq_left', exists_eq_left, V.int.injEq, V.bl.injEq, V.str.injEq, V.ref.injEq, HO.lst.injEq, HO.tup.injEq, List.cons.injEq, and_true, true_and, reduceCtorEq, false_or, or_false, false_and, and_false, exists_false, exists_and_left, exists_eq, and_assoc, if_true, if_false, Bool.false_eq_true, decide_eq_true_eq, upd_same]
    refine isi_rp rp (by decide) ?_
    rw [isTy_int]
    refine ⟨_, rfl, ?_⟩
    cases d with
    | int i =>
      have := rp.int_inv
      subst this
      simp only [tSeq, tAsg, tOp, tUn, tCB, tCons, tNil, tVar, tC, rI, rI0, rU, tRet, tRetN, gName, tIfS, tTest, tIf, tB, tNot, tAnd, tOr, tAndV, tOrV, tNotV, tCmp, t2I, tLst, tTup, tCall, tCalK0, tNext, tChain, tSl, tPart, tNoPart, tPar, tDrop, gSub, gTupT, gCons, gNil, rSetL, rIxl, rIxt, rSlt, rEq, rNe, L2.start, tLc_eq, tFor_eq, iTup, iList, iRng1, iRng2, iEnumT, tYes, pts_nil,
  List.map_cons, List.map_nil, List.length_cons, List.length_nil, List.replicate_succ, List.replicate_zero, Nat.reduceAdd, Nat.reduceSub, Nat.add_zero, Nat.zero_add, List.cons_append, List.nil_append, List.append_nil, List.getElem?_cons_zero, List.getElem?_cons_succ, List.set_cons_zero, List.set_cons_succ, wipe,
  Option.some.injEq, exists_eq_left', exists_eq_left, V.int.injEq, V.bl.injEq, V.str.injEq, V.ref.injEq, HO.lst.injEq, HO.tup.injEq, List.cons.injEq, and_true, true_and, reduceCtorEq, false_or, or_false, false_and, and_false, exists_false, exists_and_left, exists_eq, and_assoc, if_true, if_false, Bool.false_eq_true, decide_eq_true_eq, upd_same]
      refine isi_rp rp (by decide) ?_
      simp only [tSeq, tAsg, tOp, tUn, tCB, tCons, tNil, tVar, tC, rI, rI0, rU, tRet, tRetN, gName, tIfS, tTest, tIf, tB, tNot, tAnd, tOr, tAndV, tOrV, tNotV, tCmp, t2I, tLst, tTup, tCall, tCalK0, tNext, tChain, tSl, tPart, tNoPart, tPar, tDrop, gSub, gTupT, gCons, gNil, rSetL, rIxl, rIxt, rSlt, rEq, rNe, L2.start, tLc_eq, tFor_eq, iTup, iList, iRng1, iRng2, iEnumT, tYes, pts_nil,
  List.map_cons, List.map_nil, List.length_cons, List.length_nil, List.replicate_succ, List.replicate_zero, Nat.reduceAdd, Nat.reduceSub, Nat.add_zero, Nat.zero_add, List.cons_append, List.nil_append, List.append_nil, List.getElem?_cons_zero, List.getElem?_cons_succ, List.set_cons_zero, List.set_cons_succ, wipe,
  Option.some.injEq, exists_eq_left', exists_eq_left, V.int.injEq, V.bl.injEq, V.str.injEq, V.ref.injEq, HO.lst.injEq, HO.tup.injEq, List.cons.injEq, and_true, true_and, reduceCtorEq, false_or, or_false, false_and, and_false, exists_false, exists_and_left, exists_eq, and_assoc, if_true, if_false, Bool.false_eq_true, decide_eq_true_eq, upd_same, isTy_bool]
      rw [if_pos (by rfl)]
      unfold isInteger at q
      by_cases h : 0 ≤ i
      · rw [if_pos h]
        simpa [h] using q
      · rw [if_neg h]
        simpa [h] using q
    | bl b =>
      simp only [tSeq, tAsg, tOp, tUn, tCB, tCons, tNil, tVar, tC, rI, rI0, rU, tRet, tRetN, gName, tIfS, tTest, tIf, tB, tNot, tAnd, tOr, tAndV, tOrV, tNotV, tCmp, t2I, tLst, tTup, tCall, tCalK0, tNext, tChain, tSl, tPart, tNoPart, tPar, tDrop, gSub, gTupT, gCons, gNil, rSetL, rIxl, rIxt, rSlt, rEq, rNe, L2.start, tLc_eq, tFor_eq, iTup, iList, iRng1, iRng2, iEnumT, tYes, pts_nil,
  List.map_cons, List.map_nil, List.length_cons, List.length_nil, List.replicate_succ, List.replicate_zero, Nat.reduceAdd, Nat.reduceSub, Nat.add_zero, Nat.zero_add, List.cons_append, List.nil_append, List.append_nil, List.getElem?_cons_zero, List.getElem?_cons_succ, List.set_cons_zero, List.set_cons_succ, wipe,
  Option.some.injEq, exists_eq_left', exists_eq_left, V.int.injEq, V.bl.injEq, V.str.injEq, V.ref.injEq, HO.lst.injEq, HO.tup.injEq, List.cons.injEq, and_true, true_and, reduceCtorEq, false_or, or_false, false_and, and_false, exists_false, exists_and_left, exists_eq, and_assoc, if_true, if_false, Bool.false_eq_true, decide_eq_true_eq, upd_same]
      refine isi_rp rp (by decide) ?_
      simp only [tSeq, tAsg, tOp, tUn, tCB, tCons, tNil, tVar, tC, rI, rI0, rU, tRet, tRetN, gName, tIfS, tTest, tIf, tB, tNot, tAnd, tOr, tAndV, tOrV, tNotV, tCmp, t2I, tLst, tTup, tCall, tCalK0, tNext, tChain, tSl, tPart, tNoPart, tPar, tDrop, gSub, gTupT, gCons, gNil, rSetL, rIxl, rIxt, rSlt, rEq, rNe, L2.start, tLc_eq, tFor_eq, iTup, iList, iRng1, iRng2, iEnumT, tYes, pts_nil,
  List.map_cons, List.map_nil, List.length_cons, List.length_nil, List.replicate_succ, List.replicate_zero, Nat.reduceAdd, Nat.reduceSub, Nat.add_zero, Nat.zero_add, List.cons_append, List.nil_append, List.append_nil, List.getElem?_cons_zero, List.getElem?_cons_succ, List.set_cons_zero, List.set_cons_succ, wipe,
  Option.some.injEq, exists_eq_left', exists_eq_left, V.int.injEq, V.bl.injEq, V.str.injEq, V.ref.injEq, HO.lst.injEq, HO.tup.injEq, List.cons.injEq, and_true, true_and, reduceCtorEq, false_or, or_false, false_and, and_false, exists_false, exists_and_left, exists_eq, and_assoc, if_true, if_false, Bool.false_eq_true, decide_eq_true_eq, upd_same, isTy_bool]
      exact q
    | _ => simp only [tSeq, tAsg, tOp, tUn, tCB, tCons, tNil, tVar, tC, rI, rI0, rU, tRet, tRetN, gName, tIfS, tTest, tIf, tB, tNot, tAnd, tOr, tAndV, tOrV, tNotV, tCmp, t2I, tLst, tTup, tCall, tCalK0, tNext, tChain, tSl, tPart, tNoPart, tPar, tDrop, gSub, gTupT, gCons, gNil, rSetL, rIxl, rIxt, rSlt, rEq, rNe, L2.start, tLc_eq, tFor_eq, iTup, iList, iRng1, iRng2, iEnumT, tYes, pts_nil,
  List.map_cons, List.map_nil, List.length_cons, List.length_nil, List.replicate_succ, List.replicate_zero, Nat.reduceAdd, Nat.reduceSub, Nat.add_zero, Nat.zero_add, List.cons_append, List.nil_append, List.append_nil, List.getElem?_cons_zero, List.getElem?_cons_succ, List.set_cons_zero, List.set_cons_succ, wipe,
  Option.some.injEq, exists_eq_left', exists_eq_left, V.int.injEq, V.bl.injEq, V.str.injEq, V.ref.injEq, HO.lst.injEq, HO.tup.injEq, List.cons.injEq, and_true, true_and, reduceCtorEq, false_or, or_false, false_and, and_false, exists_false, exists_and_left, exists_eq, and_assoc, if_true, if_false, Bool.false_eq_true, decide_eq_true_eq, upd_same]; exact q
def spInts : Sp := fun vs H Q _ => ∃ v d m, vs = [v, .int m] ∧ Rp H v d ∧ short d ∧ ∀ H', Fx [] H H' → Q (.bl (isRow d (m + 1))) H'
theorem ok_ints (z : Z mg) (c__law_int : Cal P w K mg base CX0 "_law_int" 1 ["_law_thing", "_law_most"] spInt) {f : Addr} {fd : FuncData} (F : Fun K "_law_ints" "_law_ints" s__law_ints f fd) : FnOk P w K mg base CX0 2 f fd ["_law_thing", "_law_most"] spInts := by
  refine F.ok sc__law_ints (fun vs H Q E h => ?_) (fun cdv A outer s H vs Q E hr h => ⟨_, (pss_one (ps_ret (pe_and (pe_callB (call_isiE K rfl) (by rfl) z.isinstance (by decide +kernel) (pa_cons (pv 0) (pa_cons (pe_bltn (v := .ty "tuple") (by rfl) z.tuple (by decide +kernel) rfl) pa_nil))) (pe_one (pe_cmpR (op_eqNil hr.units) (pe_lc (own := [("_law_one", 2)]) rfl sc__law_ints.nd (pi_tup (pv 0)) (blkOk_by (own := [("_law_one", 2)]) (N := ["_law_thing", "_law_most", "_law_one"]) (sc := (defScope s__law_ints)) (by decide +kernel)) (fun _ _ _ _ _ => (pg_name (i := 2) sc__law_ints.nd rfl (.inl rfl))) (fun _ _ _ _ _ => (pts_one (pt_not (pt_val (pe_cal c__law_int hr rfl pass0 (pa_cons (pv 2) (pa_cons (pv 1) pa_nil))))))) (fun _ _ _ _ _ => (pv 2))) (pe_lst pa_nil) (nomark _)))))), ?_⟩)
  · obtain ⟨v, d, m, rfl, _⟩ := h
    rfl
  · obtain ⟨v, d, m, rfl, rp, sh, q⟩ := h
    simp only [tSeq, tAsg, tOp, tUn, tCB, tCons, tNil, tVar, tC, rI, rI0, rU, tRet, tRetN, gName, tIfS, tTest, tIf, tB, tNot, tAnd, tOr, tAndV, tOrV, tNotV, tCmp, t2I, tLst, tTup, tCall, tCalK0, tNext, tChain, tSl, tPart, tNoPart, tPar, tDrop, gSub, gTupT, gCons, gNil, rSetL, rIxl, rIxt, rSlt, rEq, rNe, L2.start, tLc_eq, tFor_eq, iTup, iList, iRng1, iRng2, iEnumT, tYes, pts_nil,
  List.map_cons, List.map_nil, List.length_cons, List.length_nil, List.replicate_succ, List.replicate_zero, Nat.reduceAdd, Nat.reduceSub, Nat.add_zero, Nat.zero_add, List.cons_append, List.nil_append, List.append_nil, List.getElem?_cons_zero, List.getElem?_cons_succ, List.set_cons_zero, List.set_cons_succ, wipe,
  Option.some.injEq, exists_eq_left', exists_eq_left, V.int.injEq, V.bl.injEq, V.str.injEq, V.ref.injEq, HO.lst.injEq, HO.tup.injEq, List.cons.injEq, and_true, true_and, reduceCtorEq, false_or, or_false, false_and, and_false, exists_false, exists_and_left, exists_eq, and_assoc, if_true, if_false, Bool.false_eq_true, decide_eq_true_eq, upd_same]
    refine isi_rp rp (by decide) ?_
    rw [isTy_tuple]
    refine ⟨_, rfl, ?_⟩
    cases d with
    | tup ds =>
      obtain ⟨a, xs, rfl, e, r⟩ := rp.tup_inv
      have hl := r.len
      have hn : ds.length ≤ 1000000 := sh
      simp only [tSeq, tAsg, tOp, tUn, tCB, tCons, tNil, tVar, tC, rI, rI0, rU, tRet, tRetN, gName, tIfS, tTest, tIf, tB, tNot, tAnd, tOr, tAndV, tOrV, tNotV, tCmp, t2I, tLst, tTup, tCall, tCalK0, tNext, tChain, tSl, tPart, tNoPart, tPar, tDrop, gSub, gTupT, gCons, gNil, rSetL, rIxl, rIxt, rSlt, rEq, rNe, L2.start, tLc_eq, tFor_eq, iTup, iList, iRng1, iRng2, iEnumT, tYes, pts_nil,
  List.map_cons, List.map_nil, List.length_cons, List.length_nil, List.replicate_succ, List.replicate_zero, Nat.reduceAdd, Nat.reduceSub, Nat.add_zero, Nat.zero_add, List.cons_append, List.nil_append, List.append_nil, List.getElem?_cons_zero, List.getElem?_cons_succ, List.set_cons_zero, List.set_cons_succ, wipe,
  Option.some.injEq, exists_eq_left', exists_eq_left, V.int.injEq, V.bl.injEq, V.str.injEq, V.ref.injEq, HO.lst.injEq, HO.tup.injEq, List.cons.injEq, and_true, true_and, reduceCtorEq, false_or, or_false, false_and, and_false, exists_false, exists_and_left, exists_eq, and_assoc, if_true, if_false, Bool.false_eq_true, decide_eq_true_eq, upd_same]
      refine ⟨⟨_, SqT.of e⟩, fun D hD => ?_⟩
      refine lc_new (M := []) (walk_tup (xs := xs)) (by omega) hD (fun b z => nomatch z) (fun i H ys => (ys = [] ↔ ((ds.take i).all fun x => isInteger x 0 m) = true)) (fun _ _ _ _ _ _ z => z) (by simp) ?_ ?_ ?_
      · rintro i H ys _ fx _
        exact SqT.of (fx.tup e)
      · rintro i x H5 H6 ys N N' hi fx hR ⟨rfl, hx⟩ hN hN'
        obtain ⟨d, hd, rd⟩ := r.at hx
        simp only [tSeq, tAsg, tOp, tUn, tCB, tCons, tNil, tVar, tC, rI, rI0, rU, tRet, tRetN, gName, tIfS, tTest, tIf, tB, tNot, tAnd, tOr, tAndV, tOrV, tNotV, tCmp, t2I, tLst, tTup, tCall, tCalK0, tNext, tChain, tSl, tPart, tNoPart, tPar, tDrop, gSub, gTupT, gCons, gNil, rSetL, rIxl, rIxt, rSlt, rEq, rNe, L2.start, tLc_eq, tFor_eq, iTup, iList, iRng1, iRng2, iEnumT, tYes, pts_nil,
  List.map_cons, List.map_nil, List.length_cons, List.length_nil, List.replicate_succ, List.replicate_zero, Nat.reduceAdd, Nat.reduceSub, Nat.add_zero, Nat.zero_add, List.cons_append, List.nil_append, List.append_nil, List.getElem?_cons_zero, List.getElem?_cons_succ, List.set_cons_zero, List.set_cons_succ, wipe,
  Option.some.injEq, exists_eq_left', exists_eq_left, V.int.injEq, V.bl.injEq, V.str.injEq, V.ref.injEq, HO.lst.injEq, HO.tup.injEq, List.cons.injEq, and_true, true_and, reduceCtorEq, false_or, or_false, false_and, and_false, exists_false, exists_and_left, exists_eq, and_assoc, if_true, if_false, Bool.false_eq_true, decide_eq_true_eq, upd_same]
        refine ⟨x, d, m, rfl, fx.rp rd, ?_⟩
        refine ⟨_, rfl, ?_⟩
        have et : ds.take (i + 1) = ds.take i ++ [d] := by
          rw [List.take_add_one, hd]
          rfl
        cases hI : isInteger d 0 m with
        | false =>
          rw [if_pos (by decide)]
          refine hN _ _ (Fx.refl _ _) ⟨fun z => by simp at z, fun z => ?_⟩
          rw [et, List.all_append] at z
          simp [hI] at z
        | true =>
          rw [if_neg (by decide)]
          refine hN' _ (Fx.refl _ _) ?_
          rw [et, List.all_append, hR]
          simp [hI]
      · rintro H7 ys f7 hR eD
        refine ⟨by decide, fun p hp => ⟨D, p, ys, rfl, rfl, SqL.of ((Fx.new [] hp).all eD), SqL.of upd_same, ?_⟩⟩
        have e2 : decide (ys = []) = isRow (.tup ds) (m + 1) := by
          show _ = ds.all fun x => isInteger x 0 (m + 1 - 1)
          rw [Int.add_sub_cancel]
          have et : ds.take xs.length = ds := by
            rw [hl]
            exact List.take_length
          rw [et] at hR
          cases hA : (ds.all fun x => isInteger x 0 m) with
          | true => exact decide_eq_true (hR.mpr hA)
          | false =>
            refine decide_eq_false fun z => ?_
            rw [hR.mp z] at hA
            cases hA
        rw [e2]
        exact q _ (f7.trans (Fx.new _ hp))
    | _ => simp only [tSeq, tAsg, tOp, tUn, tCB, tCons, tNil, tVar, tC, rI, rI0, rU, tRet, tRetN, gName, tIfS, tTest, tIf, tB, tNot, tAnd, tOr, tAndV, tOrV, tNotV, tCmp, t2I, tLst, tTup, tCall, tCalK0, tNext, tChain, tSl, tPart, tNoPart, tPar, tDrop, gSub, gTupT, gCons, gNil, rSetL, rIxl, rIxt, rSlt, rEq, rNe, L2.start, tLc_eq, tFor_eq, iTup, iList, iRng1, iRng2, iEnumT, tYes, pts_nil,
  List.map_cons, List.map_nil, List.length_cons, List.length_nil, List.replicate_succ, List.replicate_zero, Nat.reduceAdd, Nat.reduceSub, Nat.add_zero, Nat.zero_add, List.cons_append, List.nil_append, List.append_nil, List.getElem?_cons_zero, List.getElem?_cons_succ, List.set_cons_zero, List.set_cons_succ, wipe,
  Option.some.injEq, exists_eq_left', exists_eq_left, V.int.injEq, V.bl.injEq, V.str.injEq, V.ref.injEq, HO.lst.injEq, HO.tup.injEq, List.cons.injEq, and_true, true_and, reduceCtorEq, false_or, or_false, false_and, and_false, exists_false, exists_and_left, exists_eq, and_assoc, if_true, if_false, Bool.false_eq_true, decide_eq_true_eq, upd_same]; exact q _ (Fx.refl _ _)
theorem checkD_form {d : LT.D} {s : Nat} (h : isForm d = false) : checkD d s = .tup [.str "form"] := by
  unfold checkD
  rw [if_pos h]
theorem isForm3 {a b c : LT.D} : isForm (.tup [a, b, c]) = (nonE b && nonE c) := by
  show (decide (3 = 3) && (nonE b && (nonE c && true))) = _
  rw [Bool.and_true]
  rfl
def spDue : Sp := fun vs H Q _ => ∃ v d, ∃ s : Nat, vs = [v, .int s] ∧ Rp H v d ∧ short2 d ∧ s ≤ 1000 ∧ ∀ u H', Fx [] H H' → Rp H' u (checkD d s) → Q u H'
theorem ok_due (z : Z mg) (c__law_int : Cal P w K mg base CX0 "_law_int" 1 ["_law_thing", "_law_most"] spInt) (c__law_ints : Cal P w K mg base CX0 "_law_ints" 2 ["_law_thing", "_law_most"] spInts) {f : Addr} {fd : FuncData} (F : Fun K "_law_due" "_law_due" s__law_due f fd) :
    FnOk P w K mg base CX0 3 f fd ["_law_thing", "_law_size"] spDue := by
  refine F.ok sc__law_due (fun vs H Q E h => ?_) (fun cdv A outer s H vs Q E hr h => ⟨_, (pss_cons (ps_if (PW.pt (pw_or (pt_not (pt_val (pe_callB (call_isiE K rfl) (by rfl) z.isinstance (by decide +kernel) (pa_cons (pv 0) (pa_cons (pe_bltn (v := .ty "tuple") (by rfl) z.tuple (by decide +kernel) rfl) pa_nil))))) (pw_or (pt_cmpR op_ne (pe_callB call_lenT (by rfl) z.len (by decide +kernel) (pa_cons (pv 0) pa_nil)) pe_int (nomark _)) (pw_or1 (pt_not (pt_val (pe_callB (call_isiE K rfl) (by rfl) z.isinstance (by decide +kernel) (pa_cons (pe_ix ix_t (pv 0) pe_int (fun _ _ => rfl)) (pa_cons (pe_bltn (v := .ty "tuple") (by rfl) z.tuple (by decide +kernel) rfl) pa_nil))))))))) (pss_one (ps_ret (pe_tup (pa_cons pe_str pa_nil)))) pss_nil)
      (pss_cons (ps_if (PW.pt (pw_or (pt_not (pt_val (pe_callB (call_isiE K rfl) (by rfl) z.isinstance (by decide +kernel) (pa_cons (pe_ix ix_t (pv 0) pe_int (fun _ _ => rfl)) (pa_cons (pe_bltn (v := .ty "tuple") (by rfl) z.tuple (by decide +kernel) rfl) pa_nil))))) (pw_or (pt_cmpR op_eq (pe_callB call_lenT (by rfl) z.len (by decide +kernel) (pa_cons (pe_ix ix_t (pv 0) pe_int (fun _ _ => rfl)) pa_nil)) pe_int (nomark _)) (pw_or1 (pt_cmpR op_eq (pe_callB call_lenT (by rfl) z.len (by decide +kernel) (pa_cons (pe_ix ix_t (pv 0) pe_int (fun _ _ => rfl)) pa_nil)) pe_int (nomark _)))))) (pss_one (ps_ret (pe_tup (pa_cons pe_str pa_nil)))) pss_nil)
      (pss_cons (ps_set (i := 2) sc__law_due.nd rfl (.inl rfl) (pe_callB call_lenT (by rfl) z.len (by decide +kernel) (pa_cons (pe_ix ix_t (pv 0) pe_int (fun _ _ => rfl)) pa_nil)))
      (pss_cons (ps_for PassesOwn.never rfl (pi_range1 (by rfl) z.range (pa_cons (pv 2) pa_nil)) (pg_name (i := 3) sc__law_due.nd rfl (.inl rfl))
      (pss_one (ps_if (PW.pt (pw_or (pt_not (pt_val (pe_cal c__law_ints hr rfl pass0 (pa_cons (pe_ix ix_t (pe_ix ix_t (pv 0) pe_int (fun _ _ => rfl)) (pv 3) (fun _ _ => rfl)) (pa_cons (pe_op op_sub (pv 2) pe_int) pa_nil))))) (pw_or1 (pt_cmpR op_ne (pe_callB call_lenT (by rfl) z.len (by decide +kernel) (pa_cons (pe_ix ix_t (pe_ix ix_t (pv 0) pe_int (fun _ _ => rfl)) (pv 3) (fun _ _ => rfl)) pa_nil)) (pv 1) (nomark _))))) (pss_one (ps_ret (pe_tup (pa_cons pe_str (pa_cons (pv 3) pa_nil))))) pss_nil)))
      (pss_cons (ps_if (PW.pt (pw_or (pt_cmpR op_ne (pe_callB call_lenT (by rfl) z.len (by decide +kernel) (pa_cons (pe_ix ix_t (pv 0) pe_int (fun _ _ => rfl)) pa_nil)) (pv 2) (nomark _)) (pw_or1 (pt_not (pt_val (pe_cal c__law_ints hr rfl pass0 (pa_cons (pe_ix ix_t (pv 0) pe_int (fun _ _ => rfl)) (pa_cons pe_int pa_nil)))))))) (pss_one (ps_ret (pe_tup (pa_cons pe_str pa_nil)))) pss_nil)
      (pss_one (ps_ret (pe_ix ix_l (pe_lst (pa_cons (pe_tup (pa_cons pe_str pa_nil)) (pa_cons pe_non pa_nil))) (pe_callTy call_intB (by rfl) z.int (by decide +kernel) (pa_cons (pe_cal c__law_int hr rfl pass0 (pa_cons (pe_ix ix_t (pv 0) pe_int (fun _ _ => rfl)) (pa_cons (pe_op op_sub (pv 2) pe_int) pa_nil))) pa_nil)) (fun _ _ => rfl))))))))), ?_⟩)
  · obtain ⟨v, d, s, rfl, _⟩ := h
    rfl
  · obtain ⟨v, d, s, rfl, rp, sh, hs, q⟩ := h
    have form : checkD d s = .tup [.str "form"] → ∀ H1 p, Fx [] H H1 → H1 p = none → Q (.ref p) (upd H1 p (.tup [.str "form"])) := by
      intro e H1 p f1 hp
      refine q _ _ (f1.trans (Fx.new _ hp)) ?_
      rw [e]
      exact .tup upd_same (.cons (.str _) .nil)
    simp only [tSeq, tAsg, tOp, tUn, tCB, tCons, tNil, tVar, tC, rI, rI0, rU, tRet, tRetN, gName, tIfS, tTest, tIf, tB, tNot, tAnd, tOr, tAndV, tOrV, tNotV, tCmp, t2I, tLst, tTup, tCall, tCalK0, tNext, tChain, tSl, tPart, tNoPart, tPar, tDrop, gSub, gTupT, gCons, gNil, rSetL, rIxl, rIxt, rSlt, rEq, rNe, L2.start, tLc_eq, tFor_eq, iTup, iList, iRng1, iRng2, iEnumT, tYes, pts_nil,
  List.map_cons, List.map_nil, List.length_cons, List.length_nil, List.replicate_succ, List.replicate_zero, Nat.reduceAdd, Nat.reduceSub, Nat.add_zero, Nat.zero_add, List.cons_append, List.nil_append, List.append_nil, List.getElem?_cons_zero, List.getElem?_cons_succ, List.set_cons_zero, List.set_cons_succ, wipe,
  Option.some.injEq, exists_eq_left', exists_eq_left, V.int.injEq, V.bl.injEq, V.str.injEq, V.ref.injEq, HO.lst.injEq, HO.tup.injEq, List.cons.injEq, and_true, true_and, reduceCtorEq, false_or, or_false, false_and, and_false, exists_false, exists_and_left, exists_eq, and_assoc, if_true, if_false, Bool.false_eq_true, decide_eq_true_eq, upd_same]
    refine isi_rp rp (by decide) ?_
    rw [isTy_tuple]
    refine ⟨_, rfl, ?_⟩
    cases d with
    | tup ds =>
      obtain ⟨a, xs, rfl, e, r⟩ := rp.tup_inv
      have hl := r.len
      simp only [tSeq, tAsg, tOp, tUn, tCB, tCons, tNil, tVar, tC, rI, rI0, rU, tRet, tRetN, gName, tIfS, tTest, tIf, tB, tNot, tAnd, tOr, tAndV, tOrV, tNotV, tCmp, t2I, tLst, tTup, tCall, tCalK0, tNext, tChain, tSl, tPart, tNoPart, tPar, tDrop, gSub, gTupT, gCons, gNil, rSetL, rIxl, rIxt, rSlt, rEq, rNe, L2.start, tLc_eq, tFor_eq, iTup, iList, iRng1, iRng2, iEnumT, tYes, pts_nil,
  List.map_cons, List.map_nil, List.length_cons, List.length_nil, List.replicate_succ, List.replicate_zero, Nat.reduceAdd, Nat.reduceSub, Nat.add_zero, Nat.zero_add, List.cons_append, List.nil_append, List.append_nil, List.getElem?_cons_zero, List.getElem?_cons_succ, List.set_cons_zero, List.set_cons_succ, wipe,
  Option.some.injEq, exists_eq_left', exists_eq_left, V.int.injEq, V.bl.injEq, V.str.injEq, V.ref.injEq, HO.lst.injEq, HO.tup.injEq, List.cons.injEq, and_true, true_and, reduceCtorEq, false_or, or_false, false_and, and_false, exists_false, exists_and_left, exists_eq, and_assoc, if_true, if_false, Bool.false_eq_true, decide_eq_true_eq, upd_same, e]
      rw [if_neg (by decide)]
      refine ⟨rfl, ?_⟩
      by_cases h3 : ds.length = 3
      · rw [if_neg (by simp [hl, h3])]
        match ds, h3, xs, r, e with
        | [d1, d2, d3], _, [x1, x2, x3], .cons r1 (.cons r2 (.cons r3 .nil)), e =>
        refine ⟨x2, rfl, isi_rp r2 (by decide) ?_⟩
        rw [isTy_tuple]
        refine ⟨_, rfl, ?_⟩
        cases d2 with
        | tup ss =>
          obtain ⟨b, bs, rfl, eb, rb⟩ := r2.tup_inv
          have lb := rb.len
          dsimp only
          rw [if_neg (by decide)]
          refine ⟨_, e, x3, rfl, isi_rp r3 (by decide) ?_⟩
          rw [isTy_tuple]
          refine ⟨_, rfl, ?_⟩
          cases d3 with
          | tup ts =>
            obtain ⟨c, cs, rfl, ec, rc⟩ := r3.tup_inv
            have lc := rc.len
            dsimp only
            rw [if_neg (by decide)]
            refine ⟨_, e, _, rfl, b, rfl, bs, eb, rfl, ?_⟩
            match ss, rb, lb with
            | [], .nil, _ =>
              rw [if_pos (show ((([] : List V).length : Nat) : Int) = 0 from rfl)]
              exact ⟨by decide, fun p hp => form (checkD_form (by rw [isForm3]; simp [nonE])) _ p (Fx.refl _ _) hp⟩
            | s1 :: ss', rb, lb =>
            rw [if_neg (by rw [lb, List.length_cons]; omega)]
            refine ⟨_, e, _, rfl, c, rfl, cs, ec, rfl, ?_⟩
            match ts, rc, lc with
            | [], .nil, _ =>
              rw [if_pos (show ((([] : List V).length : Nat) : Int) = 0 from rfl)]
              exact ⟨by decide, fun p hp => form (checkD_form (by rw [isForm3]; simp [nonE])) _ p (Fx.refl _ _) hp⟩
            | t1 :: ts', rc, lc =>
            rw [if_neg (by rw [lc, List.length_cons]; omega)]
            generalize hss : s1 :: ss' = ss at *
            generalize hts : t1 :: ts' = ts at *
            have hf : isForm (.tup [d1, .tup ss, .tup ts]) = true := by
              rw [← hss, ← hts]
              rfl
            have goE : checkD (.tup [d1, .tup ss, .tup ts]) s = match badAt ss.length s ss 0 with
              | some k => .tup [.str "steps", .int k]
              | none => if decide (ts.length = ss.length) && (ts.all fun x => isInteger x 0 99) then (if isInteger d1 0 (ss.length - 1) then .non else .tup [.str "start"]) else .tup [.str "answers"] := by
              unfold checkD
              rw [hf, if_neg (by decide)]
              all_goals rfl
            obtain ⟨hss1, hss2⟩ := sh (.tup ss) (by simp)
            obtain ⟨hts1, hts2⟩ := sh (.tup ts) (by simp)
            refine ⟨_, e, _, rfl, b, rfl, bs, eb, by omega, by omega, ?_⟩
            refine for_go walk_range (fun i σ H' => Fx [] H H' ∧ badAt ss.length s ss 0 = badAt ss.length s (ss.drop i) i ∧ ∃ x, σ = [some (.ref a), some (.int s), some (.int bs.length), x]) ⟨Fx.refl _ _, rfl, none, rfl⟩ ?_ ?_ ?_
            · intros; trivial
            · rintro i x σ H2 H3 hi ⟨fx, eB, y, rfl⟩ ⟨rfl, rfl⟩
              have hi2 : i < bs.length := by omega
              obtain ⟨d2, hd2, rd2⟩ := rb.at (List.getElem?_eq_getElem hi2)
              have k1 : atI bs (0 + (i : Int)) = some bs[i] := by
                rw [Int.zero_add]
                exact atI_nat (List.getElem?_eq_getElem hi2)
              have e2a := fx.tup e
              have e2b := fx.tup eb
              simp only [tSeq, tAsg, tOp, tUn, tCB, tCons, tNil, tVar, tC, rI, rI0, rU, tRet, tRetN, gName, tIfS, tTest, tIf, tB, tNot, tAnd, tOr, tAndV, tOrV, tNotV, tCmp, t2I, tLst, tTup, tCall, tCalK0, tNext, tChain, tSl, tPart, tNoPart, tPar, tDrop, gSub, gTupT, gCons, gNil, rSetL, rIxl, rIxt, rSlt, rEq, rNe, L2.start, tLc_eq, tFor_eq, iTup, iList, iRng1, iRng2, iEnumT, tYes, pts_nil,
  List.map_cons, List.map_nil, List.length_cons, List.length_nil, List.replicate_succ, List.replicate_zero, Nat.reduceAdd, Nat.reduceSub, Nat.add_zero, Nat.zero_add, List.cons_append, List.nil_append, List.append_nil, List.getElem?_cons_zero, List.getElem?_cons_succ, List.set_cons_zero, List.set_cons_succ, wipe,
  Option.some.injEq, exists_eq_left', exists_eq_left, V.int.injEq, V.bl.injEq, V.str.injEq, V.ref.injEq, HO.lst.injEq, HO.tup.injEq, List.cons.injEq, and_true, true_and, reduceCtorEq, false_or, or_false, false_and, and_false, exists_false, exists_and_left, exists_eq, and_assoc, if_true, if_false, Bool.false_eq_true, decide_eq_true_eq, upd_same, e2a, e2b, k1]
              have step := badAt_step (n := ss.length) (s := s) (k := i) hd2
              have bad : badHere ss.length s d2 = true → ∀ H5 p, Fx [] H3 H5 → H5 p = none → Q (.ref p) (upd H5 p (.tup [.str "steps", .int (0 + i)])) := by
                intro hb H5 p f5 hp
                refine q _ _ (fx.trans (f5.trans (Fx.new _ hp))) ?_
                rw [goE, eB, step, if_pos hb, Int.zero_add]
                exact .tup upd_same (.cons (.str _) (.cons (.int _) .nil))
              refine ⟨_, rfl, b, rfl, bs, e2b, _, k1, bs[i], d2, (bs.length : Int) - 1, rfl, fx.rp rd2, hss2 d2 (List.mem_of_getElem? hd2), fun H4 f4 => ⟨_, rfl, ?_⟩⟩
              have hN : (bs.length : Int) - 1 + 1 = (ss.length : Int) := by omega
              rw [hN]
              cases hR : isRow d2 ss.length with
              | false =>
                rw [if_pos (by decide)]
                exact ⟨by decide, fun p hp => bad (by unfold badHere; rw [hR]; rfl) _ p f4 hp⟩
              | true =>
                rw [if_neg (by decide)]
                cases d2 with
                | tup es =>
                  obtain ⟨ap, zs, hz, ez, rz⟩ := (f4.rp (fx.rp rd2)).tup_inv
                  refine ⟨_, f4.tup e2a, _, rfl, b, rfl, bs, f4.tup e2b, _, k1, ap, hz, zs, ez, rfl, ?_⟩
                  rw [rz.len]
                  by_cases hes : es.length = s
                  · rw [if_neg (by simp [hes])]
                    refine ⟨fx.trans f4, ?_, _, rfl⟩
                    rw [eB, step, if_neg]
                    unfold badHere
                    rw [hR]
                    simp [hes]
                  · rw [if_pos (by simp; omega)]
                    refine ⟨by decide, fun p hp => bad ?_ _ p f4 hp⟩
                    unfold badHere
                    rw [hR]
                    simp [hes]
                | _ => cases hR
            · rintro σ H2 ⟨fx, eB, y, rfl⟩
              have en : (bs.length : Int).toNat = ss.length := by omega
              rw [en, List.drop_length] at eB
              have eN : badAt ss.length s ss 0 = none := eB
              rw [eN] at goE
              have e2a := fx.tup e
              have e2c := fx.tup ec
              have fin : ∀ (y : Str), checkD (.tup [d1, .tup ss, .tup ts]) s = .tup [.str y] → ∀ H5 p, Fx [] H2 H5 → H5 p = none → Q (.ref p) (upd H5 p (.tup [.str y])) := by
                intro y e' H5 p f5 hp
                refine q _ _ (fx.trans (f5.trans (Fx.new _ hp))) ?_
                rw [e']
                exact .tup upd_same (.cons (.str _) .nil)
              simp only [tSeq, tAsg, tOp, tUn, tCB, tCons, tNil, tVar, tC, rI, rI0, rU, tRet, tRetN, gName, tIfS, tTest, tIf, tB, tNot, tAnd, tOr, tAndV, tOrV, tNotV, tCmp, t2I, tLst, tTup, tCall, tCalK0, tNext, tChain, tSl, tPart, tNoPart, tPar, tDrop, gSub, gTupT, gCons, gNil, rSetL, rIxl, rIxt, rSlt, rEq, rNe, L2.start, tLc_eq, tFor_eq, iTup, iList, iRng1, iRng2, iEnumT, tYes, pts_nil,
  List.map_cons, List.map_nil, List.length_cons, List.length_nil, List.replicate_succ, List.replicate_zero, Nat.reduceAdd, Nat.reduceSub, Nat.add_zero, Nat.zero_add, List.cons_append, List.nil_append, List.append_nil, List.getElem?_cons_zero, List.getElem?_cons_succ, List.set_cons_zero, List.set_cons_succ, wipe,
  Option.some.injEq, exists_eq_left', exists_eq_left, V.int.injEq, V.bl.injEq, V.str.injEq, V.ref.injEq, HO.lst.injEq, HO.tup.injEq, List.cons.injEq, and_true, true_and, reduceCtorEq, false_or, or_false, false_and, and_false, exists_false, exists_and_left, exists_eq, and_assoc, if_true, if_false, Bool.false_eq_true, decide_eq_true_eq, upd_same]
              refine ⟨_, e2a, _, rfl, c, rfl, cs, e2c, rfl, ?_⟩
              by_cases hl2 : ts.length = ss.length
              · rw [if_neg (by rw [lc, lb]; simp [hl2])]
                refine ⟨_, e2a, _, rfl, .ref c, .tup ts, 99, rfl, fx.rp r3, hts1, fun H4 f4 => ⟨_, rfl, ?_⟩⟩
                have eR : isRow (.tup ts) (99 + 1) = ts.all fun x => isInteger x 0 99 := rfl
                rw [eR]
                cases hA : (ts.all fun x => isInteger x 0 99) with
                | false =>
                  rw [if_pos (by decide)]
                  refine ⟨by decide, fun p hp => fin "answers" ?_ _ p f4 hp⟩
                  rw [goE, hA, if_neg (by simp)]
                | true =>
                  rw [if_neg (by decide)]
                  refine ⟨by decide, fun p hp => ⟨by decide, fun p2 hp2 => ?_⟩⟩
                  have g1 := f4.trans (Fx.new (o := .tup [V.str "start"]) [] hp)
                  have e1 : upd H4 p (.tup [V.str "start"]) p = some (.tup [V.str "start"]) := upd_same
                  have g2 := Fx.new (o := .lst [V.ref p, V.non]) [] hp2
                  have e2 : upd (upd H4 p (.tup [V.str "start"])) p2 (.lst [V.ref p, V.non]) p2 = some (.lst [V.ref p, V.non]) := upd_same
                  generalize upd (upd H4 p (.tup [V.str "start"])) p2 (.lst [V.ref p, V.non]) = H6 at *
                  have g6 := g1.trans g2
                  refine ⟨_, g6.tup e2a, x1, rfl, x1, d1, (bs.length : Int) - 1, rfl, g6.rp (fx.rp r1), ?_⟩
                  have eS : (bs.length : Int) - 1 = (ss.length : Int) - 1 := by omega
                  rw [eS]
                  cases hS : isInteger d1 0 (ss.length - 1) with
                  | false =>
                    refine ⟨false, rfl, _, e2, .ref p, rfl, q _ _ (fx.trans g6) ?_⟩
                    rw [goE, hA, if_pos (by simp [hl2]), if_neg (by rw [hS]; decide)]
                    exact .tup (g2.tup e1) (.cons (.str _) .nil)
                  | true =>
                    refine ⟨true, rfl, _, e2, .non, rfl, q _ _ (fx.trans g6) ?_⟩
                    rw [goE, hA, if_pos (by simp [hl2]), if_pos hS]
                    exact .non
              · rw [if_pos (by rw [lc, lb]; simp; omega)]
                refine ⟨by decide, fun p hp => fin "answers" ?_ _ p (Fx.refl _ _) hp⟩
                rw [goE, if_neg (by simp [hl2])]
          | _ =>
            dsimp only
            rw [if_pos (by decide)]
            exact ⟨by decide, fun p hp => form (checkD_form (by rw [isForm3]; simp [nonE])) _ p (Fx.refl _ _) hp⟩
        | _ =>
          dsimp only
          rw [if_pos (by decide)]
          exact ⟨by decide, fun p hp => form (checkD_form (by rw [isForm3]; simp [nonE])) _ p (Fx.refl _ _) hp⟩
      · rw [if_pos (by simp [hl]; omega)]
        refine ⟨by decide, fun p hp => form ?_ _ p (Fx.refl _ _) hp⟩
        have e4 : isForm (.tup ds) = false := by
          unfold isForm
          simp only [decide_eq_false h3, Bool.false_and]
        unfold checkD
        rw [if_pos e4]
    | _ =>
      simp only [tSeq, tAsg, tOp, tUn, tCB, tCons, tNil, tVar, tC, rI, rI0, rU, tRet, tRetN, gName, tIfS, tTest, tIf, tB, tNot, tAnd, tOr, tAndV, tOrV, tNotV, tCmp, t2I, tLst, tTup, tCall, tCalK0, tNext, tChain, tSl, tPart, tNoPart, tPar, tDrop, gSub, gTupT, gCons, gNil, rSetL, rIxl, rIxt, rSlt, rEq, rNe, L2.start, tLc_eq, tFor_eq, iTup, iList, iRng1, iRng2, iEnumT, tYes, pts_nil,
  List.map_cons, List.map_nil, List.length_cons, List.length_nil, List.replicate_succ, List.replicate_zero, Nat.reduceAdd, Nat.reduceSub, Nat.add_zero, Nat.zero_add, List.cons_append, List.nil_append, List.append_nil, List.getElem?_cons_zero, List.getElem?_cons_succ, List.set_cons_zero, List.set_cons_succ, wipe,
  Option.some.injEq, exists_eq_left', exists_eq_left, V.int.injEq, V.bl.injEq, V.str.injEq, V.ref.injEq, HO.lst.injEq, HO.tup.injEq, List.cons.injEq, and_true, true_and, reduceCtorEq, false_or, or_false, false_and, and_false, exists_false, exists_and_left, exists_eq, and_assoc, if_true, if_false, Bool.false_eq_true, decide_eq_true_eq, upd_same]
      exact ⟨by decide, fun p hp => form rfl _ p (Fx.refl _ _) hp⟩
end
end K02
namespace K02
open PySem PySem.Spec PyProof.Rows L2 LT
section
variable {P : Program} {w : World} {K : PySem.W.Frag} {mg : Str → Option Value} {base : Heap} {cs : Nat → Addr}
def spOdd : Sp := fun vs H Q _ => ∃ (p : Addr) (m : Int) (N : Nat), vs = [.ref p, .int m] ∧ Pu N H p ∧ N ≤ 900000000000 ∧ ∀ v H', Fx [p] H H' → Pu (N + 1) H' p → Gd 3 2 H' v → Q v H'
theorem pu_ne {N : Nat} {H : Hp} {p a : Addr} {xs : List V} (h : Pu N H p) (e : H a = some (.lst xs)) (hl : xs.length ≠ 3) : a ≠ p := by
  rintro rfl
  obtain ⟨c1, c2, c3, e', _⟩ := h
  rw [e'] at e
  have := HO.lst.inj (Option.some.inj e)
  rw [← this] at hl
  exact hl rfl
theorem ok_odd (z : Z mg) (c__law_draw : Cal P w K mg base CX0 "_law_draw" 2 ["_law_purse_here", "_law_out_of"] spDraw) {f : Addr} {fd : FuncData} (F : Fun K "_law_odd" "_law_odd" s__law_odd f fd) : FnOk P w K mg base CX0 3 f fd ["_law_purse_here", "_law_many"] spOdd := by
  refine F.ok sc__law_odd (fun vs H Q E h => ?_) (fun cdv A outer s H vs Q E hr h => ⟨_, (pss_cons (ps_set (i := 2) sc__law_odd.nd rfl (.inl rfl) (pe_lst (pa_cons pe_non (pa_cons pe_bl (pa_cons pe_str (pa_cons (pe_un un_neg pe_int) (pa_cons (pv 1) (pa_cons pe_int (pa_cons (pe_tup pa_nil) (pa_cons (pe_lst pa_nil) (pa_cons (pe_tup (pa_cons pe_int pa_nil)) (pa_cons pe_dnewK (pa_cons (pe_op op_powB pe_int pe_int) (pa_cons (pe_op op_sub (pv 1) pe_int) (pa_cons pe_int (pa_cons pe_bl (pa_cons (pe_lst (pa_cons pe_int pa_nil)) (pa_cons pe_int pa_nil))))))))))))))))))
      (pss_one (ps_ret (pe_ix ix_l (pv 2) (pe_cal c__law_draw hr rfl pass0 (pa_cons (pv 0) (pa_cons pe_int pa_nil))) (fun _ _ => rfl))))), ?_⟩)
  · obtain ⟨p, m, N, rfl, _⟩ := h
    rfl
  · obtain ⟨p, m, N, rfl, pu, hN, q⟩ := h
    refine st_lst (R := RG 3 2) mono_RG (els_cons mono_RG (el_G fun _ => .non) (els_cons mono_RG (el_G fun _ => .bl _) (els_cons mono_RG (el_G fun _ => .str _) (els_cons mono_RG el_negG (els_cons mono_RG (el_varG rfl fun _ => .int _)
      (els_cons mono_RG (el_G fun _ => .int _) (els_cons mono_RG (el_tupG els_nil (by decide) (by decide)) (els_cons mono_RG (el_lstG (k' := 0) (n' := 0) els_nil (by decide)) (els_cons mono_RG (el_tupG (els_cons mono_RG (el_G fun _ => .int _) els_nil) (by decide) (by decide))
      (els_cons mono_RG el_dctG (els_cons mono_RG (el_powG ⟨by decide, by decide +kernel⟩) (els_cons mono_RG (el_subG rfl) (els_cons mono_RG (el_G fun _ => .int _) (els_cons mono_RG (el_G fun _ => .bl _)
      (els_cons mono_RG (el_lstG (k' := 0) (n' := 0) (els_cons mono_RG (el_G fun _ => .int _) els_nil) (by decide)) (els_cons mono_RG (el_G fun _ => .int _) els_nil)))))))))))))))) (Nat.le_of_ble_eq_true rfl) fun a xs H1 f1 e1 p1 => ?_
    have pu1 := pu.fx f1 (fun z => nomatch z)
    have hl : xs.length = 16 := paired_len p1
    have ne := pu_ne pu1 e1 (by omega)
    refine ⟨_, rfl, _, rfl, p, 16, N, rfl, by decide, by decide, pu1, by omega, fun d H2 d0 d1 f2 pu2 => ?_⟩
    have hd : d.toNat < xs.length := by omega
    obtain ⟨u, r⟩ := Paired.right p1 _ (List.getElem_mem hd)
    refine ⟨a, xs, d, _, rfl, rfl, f2.keep a _ (by rw [List.mem_singleton]; exact ne) e1, atI_of d0 (List.getElem?_eq_getElem hd), q _ _ (f1.any.trans f2) pu2 (Gd.fx f2 r)⟩
theorem ifS_of {c : TT} {t u : TS} {Dn : Ends} {σ : L2.St} {H : Hp} (R : Bool → Hp → Prop) (hc : ∀ go : Bool → Hp → Prop, (∀ b H1, R b H1 → go b H1) → c σ H go) (h : ∀ b H1, R b H1 → if b = true then t Dn σ H1 else u Dn σ H1) : tIfS c t u Dn σ H := hc _ h
def spPart : Sp := fun vs H Q _ => ∃ (p a : Addr) (way : Int) (N n : Nat) (xs : List V), vs = [.ref p, .ref a, .int way] ∧ H a = some (.tup xs) ∧ xs ≠ [] ∧ xs.length ≤ n ∧ (∀ x ∈ xs, Gd 1 n H x) ∧ 2 ≤ n ∧ n ≤ 100 ∧ Pu N H p ∧ N ≤ 800000000000 ∧
  ∀ v H', Fx [p] H H' → Pu (N + 5) H' p → Gd 2 (2 * n + 1) H' v → Q v H'
theorem ok_part (z : Z mg) (c__law_draw : Cal P w K mg base CX0 "_law_draw" 2 ["_law_purse_here", "_law_out_of"] spDraw) (c__law_odd : Cal P w K mg base CX0 "_law_odd" 3 ["_law_purse_here", "_law_many"] spOdd)
    {f : Addr} {fd : FuncData} (F : Fun K "_law_bent_part" "_law_bent_part" s__law_bent_part f fd) : FnOk P w K mg base CX0 4 f fd ["_law_purse_here", "_law_row_here", "_law_way"] spPart := by
  refine F.ok sc__law_bent_part (fun vs H Q E h => ?_) (fun cdv A outer s H vs Q E hr h => ⟨_, (pss_cons (ps_set (i := 1) sc__law_bent_part.nd rfl (.inl rfl) (pe_callTy call_list_of (by rfl) z.list (by decide +kernel) (pa_cons (pv 1) pa_nil)))
      (pss_cons (ps_set (i := 3) sc__law_bent_part.nd rfl (.inl rfl) (pe_cal c__law_draw hr rfl pass0 (pa_cons (pv 0) (pa_cons (pe_callB call_lenL (by rfl) z.len (by decide +kernel) (pa_cons (pv 1) pa_nil)) pa_nil))))
      (pss_cons (ps_if (PW.pt (pw_and (pt_cmpR op_eq (pv 2) pe_int (nomark _)) (pw_and (pt_val (pe_callB (call_isiE K rfl) (by rfl) z.isinstance (by decide +kernel) (pa_cons (pe_ix ix_l (pv 1) (pv 3) (fun _ _ => rfl)) (pa_cons (pe_bltn (v := .ty "tuple") (by rfl) z.tuple (by decide +kernel) rfl) pa_nil)))) (pw_and1 (pt_cmpR (op_neNil hr.units) (pe_ix ix_l (pv 1) (pv 3) (fun _ _ => rfl)) (pe_tup pa_nil) (nomark _)))))) (pss_cons (ps_set (i := 4) sc__law_bent_part.nd rfl (.inl rfl) (pe_cal c__law_draw hr rfl pass0 (pa_cons (pv 0) (pa_cons (pe_callB call_lenT (by rfl) z.len (by decide +kernel) (pa_cons (pe_ix ix_l (pv 1) (pv 3) (fun _ _ => rfl)) pa_nil)) pa_nil))))
      (pss_one (ps_asg (pe_op op_catA (pe_op op_catA (pe_slice sl_t (pe_ix ix_l (pv 1) (pv 3) (fun _ _ => rfl)) po_none (po_some (pv 4))) (pe_tup (pa_cons (pe_cal c__law_odd hr rfl pass0 (pa_cons (pv 0) (pa_cons (pe_callB call_lenL (by rfl) z.len (by decide +kernel) (pa_cons (pv 1) pa_nil)) pa_nil))) pa_nil))) (pe_slice sl_t (pe_ix ix_l (pv 1) (pv 3) (fun _ _ => rfl)) (po_some (pe_op op_add (pv 4) pe_int)) po_none)) (pg_sub (pv 1) (pv 3) set_list)))) (pss_one (ps_if (pt_cmpR op_eq (pv 2) pe_int (nomark _)) (pss_one (ps_asg (pe_cal c__law_odd hr rfl pass0 (pa_cons (pv 0) (pa_cons (pe_callB call_lenL (by rfl) z.len (by decide +kernel) (pa_cons (pv 1) pa_nil)) pa_nil))) (pg_sub (pv 1) (pv 3) set_list))) (pss_one (ps_if (pt_cmpR op_eq (pv 2) pe_int (nomark _)) (pss_one (ps_set (i := 1) sc__law_bent_part.nd rfl (.inl rfl) (pe_op op_cat (pe_slice sl_list (pv 1) po_none (po_some (pv 3))) (pe_slice sl_list (pv 1) (po_some (pe_op op_add (pv 3) pe_int)) po_none)))) (pss_one (ps_if (pt_cmpR op_eq (pv 2) pe_int (nomark _)) (pss_one (ps_set (i := 1) sc__law_bent_part.nd rfl (.inl rfl) (pe_op op_cat (pv 1) (pe_lst (pa_cons (pe_ix ix_l (pv 1) (pv 3) (fun _ _ => rfl)) pa_nil))))) (pss_one (ps_if (pt_val (pe_callB (call_isiE K rfl) (by rfl) z.isinstance (by decide +kernel) (pa_cons (pe_ix ix_l (pv 1) (pv 3) (fun _ _ => rfl)) (pa_cons (pe_bltn (v := .ty "tuple") (by rfl) z.tuple (by decide +kernel) rfl) pa_nil)))) (pss_one (ps_asg (pe_ix ix_l (pe_lst (pa_cons (pe_slice sl_t (pe_ix ix_l (pv 1) (pv 3) (fun _ _ => rfl)) (po_some pe_int) po_none) (pa_cons (pe_op op_catA (pe_ix ix_l (pv 1) (pv 3) (fun _ _ => rfl)) (pe_slice sl_t (pe_ix ix_l (pv 1) (pv 3) (fun _ _ => rfl)) po_none (po_some pe_int))) (pa_cons (pe_callTy call_list_of (by rfl) z.list (by decide +kernel) (pa_cons (pe_ix ix_l (pv 1) (pv 3) (fun _ _ => rfl)) pa_nil)) (pa_cons (pe_op op_repA (pe_ix ix_l (pv 1) (pv 3) (fun _ _ => rfl)) pe_int) pa_nil))))) (pe_cal c__law_draw hr rfl pass0 (pa_cons (pv 0) (pa_cons pe_int pa_nil))) (fun _ _ => rfl)) (pg_sub (pv 1) (pv 3) set_list))) pss_nil)))))))))
      (pss_one (ps_ret (pe_ix ix_l (pe_lst (pa_cons (pe_callTy call_tupL (by rfl) z.tuple (by decide +kernel) (pa_cons (pv 1) pa_nil)) (pa_cons (pv 1) pa_nil))) (pe_callTy call_intB (by rfl) z.int (by decide +kernel) (pa_cons (pe_cmpR op_eq (pe_cal c__law_draw hr rfl pass0 (pa_cons (pv 0) (pa_cons pe_int pa_nil))) pe_int (nomark _)) pa_nil)) (fun _ _ => rfl))))))), ?_⟩)
  · obtain ⟨p, a, way, N, n, xs, rfl, _⟩ := h
    rfl
  · obtain ⟨p, a, way, N, n, xs, rfl, ea, hne, hl, hg, n2, n100, pu, hN, q⟩ := h
    have hl0 : 0 < xs.length := List.length_pos_iff.mpr hne
    refine ⟨_, rfl, a, xs, rfl, .inr (SqT.of ea), fun L hL => ?_⟩
    have f1 := Fx.new (o := .lst xs) [] hL
    have e1 : upd H L (.lst xs) L = some (.lst xs) := upd_same
    have neL : L ∉ [p] := by
      rw [List.mem_singleton]
      rintro rfl
      exact pu.at hL
    have pu1 := pu.fx f1 (fun z => nomatch z)
    generalize upd H L (.lst xs) = H1 at *
    refine ⟨_, rfl, _, rfl, L, xs, rfl, e1, p, xs.length, N, rfl, by omega, by omega, pu1, by omega, fun at' H2 d0 d1 f2 pu2 => ?_⟩
    have e2 := f2.keep L _ neL e1
    have f12 : Fx [p] H H2 := f1.any.trans f2
    dsimp only [gName]
    have hix : ixN xs.length at' = some at'.toNat := by
      unfold ixN
      rw [if_pos d0, if_pos d1]
    have hd : at'.toNat < xs.length := by omega
    obtain ⟨x, hx⟩ : ∃ x, xs[at'.toNat]? = some x := ⟨_, List.getElem?_eq_getElem hd⟩
    have gx := hg x (List.mem_of_getElem? hx)
    have hat := atI_of d0 hx
    refine seq_any (fun σ' H' => ∃ L' ys x4, σ' = [some (.ref p), some (.ref L'), some (.int way), some (.int at'), x4] ∧ H' L' = some (.lst ys) ∧ ys.length ≤ 2 * n + 1 ∧ (∀ y ∈ ys, Gd 1 (2 * n + 1) H' y) ∧ Fx [p] H H' ∧ Pu (N + 3) H' p) (fun σ' H3 h => ?_) fun rest hrest => ?_
    · obtain ⟨L', ys, x4, rfl, e3, l3, g3, f3, pu3⟩ := h
      simp only [tSeq, tAsg, tOp, tUn, tCB, tCons, tNil, tVar, tC, rI, rI0, rU, tRet, tRetN, gName, tIfS, tTest, tIf, tB, tNot, tAnd, tOr, tAndV, tOrV, tNotV, tCmp, t2I, tLst, tTup, tCall, tCalK0, tNext, tChain, tSl, tPart, tNoPart, tPar, tDrop, gSub, gTupT, gCons, gNil, rSetL, rIxl, rIxt, rSlt, rEq, rNe, L2.start, tLc_eq, tFor_eq, iTup, iList, iRng1, iRng2, iEnumT, tYes, pts_nil,
  List.map_cons, List.map_nil, List.length_cons, List.length_nil, List.replicate_succ, List.replicate_zero, Nat.reduceAdd, Nat.reduceSub, Nat.add_zero, Nat.zero_add, List.cons_append, List.nil_append, List.append_nil, List.getElem?_cons_zero, List.getElem?_cons_succ, List.set_cons_zero, List.set_cons_succ, wipe,
  Option.some.injEq, exists_eq_left', exists_eq_left, V.int.injEq, V.bl.injEq, V.str.injEq, V.ref.injEq, HO.lst.injEq, HO.tup.injEq, List.cons.injEq, and_true, true_and, reduceCtorEq, false_or, or_false, false_and, and_false, exists_false, exists_and_left, exists_eq, and_assoc, if_true, if_false, Bool.false_eq_true, decide_eq_true_eq, upd_same]
      refine ⟨ys, e3, fun l hl1 => ⟨by decide, fun p1 hp1 => ?_⟩⟩
      have f4 : Fx [] H3 (upd (upd H3 l (.tup ys)) p1 (.lst [V.ref l, V.ref L'])) := (Fx.new _ hl1).trans (Fx.new _ hp1)
      have e4 : upd (upd H3 l (.tup ys)) p1 (.lst [V.ref l, V.ref L']) l = some (.tup ys) := by rw [upd_ne (ne_of_none upd_same hp1), upd_same]
      have e5 : upd (upd H3 l (.tup ys)) p1 (.lst [V.ref l, V.ref L']) p1 = some (.lst [V.ref l, V.ref L']) := upd_same
      generalize upd (upd H3 l (.tup ys)) p1 (.lst [V.ref l, V.ref L']) = H4 at *
      have pu4 := pu3.fx f4 (fun z => nomatch z)
      have ne1 := pu_ne pu4 e5 (show ¬ 2 = 3 by decide)
      refine ⟨p, 12, N + 3, rfl, by decide, by decide, pu4, by omega, fun d H5 d0 d1 f5 pu5 => ⟨rfl, _, f5.keep p1 _ (by rw [List.mem_singleton]; exact ne1) e5, ?_⟩⟩
      have f6 : Fx [p] H H5 := f3.trans (f4.any.trans f5)
      by_cases hz : d = 0
      · rw [if_pos (by rw [hz])]
        exact ⟨.ref L', rfl, q _ _ f6 (pu5.mono (by omega)) (Gd.fx f5 (Gd.lst (f4.all e3)))⟩
      · rw [if_neg (fun z => hz (V.int.inj z))]
        exact ⟨.ref l, rfl, q _ _ f6 (pu5.mono (by omega)) (.tup (f5.tup e4) l3 fun y hy => Gd.fx f5 (Gd.fx f4 (g3 y hy)))⟩
    · have setv : ∀ (x4 : Option V) Hx v, Fx [p] H2 Hx → Pu (N + 3) Hx p → Gd 1 (2 * n + 1) Hx v →
          ∃ x, Hx L = some (.lst x) ∧ ∃ j, ixN x.length at' = some j ∧ rest [some (.ref p), some (.ref L), some (.int way), some (.int at'), x4] (upd Hx L (.lst (x.set j v))) := by
        intro x4 Hx v fx pux gv
        have ex := fx.keep L _ neL e2
        refine ⟨xs, ex, _, hix, ?_⟩
        have fp : Fx [L] Hx (upd Hx L (.lst (xs.set at'.toNat v))) := Fx.put (List.mem_singleton.mpr rfl) ex
        have fp2 : Fx (L :: [p]) Hx (upd Hx L (.lst (xs.set at'.toNat v))) := Fx.put List.mem_cons_self ex
        refine hrest _ _ ⟨L, _, x4, rfl, upd_same, by rw [List.length_set]; omega, fun y hy => ?_, (f12.trans fx).dropL fp2 hL, pux.fx fp ?_⟩
        · rcases List.mem_or_eq_of_mem_set hy with hy | rfl
          · exact Gd.fx fp (Gd.mono (Gd.fx (f12.trans fx) (hg y hy)) (by omega))
          · exact Gd.fx fp gv
        · rw [List.mem_singleton]
          rintro rfl
          exact neL (List.mem_singleton.mpr rfl)
      have new : ∀ (x4 : Option V) Hx L' ys, Fx [p] H2 Hx → Pu (N + 3) Hx p → Hx L' = some (.lst ys) → ys.length ≤ 2 * n + 1 → (∀ y ∈ ys, y ∈ xs) → rest [some (.ref p), some (.ref L'), some (.int way), some (.int at'), x4] Hx :=
        fun x4 Hx L' ys fx pux ey ly hy => hrest _ _ ⟨L', ys, x4, rfl, ey, ly, fun y h => Gd.mono (Gd.fx (f12.trans fx) (hg y (hy y h))) (by omega), f12.trans fx, pux⟩
      have gx2 := Gd.fx f12 gx
      have neLp : L ≠ p := fun z => neL (List.mem_singleton.mpr z)
      refine ifS_of (fun b H3 => Fx [] H2 H3 ∧ (b = true → ∃ b' zs, x = .ref b' ∧ H2 b' = some (.tup zs) ∧ zs ≠ [] ∧ zs.length ≤ n ∧ ∀ y ∈ zs, Gd 0 n H2 y)) (fun go hgo => ?_) (fun b H3 h => ?_)
      · simp only [tSeq, tAsg, tOp, tUn, tCB, tCons, tNil, tVar, tC, rI, rI0, rU, tRet, tRetN, gName, tIfS, tTest, tIf, tB, tNot, tAnd, tOr, tAndV, tOrV, tNotV, tCmp, t2I, tLst, tTup, tCall, tCalK0, tNext, tChain, tSl, tPart, tNoPart, tPar, tDrop, gSub, gTupT, gCons, gNil, rSetL, rIxl, rIxt, rSlt, rEq, rNe, L2.start, tLc_eq, tFor_eq, iTup, iList, iRng1, iRng2, iEnumT, tYes, pts_nil,
  List.map_cons, List.map_nil, List.length_cons, List.length_nil, List.replicate_succ, List.replicate_zero, Nat.reduceAdd, Nat.reduceSub, Nat.add_zero, Nat.zero_add, List.cons_append, List.nil_append, List.append_nil, List.getElem?_cons_zero, List.getElem?_cons_succ, List.set_cons_zero, List.set_cons_succ, wipe,
  Option.some.injEq, exists_eq_left', exists_eq_left, V.int.injEq, V.bl.injEq, V.str.injEq, V.ref.injEq, HO.lst.injEq, HO.tup.injEq, List.cons.injEq, and_true, true_and, reduceCtorEq, false_or, or_false, false_and, and_false, exists_false, exists_and_left, exists_eq, and_assoc, if_true, if_false, Bool.false_eq_true, decide_eq_true_eq, upd_same]
        refine ⟨rfl, ?_⟩
        by_cases h0 : way = 0
        · rw [if_pos h0]
          refine ⟨xs, e2, x, hat, ?_⟩
          rcases gx2.is with ⟨b, zs, rfl, eb, lz, gz, dx, rx, tx⟩ | ⟨dx, rx, tx⟩
          · refine isi_rp rx (by decide) ?_
            rw [tx]
            refine ⟨true, rfl, ?_⟩
            rw [if_pos rfl]
            refine ⟨xs, e2, _, hat, by decide, fun p1 hp1 => ?_⟩
            have g := Fx.new (o := .tup []) [] hp1
            refine ⟨b, p1, zs, rfl, rfl, SqT.of (g.tup eb), SqT.of upd_same, _, rfl, hgo _ _ ⟨g, fun hb => ⟨b, zs, rfl, eb, fun z => ?_, lz, gz⟩⟩⟩
            subst z
            cases hb
          · refine isi_rp rx (by decide) ?_
            rw [tx]
            refine ⟨false, rfl, ?_⟩
            rw [if_neg (by decide)]
            exact hgo _ _ ⟨Fx.refl _ _, fun z => nomatch z⟩
        · rw [if_neg h0]
          exact hgo _ _ ⟨Fx.refl _ _, fun z => nomatch z⟩
      · obtain ⟨f3, hb⟩ := h
        have e3 := f3.all e2
        have pu3 := pu2.fx f3 (fun z => nomatch z)
        cases b with
        | true =>
          rw [if_pos rfl]
          obtain ⟨b, zs, rfl, eb, nz, lz, gz⟩ := hb rfl
          have zp : 0 < zs.length := List.length_pos_iff.mpr nz
          have eb3 := f3.tup eb
          simp only [tSeq, tAsg, tOp, tUn, tCB, tCons, tNil, tVar, tC, rI, rI0, rU, tRet, tRetN, gName, tIfS, tTest, tIf, tB, tNot, tAnd, tOr, tAndV, tOrV, tNotV, tCmp, t2I, tLst, tTup, tCall, tCalK0, tNext, tChain, tSl, tPart, tNoPart, tPar, tDrop, gSub, gTupT, gCons, gNil, rSetL, rIxl, rIxt, rEq, rNe, L2.start, tLc_eq, tFor_eq, iTup, iList, iRng1, iRng2, iEnumT, tYes, pts_nil,
  List.map_cons, List.map_nil, List.length_cons, List.length_nil, List.replicate_succ, List.replicate_zero, Nat.reduceAdd, Nat.reduceSub, Nat.add_zero, Nat.zero_add, List.cons_append, List.nil_append, List.append_nil, List.getElem?_cons_zero, List.getElem?_cons_succ, List.set_cons_zero, List.set_cons_succ, wipe,
  Option.some.injEq, exists_eq_left', exists_eq_left, V.int.injEq, V.bl.injEq, V.str.injEq, V.ref.injEq, HO.lst.injEq, HO.tup.injEq, List.cons.injEq, and_true, true_and, reduceCtorEq, false_or, or_false, false_and, and_false, exists_false, exists_and_left, exists_eq, and_assoc, if_true, if_false, Bool.false_eq_true, decide_eq_true_eq, upd_same]
          refine ⟨xs, e3, _, hat, b, rfl, zs, eb3, p, zs.length, N + 1, rfl, by omega, by omega, pu3, by omega, fun pl H5 q0 q1 f5 pu5 => ?_⟩
          have e5 := f5.keep L _ neL e3
          have eb5 := f5.tup eb3
          refine ⟨xs, e5, _, hat, pl, rfl, ?_⟩
          refine slt_go eb5 fun c H6 ws f6 e6 l6 m6 => ?_
          refine ⟨xs, f6.all e5, p, (xs.length : Nat), N + 2, rfl, pu5.fx f6 (fun z => nomatch z), by omega, fun o H7 f7 pu7 go => ?_⟩
          refine ⟨by decide, fun p2 hp2 => ?_⟩
          have f8 := Fx.new (o := .tup [o]) [] hp2
          have e8 : upd H7 p2 (.tup [o]) p2 = some (.tup [o]) := upd_same
          generalize upd H7 p2 (.tup [o]) = H8 at *
          refine cat_go (f8.tup (f7.tup e6)) e8 (by show ws.length + 1 ≤ 1000; omega) fun c2 H9 f9 e9 => ?_
          refine ⟨xs, f9.all (f8.all (f7.keep L _ neL (f6.all e5))), _, hat, pl, rfl, ?_⟩
          refine slt_go (f9.tup (f8.tup (f7.tup (f6.tup eb5)))) fun c3 H10 ws2 f10 e10 l10 m10 => ?_
          refine cat_go (f10.tup e9) e10 (by rw [List.length_append]; show ws.length + 1 + ws2.length ≤ 1000; omega) fun c4 H11 f11 e11 => ?_
          have g8 : Fx [] H7 H11 := f8.trans (f9.trans (f10.trans f11))
          have g5 : Fx [p] H2 H7 := f3.any.trans (f5.trans (f6.any.trans f7))
          refine setv _ H11 (.ref c4) (g5.trans g8.any) (pu7.fx g8 (fun z => nomatch z)) (.tup e11 ?_ fun y hy => ?_)
          · rw [List.length_append, List.length_append]
            show ws.length + 1 + ws2.length ≤ _
            omega
          · have old : ∀ y ∈ zs, Gd 0 (2 * n + 1) H11 y := fun y hy => Gd.mono (Gd.fx (g5.trans g8.any) (gz y hy)) (by omega)
            rcases List.mem_append.mp hy with hy | hy
            · rcases List.mem_append.mp hy with hy | hy
              · exact old y (m6 y hy)
              · rw [List.mem_singleton.mp hy]
                exact Gd.mono (Gd.fx g8 go.down.down.down) (by omega)
            · exact old y (m10 y hy)
        | false =>
          rw [if_neg (by decide)]
          refine ifS_of (fun b H4 => H3 = H4) (fun go hgo => ?_) (fun b H4 h => ?_)
          · simp only [tSeq, tAsg, tOp, tUn, tCB, tCons, tNil, tVar, tC, rI, rI0, rU, tRet, tRetN, gName, tIfS, tTest, tIf, tB, tNot, tAnd, tOr, tAndV, tOrV, tNotV, tCmp, t2I, tLst, tTup, tCall, tCalK0, tNext, tChain, tSl, tPart, tNoPart, tPar, tDrop, gSub, gTupT, gCons, gNil, rSetL, rIxl, rIxt, rSlt, rEq, rNe, L2.start, tLc_eq, tFor_eq, iTup, iList, iRng1, iRng2, iEnumT, tYes, pts_nil,
  List.map_cons, List.map_nil, List.length_cons, List.length_nil, List.replicate_succ, List.replicate_zero, Nat.reduceAdd, Nat.reduceSub, Nat.add_zero, Nat.zero_add, List.cons_append, List.nil_append, List.append_nil, List.getElem?_cons_zero, List.getElem?_cons_succ, List.set_cons_zero, List.set_cons_succ, wipe,
  Option.some.injEq, exists_eq_left', exists_eq_left, V.int.injEq, V.bl.injEq, V.str.injEq, V.ref.injEq, HO.lst.injEq, HO.tup.injEq, List.cons.injEq, and_true, true_and, reduceCtorEq, false_or, or_false, false_and, and_false, exists_false, exists_and_left, exists_eq, and_assoc, if_true, if_false, Bool.false_eq_true, decide_eq_true_eq, upd_same]
            exact ⟨rfl, hgo _ _ rfl⟩
          subst h
          cases b with
          | true =>
            rw [if_pos rfl]
            simp only [tSeq, tAsg, tOp, tUn, tCB, tCons, tNil, tVar, tC, rI, rI0, rU, tRet, tRetN, gName, tIfS, tTest, tIf, tB, tNot, tAnd, tOr, tAndV, tOrV, tNotV, tCmp, t2I, tLst, tTup, tCall, tCalK0, tNext, tChain, tSl, tPart, tNoPart, tPar, tDrop, gSub, gTupT, gCons, gNil, rSetL, rIxl, rIxt, rEq, rNe, L2.start, tLc_eq, tFor_eq, iTup, iList, iRng1, iRng2, iEnumT, tYes, pts_nil,
  List.map_cons, List.map_nil, List.length_cons, List.length_nil, List.replicate_succ, List.replicate_zero, Nat.reduceAdd, Nat.reduceSub, Nat.add_zero, Nat.zero_add, List.cons_append, List.nil_append, List.append_nil, List.getElem?_cons_zero, List.getElem?_cons_succ, List.set_cons_zero, List.set_cons_succ, wipe,
  Option.some.injEq, exists_eq_left', exists_eq_left, V.int.injEq, V.bl.injEq, V.str.injEq, V.ref.injEq, HO.lst.injEq, HO.tup.injEq, List.cons.injEq, and_true, true_and, reduceCtorEq, false_or, or_false, false_and, and_false, exists_false, exists_and_left, exists_eq, and_assoc, if_true, if_false, Bool.false_eq_true, decide_eq_true_eq, upd_same]
            exact ⟨xs, e3, p, (xs.length : Nat), N + 1, rfl, pu3, by omega, fun o H5 f5 pu5 go => setv none H5 o (f3.any.trans f5) (pu5.mono (by omega)) (Gd.mono go.down.down (by omega))⟩
          | false =>
          rw [if_neg (by decide)]
          refine ifS_of (fun b H4 => H3 = H4) (fun go hgo => ?_) (fun b H4 h => ?_)
          · simp only [tSeq, tAsg, tOp, tUn, tCB, tCons, tNil, tVar, tC, rI, rI0, rU, tRet, tRetN, gName, tIfS, tTest, tIf, tB, tNot, tAnd, tOr, tAndV, tOrV, tNotV, tCmp, t2I, tLst, tTup, tCall, tCalK0, tNext, tChain, tSl, tPart, tNoPart, tPar, tDrop, gSub, gTupT, gCons, gNil, rSetL, rIxl, rIxt, rSlt, rEq, rNe, L2.start, tLc_eq, tFor_eq, iTup, iList, iRng1, iRng2, iEnumT, tYes, pts_nil,
  List.map_cons, List.map_nil, List.length_cons, List.length_nil, List.replicate_succ, List.replicate_zero, Nat.reduceAdd, Nat.reduceSub, Nat.add_zero, Nat.zero_add, List.cons_append, List.nil_append, List.append_nil, List.getElem?_cons_zero, List.getElem?_cons_succ, List.set_cons_zero, List.set_cons_succ, wipe,
  Option.some.injEq, exists_eq_left', exists_eq_left, V.int.injEq, V.bl.injEq, V.str.injEq, V.ref.injEq, HO.lst.injEq, HO.tup.injEq, List.cons.injEq, and_true, true_and, reduceCtorEq, false_or, or_false, false_and, and_false, exists_false, exists_and_left, exists_eq, and_assoc, if_true, if_false, Bool.false_eq_true, decide_eq_true_eq, upd_same]
            exact ⟨rfl, hgo _ _ rfl⟩
          subst h
          cases b with
          | true =>
            rw [if_pos rfl]
            simp only [tSeq, tAsg, tOp, tUn, tCB, tCons, tNil, tVar, tC, rI, rI0, rU, tRet, tRetN, gName, tIfS, tTest, tIf, tB, tNot, tAnd, tOr, tAndV, tOrV, tNotV, tCmp, t2I, tLst, tTup, tCall, tCalK0, tNext, tChain, tSl, tPart, tNoPart, tPar, tDrop, gSub, gTupT, gCons, gNil, rSetL, rIxl, rIxt, rEq, rNe, L2.start, tLc_eq, tFor_eq, iTup, iList, iRng1, iRng2, iEnumT, tYes, pts_nil,
  List.map_cons, List.map_nil, List.length_cons, List.length_nil, List.replicate_succ, List.replicate_zero, Nat.reduceAdd, Nat.reduceSub, Nat.add_zero, Nat.zero_add, List.cons_append, List.nil_append, List.append_nil, List.getElem?_cons_zero, List.getElem?_cons_succ, List.set_cons_zero, List.set_cons_succ, wipe,
  Option.some.injEq, exists_eq_left', exists_eq_left, V.int.injEq, V.bl.injEq, V.str.injEq, V.ref.injEq, HO.lst.injEq, HO.tup.injEq, List.cons.injEq, and_true, true_and, reduceCtorEq, false_or, or_false, false_and, and_false, exists_false, exists_and_left, exists_eq, and_assoc, if_true, if_false, Bool.false_eq_true, decide_eq_true_eq, upd_same]
            refine ⟨L, xs, rfl, SqL.of e3, fun p1 hp1 => ?_⟩
            have g1 := Fx.new (o := .lst (cutV xs none (some at'))) [] hp1
            have k1 : upd H3 p1 (.lst (cutV xs none (some at'))) p1 = some (.lst (cutV xs none (some at'))) := upd_same
            generalize upd H3 p1 (.lst (cutV xs none (some at'))) = H5 at *
            refine ⟨L, xs, rfl, SqL.of (g1.all e3), fun p2 hp2 => ?_⟩
            have g2 := Fx.new (o := .lst (cutV xs (some (at' + 1)) none)) [] hp2
            have k2 : upd H5 p2 (.lst (cutV xs (some (at' + 1)) none)) p2 = some (.lst (cutV xs (some (at' + 1)) none)) := upd_same
            generalize upd H5 p2 (.lst (cutV xs (some (at' + 1)) none)) = H6 at *
            have c1 := cutV_length xs none (some at')
            have c2 := cutV_length xs (some (at' + 1)) none
            refine ⟨p1, p2, _, _, rfl, rfl, g2.all k1, k2, by rw [sizeLine_eq]; omega, fun p3 hp3 => ?_⟩
            have g3 := g1.trans (g2.trans (Fx.new (o := .lst (cutV xs none (some at') ++ cutV xs (some (at' + 1)) none)) [] hp3))
            refine new none _ p3 _ (f3.trans g3).any ((pu3.fx g3 (fun z => nomatch z)).mono (by omega)) upd_same (by rw [List.length_append]; omega) fun y hy => ?_
            rcases List.mem_append.mp hy with hy | hy
            · exact cutV_mem hy
            · exact cutV_mem hy
          | false =>
          rw [if_neg (by decide)]
          refine ifS_of (fun b H4 => H3 = H4) (fun go hgo => ?_) (fun b H4 h => ?_)
          · simp only [tSeq, tAsg, tOp, tUn, tCB, tCons, tNil, tVar, tC, rI, rI0, rU, tRet, tRetN, gName, tIfS, tTest, tIf, tB, tNot, tAnd, tOr, tAndV, tOrV, tNotV, tCmp, t2I, tLst, tTup, tCall, tCalK0, tNext, tChain, tSl, tPart, tNoPart, tPar, tDrop, gSub, gTupT, gCons, gNil, rSetL, rIxl, rIxt, rSlt, rEq, rNe, L2.start, tLc_eq, tFor_eq, iTup, iList, iRng1, iRng2, iEnumT, tYes, pts_nil,
  List.map_cons, List.map_nil, List.length_cons, List.length_nil, List.replicate_succ, List.replicate_zero, Nat.reduceAdd, Nat.reduceSub, Nat.add_zero, Nat.zero_add, List.cons_append, List.nil_append, List.append_nil, List.getElem?_cons_zero, List.getElem?_cons_succ, List.set_cons_zero, List.set_cons_succ, wipe,
  Option.some.injEq, exists_eq_left', exists_eq_left, V.int.injEq, V.bl.injEq, V.str.injEq, V.ref.injEq, HO.lst.injEq, HO.tup.injEq, List.cons.injEq, and_true, true_and, reduceCtorEq, false_or, or_false, false_and, and_false, exists_false, exists_and_left, exists_eq, and_assoc, if_true, if_false, Bool.false_eq_true, decide_eq_true_eq, upd_same]
            exact ⟨rfl, hgo _ _ rfl⟩
          subst h
          cases b with
          | true =>
            rw [if_pos rfl]
            simp only [tSeq, tAsg, tOp, tUn, tCB, tCons, tNil, tVar, tC, rI, rI0, rU, tRet, tRetN, gName, tIfS, tTest, tIf, tB, tNot, tAnd, tOr, tAndV, tOrV, tNotV, tCmp, t2I, tLst, tTup, tCall, tCalK0, tNext, tChain, tSl, tPart, tNoPart, tPar, tDrop, gSub, gTupT, gCons, gNil, rSetL, rIxl, rIxt, rEq, rNe, L2.start, tLc_eq, tFor_eq, iTup, iList, iRng1, iRng2, iEnumT, tYes, pts_nil,
  List.map_cons, List.map_nil, List.length_cons, List.length_nil, List.replicate_succ, List.replicate_zero, Nat.reduceAdd, Nat.reduceSub, Nat.add_zero, Nat.zero_add, List.cons_append, List.nil_append, List.append_nil, List.getElem?_cons_zero, List.getElem?_cons_succ, List.set_cons_zero, List.set_cons_succ, wipe,
  Option.some.injEq, exists_eq_left', exists_eq_left, V.int.injEq, V.bl.injEq, V.str.injEq, V.ref.injEq, HO.lst.injEq, HO.tup.injEq, List.cons.injEq, and_true, true_and, reduceCtorEq, false_or, or_false, false_and, and_false, exists_false, exists_and_left, exists_eq, and_assoc, if_true, if_false, Bool.false_eq_true, decide_eq_true_eq, upd_same]
            refine ⟨xs, e3, x, hat, by decide, fun p1 hp1 => ?_⟩
            have g1 := Fx.new (o := .lst [x]) [] hp1
            have k1 : upd H3 p1 (.lst [x]) p1 = some (.lst [x]) := upd_same
            generalize upd H3 p1 (.lst [x]) = H5 at *
            refine ⟨L, p1, xs, [x], rfl, rfl, g1.all e3, k1, by rw [sizeLine_eq]; show xs.length + 1 ≤ _; omega, fun p3 hp3 => ?_⟩
            have g3 := g1.trans (Fx.new (o := .lst (xs ++ [x])) [] hp3)
            refine new none _ p3 _ (f3.trans g3).any ((pu3.fx g3 (fun z => nomatch z)).mono (by omega)) upd_same (by rw [List.length_append]; show xs.length + 1 ≤ _; omega) fun y hy => ?_
            rcases List.mem_append.mp hy with hy | hy
            · exact hy
            · rw [List.mem_singleton.mp hy]
              exact List.mem_of_getElem? hx
          | false =>
          rw [if_neg (by decide)]
          refine ifS_of (fun b H4 => H3 = H4 ∧ (b = true → ∃ b' zs, x = .ref b' ∧ H2 b' = some (.tup zs) ∧ zs.length ≤ n ∧ ∀ y ∈ zs, Gd 0 n H2 y)) (fun go hgo => ?_) (fun b H4 h => ?_)
          · simp only [tSeq, tAsg, tOp, tUn, tCB, tCons, tNil, tVar, tC, rI, rI0, rU, tRet, tRetN, gName, tIfS, tTest, tIf, tB, tNot, tAnd, tOr, tAndV, tOrV, tNotV, tCmp, t2I, tLst, tTup, tCall, tCalK0, tNext, tChain, tSl, tPart, tNoPart, tPar, tDrop, gSub, gTupT, gCons, gNil, rSetL, rIxl, rIxt, rSlt, rEq, rNe, L2.start, tLc_eq, tFor_eq, iTup, iList, iRng1, iRng2, iEnumT, tYes, pts_nil,
  List.map_cons, List.map_nil, List.length_cons, List.length_nil, List.replicate_succ, List.replicate_zero, Nat.reduceAdd, Nat.reduceSub, Nat.add_zero, Nat.zero_add, List.cons_append, List.nil_append, List.append_nil, List.getElem?_cons_zero, List.getElem?_cons_succ, List.set_cons_zero, List.set_cons_succ, wipe,
  Option.some.injEq, exists_eq_left', exists_eq_left, V.int.injEq, V.bl.injEq, V.str.injEq, V.ref.injEq, HO.lst.injEq, HO.tup.injEq, List.cons.injEq, and_true, true_and, reduceCtorEq, false_or, or_false, false_and, and_false, exists_false, exists_and_left, exists_eq, and_assoc, if_true, if_false, Bool.false_eq_true, decide_eq_true_eq, upd_same]
            refine ⟨xs, e3, x, hat, ?_⟩
            rcases gx2.is with ⟨b, zs, rfl, eb, lz, gz, dx, rx, tx⟩ | ⟨dx, rx, tx⟩
            · refine isi_rp (f3.rp rx) (by decide) ?_
              rw [tx]
              exact ⟨true, rfl, hgo _ _ ⟨rfl, fun _ => ⟨b, zs, rfl, eb, lz, gz⟩⟩⟩
            · refine isi_rp (f3.rp rx) (by decide) ?_
              rw [tx]
              exact ⟨false, rfl, hgo _ _ ⟨rfl, fun z => nomatch z⟩⟩
          obtain ⟨rfl, hb⟩ := h
          cases b with
          | true =>
            rw [if_pos rfl]
            obtain ⟨b, zs, rfl, eb, lz, gz⟩ := hb rfl
            have eb3 := f3.tup eb
            simp only [tSeq, tAsg, tOp, tUn, tCB, tCons, tNil, tVar, tC, rI, rI0, rU, tRet, tRetN, gName, tIfS, tTest, tIf, tB, tNot, tAnd, tOr, tAndV, tOrV, tNotV, tCmp, t2I, tLst, tTup, tCall, tCalK0, tNext, tChain, tSl, tPart, tNoPart, tPar, tDrop, gSub, gTupT, gCons, gNil, rSetL, rIxl, rIxt, rEq, rNe, L2.start, tLc_eq, tFor_eq, iTup, iList, iRng1, iRng2, iEnumT, tYes, pts_nil,
  List.map_cons, List.map_nil, List.length_cons, List.length_nil, List.replicate_succ, List.replicate_zero, Nat.reduceAdd, Nat.reduceSub, Nat.add_zero, Nat.zero_add, List.cons_append, List.nil_append, List.append_nil, List.getElem?_cons_zero, List.getElem?_cons_succ, List.set_cons_zero, List.set_cons_succ, wipe,
  Option.some.injEq, exists_eq_left', exists_eq_left, V.int.injEq, V.bl.injEq, V.str.injEq, V.ref.injEq, HO.lst.injEq, HO.tup.injEq, List.cons.injEq, and_true, true_and, reduceCtorEq, false_or, or_false, false_and, and_false, exists_false, exists_and_left, exists_eq, and_assoc, if_true, if_false, Bool.false_eq_true, decide_eq_true_eq, upd_same]
            refine ⟨xs, e3, _, hat, ?_⟩
            have old : ∀ {M : List Addr} {Hy : Hp}, Fx M H2 Hy → ∀ y ∈ zs, Gd 0 (2 * n + 1) Hy y := fun f y hy => Gd.mono (Gd.fx f (gz y hy)) (by omega)
            refine slt_go eb3 fun c1 H5 w1 f5 k5 l5 m5 => ?_
            refine ⟨xs, f5.all e3, _, hat, xs, f5.all e3, _, hat, ?_⟩
            refine slt_go (f5.tup eb3) fun c2 H6 w2 f6 k6 l6 m6 => ?_
            refine cat_go (f6.tup (f5.tup eb3)) k6 (by omega) fun c3 H7 f7 k7 => ?_
            have g7 := f5.trans (f6.trans f7)
            refine ⟨xs, g7.all e3, _, hat, b, rfl, zs, .inr (SqT.of (g7.tup eb3)), fun l hl' => ?_⟩
            have f8 := Fx.new (o := .lst zs) [] hl'
            have k8 : upd H7 l (.lst zs) l = some (.lst zs) := upd_same
            generalize upd H7 l (.lst zs) = H8 at *
            refine ⟨xs, f8.all (g7.all e3), _, hat, ?_⟩
            refine rep_go (f8.tup (g7.tup eb3)) (by omega) fun c4 H9 f9 k9 => ?_
            refine ⟨by decide, fun p2 hp2 => ?_⟩
            have f10 := Fx.new (o := .lst [V.ref c1, V.ref c3, V.ref l, V.ref c4]) [] hp2
            have k10 : upd H9 p2 (.lst [V.ref c1, V.ref c3, V.ref l, V.ref c4]) p2 = some (.lst [V.ref c1, V.ref c3, V.ref l, V.ref c4]) := upd_same
            generalize upd H9 p2 (.lst [V.ref c1, V.ref c3, V.ref l, V.ref c4]) = H10 at *
            have g10 := g7.trans (f8.trans (f9.trans f10))
            have pu10 := pu3.fx g10 (fun z => nomatch z)
            have ne10 := pu_ne pu10 k10 (show ¬ 4 = 3 by decide)
            refine ⟨p, 4, N + 1, rfl, by decide, by decide, pu10, by omega, fun d H11 q0 q1 f11 pu11 => ⟨_, d, rfl, f11.keep p2 _ (by rw [List.mem_singleton]; exact ne10) k10, ?_⟩⟩
            have tot : Fx [p] H2 H11 := (f3.trans g10).any.trans f11
            have go : d = 0 ∨ d = 1 ∨ d = 2 ∨ d = 3 := by omega
            rcases go with rfl | rfl | rfl | rfl
            · exact ⟨.ref c1, rfl, setv none H11 _ tot (pu11.mono (by omega)) (.tup (f11.tup (f10.tup (f9.tup (f8.tup (f7.tup (f6.tup k5)))))) (by omega) fun y hy => old tot y (m5 y hy))⟩
            · refine ⟨.ref c3, rfl, setv none H11 _ tot (pu11.mono (by omega)) (.tup (f11.tup (f10.tup (f9.tup (f8.tup k7)))) (by rw [List.length_append]; omega) fun y hy => ?_)⟩
              rcases List.mem_append.mp hy with hy | hy
              · exact old tot y hy
              · exact old tot y (m6 y hy)
            · exact ⟨.ref l, rfl, setv none H11 _ tot (pu11.mono (by omega)) (Gd.fx f11 (Gd.lst (f10.all (f9.all k8))))⟩
            · refine ⟨.ref c4, rfl, setv none H11 _ tot (pu11.mono (by omega)) (.tup (f11.tup (f10.tup k9)) (by rw [List.length_append]; omega) fun y hy => ?_)⟩
              rcases List.mem_append.mp hy with hy | hy
              · exact old tot y hy
              · exact old tot y hy
          | false =>
            rw [if_neg (by decide)]
            exact hrest _ _ ⟨L, xs, none, rfl, e3, by omega, fun y hy => Gd.mono (Gd.fx (f12.trans f3.any) (hg y hy)) (by omega), f12.trans f3.any, pu3.mono (by omega)⟩
end
end K02
namespace K02
open PySem PySem.Spec PyProof.Rows L2 LT
section
variable {P : Program} {w : World} {K : PySem.W.Frag} {mg : Str → Option Value} {base : Heap} {cs : Nat → Addr}
def spBent : Sp := fun vs H Q _ => ∃ (p a : Addr) (N n : Nat) (xs : List V), vs = [.ref p, .ref a] ∧ H a = some (.tup xs) ∧ xs.length = 3 ∧ (∀ x ∈ xs, Gd 2 n H x) ∧ 4 ≤ n ∧ n ≤ 40 ∧ Pu N H p ∧ N ≤ 700000000000 ∧
  ∀ v H', Fx [p] H H' → Pu (N + 20) H' p → Gd 3 (2 * n + 1) H' v → Q v H'
section
variable {H0 : Hp} {σ : L2.St} {j L m : Nat} {xs : List V} {K' : PySem.W.Frag}
theorem el_cut {lo hi : Option Int} {t1 t2 : TO} (hs : σ[j]? = some (some (.ref L))) (e : H0 L = some (.lst xs)) (hl : xs.length ≤ m) (hg : ∀ x ∈ xs, ∀ {M : List Addr} {Hy : Hp}, Fx M H0 Hy → Gd 2 m Hy x)
    (h1 : ∀ {H : Hp} (Q : Option Int → Hp → Prop), Q lo H → t1 σ H Q) (h2 : ∀ {H : Hp} (Q : Option Int → Hp → Prop), Q hi H → t2 σ H Q) :
    El (RG 3 m) H0 σ (tCB (fun xs H Q => ∃ p ys, xs = [V.ref p] ∧ H p = some (.lst ys) ∧ ∀ l, H l = none → Q (.ref l) (upd H l (.tup ys))) (tCons (tSl (rSlL K') (tVar j) t1 t2) tNil)) () := by
  intro H Q fx q
  refine ⟨_, hs, h1 _ (h2 _ ⟨L, xs, rfl, SqL.of (fx.all e), fun p1 hp1 => ⟨p1, cutV xs lo hi, rfl, upd_same, fun l hl1 => ?_⟩⟩)⟩
  have g : Fx [] H (upd (upd H p1 (.lst (cutV xs lo hi))) l (.tup (cutV xs lo hi))) := (Fx.new _ hp1).trans (Fx.new _ hl1)
  exact q _ _ g (.tup upd_same (Nat.le_trans (cutV_length xs lo hi) hl) fun y hy => hg y (cutV_mem hy) (fx.trans g))
theorem el_more (hs : σ[j]? = some (some (.ref L))) (e : H0 L = some (.lst xs)) (hl : xs.length + 1 ≤ m ∧ m ≤ 1000) (hg : ∀ x ∈ xs, ∀ {M : List Addr} {Hy : Hp}, Fx M H0 Hy → Gd 2 m Hy x) :
    El (RG 3 m) H0 σ (tCB (fun xs H Q => ∃ p ys, xs = [V.ref p] ∧ H p = some (.lst ys) ∧ ∀ l, H l = none → Q (.ref l) (upd H l (.tup ys))) (tCons (tOp rCat (tVar j) (tLst (tCons (tC (.int 0)) tNil))) tNil)) () := by
  intro H Q fx q
  refine ⟨_, hs, by rw [sizeLine_eq]; show 1 ≤ _; omega, fun p1 hp1 => ⟨L, p1, xs, [.int 0], rfl, rfl, (Fx.new (o := .lst [V.int 0]) [] hp1).all (fx.all e), upd_same, by rw [sizeLine_eq]; show xs.length + 1 ≤ _; omega, fun p2 hp2 => ⟨p2, xs ++ [.int 0], rfl, upd_same, fun l hl1 => ?_⟩⟩⟩
  have g : Fx [] H (upd (upd (upd H p1 (.lst [.int 0])) p2 (.lst (xs ++ [.int 0]))) l (.tup (xs ++ [.int 0]))) := (Fx.new _ hp1).trans ((Fx.new _ hp2).trans (Fx.new _ hl1))
  refine q _ _ g (.tup upd_same (by rw [List.length_append]; exact hl.1) fun y hy => ?_)
  rcases List.mem_append.mp hy with hy | hy
  · exact hg y hy (fx.trans g)
  · rw [List.mem_singleton.mp hy]
    exact .int _
theorem el_varL {k : Nat} (hs : σ[j]? = some (some (.ref L))) (e : H0 L = some (.lst xs)) : El (RG k m) H0 σ (tVar j) () := fun H Q fx q => ⟨_, hs, q _ H (Fx.refl _ _) (Gd.lst (fx.all e))⟩
theorem el_disG {k : Nat} {s : Str} {i : Int} : El (RG k m) H0 σ (tDisp [(tC (.str s), tC (.int i))]) () := fun H Q _ q p hp =>
  ⟨upd_same, [(.inr s, .int i)], rfl, (show 1 ≤ 15 by decide), by
    rw [upd_upd]
    exact q _ _ (Fx.new _ hp) (.dct upd_same)⟩
theorem el_ixG (i : Nat) (n' : Int) (hn : n' = i) (hi : decide (i < 3) = true) (hs : σ[j]? = some (some (.ref L))) (e : H0 L = some (.lst xs)) (hl : 3 ≤ xs.length) (hg : ∀ x ∈ xs, ∀ {M : List Addr} {Hy : Hp}, Fx M H0 Hy → Gd 2 m Hy x) :
    El (RG 2 m) H0 σ (tOp rIxl (tVar j) (tC (.int n'))) () := by
  intro H Q fx q
  have hi' := of_decide_eq_true hi
  subst hn
  have hx : xs[i]? = some xs[i] := List.getElem?_eq_getElem (by omega)
  exact ⟨_, hs, L, xs, _, xs[i], rfl, rfl, fx.all e, atI_nat hx, q _ H (Fx.refl _ _) (hg _ (List.mem_of_getElem? hx) fx)⟩
end
theorem ok_bent (z : Z mg) (c__law_draw : Cal P w K mg base CX0 "_law_draw" 2 ["_law_purse_here", "_law_out_of"] spDraw) (c__law_odd : Cal P w K mg base CX0 "_law_odd" 3 ["_law_purse_here", "_law_many"] spOdd)
    (c__law_bent_part : Cal P w K mg base CX0 "_law_bent_part" 4 ["_law_purse_here", "_law_row_here", "_law_way"] spPart) {f : Addr} {fd : FuncData} (F : Fun K "_law_bent" "_law_bent" s__law_bent f fd) : FnOk P w K mg base CX0 5 f fd ["_law_purse_here", "_law_thing"] spBent := by
  refine F.ok sc__law_bent (fun vs H Q E h => ?_) (fun cdv A outer s H vs Q E hr h => ⟨_, (pss_cons (ps_set (i := 2) sc__law_bent.nd rfl (.inl rfl) (pe_callTy call_list_of (by rfl) z.list (by decide +kernel) (pa_cons (pv 1) pa_nil)))
      (pss_cons (ps_set (i := 3) sc__law_bent.nd rfl (.inl rfl) (pe_cal c__law_draw hr rfl pass0 (pa_cons (pv 0) (pa_cons pe_int pa_nil))))
      (pss_cons (ps_set (i := 4) sc__law_bent.nd rfl (.inl rfl) (pe_op op_add pe_int (pe_cal c__law_draw hr rfl pass0 (pa_cons (pv 0) (pa_cons pe_int pa_nil)))))
      (pss_cons (ps_if (PW.pt (pw_and (pt_cmpR op_lt (pv 3) pe_int (nomark _)) (pw_and (pt_val (pe_callB (call_isiE K rfl) (by rfl) z.isinstance (by decide +kernel) (pa_cons (pe_ix ix_l (pv 2) (pv 4) (fun _ _ => rfl)) (pa_cons (pe_bltn (v := .ty "tuple") (by rfl) z.tuple (by decide +kernel) rfl) pa_nil)))) (pw_and1 (pt_cmpR (op_neNil hr.units) (pe_ix ix_l (pv 2) (pv 4) (fun _ _ => rfl)) (pe_tup pa_nil) (nomark _)))))) (pss_cons (ps_asg (pe_cal c__law_bent_part hr rfl pass0 (pa_cons (pv 0) (pa_cons (pe_ix ix_l (pv 2) (pv 4) (fun _ _ => rfl)) (pa_cons (pv 3) pa_nil)))) (pg_sub (pv 2) (pv 4) set_list))
      (pss_one (ps_ret (pe_callTy call_tupL (by rfl) z.tuple (by decide +kernel) (pa_cons (pv 2) pa_nil))))) pss_nil)
      (pss_cons (ps_if (pt_cmpR op_lt (pv 3) pe_int (nomark _)) (pss_cons (ps_set (i := 4) sc__law_bent.nd rfl (.inl rfl) (pe_cal c__law_draw hr rfl pass0 (pa_cons (pv 0) (pa_cons pe_int pa_nil))))
      (pss_cons (ps_asg (pe_cal c__law_odd hr rfl pass0 (pa_cons (pv 0) (pa_cons (pe_ifExp (pt_val (pe_callB (call_isiE K rfl) (by rfl) z.isinstance (by decide +kernel) (pa_cons (pe_ix ix_l (pv 2) pe_int (fun _ _ => rfl)) (pa_cons (pe_bltn (v := .ty "tuple") (by rfl) z.tuple (by decide +kernel) rfl) pa_nil)))) (pe_callB call_lenT (by rfl) z.len (by decide +kernel) (pa_cons (pe_ix ix_l (pv 2) pe_int (fun _ _ => rfl)) pa_nil)) pe_int) pa_nil))) (pg_sub (pv 2) (pv 4) set_list))
      (pss_one (ps_ret (pe_callTy call_tupL (by rfl) z.tuple (by decide +kernel) (pa_cons (pv 2) pa_nil)))))) pss_nil)
      (pss_cons (ps_set (i := 5) sc__law_bent.nd rfl (.inl rfl) (pe_lst (pa_cons (pe_callTy call_tupL (by rfl) z.tuple (by decide +kernel) (pa_cons (pe_slice sl_list (pv 2) po_none (po_some pe_int)) pa_nil)) (pa_cons (pe_callTy call_tupL (by rfl) z.tuple (by decide +kernel) (pa_cons (pe_op op_cat (pv 2) (pe_lst (pa_cons pe_int pa_nil))) pa_nil)) (pa_cons (pv 2) (pa_cons pe_non (pa_cons (pe_tup pa_nil) (pa_cons pe_str (pa_cons pe_int (pa_cons (pe_disp (pps_cons pe_str pe_int pps_nil) rfl rfl (fun z => nomatch z) (by decide)) pa_nil))))))))))
      (pss_one (ps_ret (pe_ix ix_l (pe_op op_cat (pv 5) (pe_lst (pa_cons (pe_tup (pa_cons (pe_ix ix_l (pv 2) pe_int (fun _ _ => rfl)) (pa_cons (pe_ix ix_l (pv 2) pe_int (fun _ _ => rfl)) (pa_cons (pe_ix ix_l (pv 2) pe_int (fun _ _ => rfl)) pa_nil)))) pa_nil))) (pe_cal c__law_draw hr rfl pass0 (pa_cons (pv 0) (pa_cons pe_int pa_nil))) (fun _ _ => rfl)))))))))), ?_⟩)
  · obtain ⟨p, a, N, n, xs, rfl, _⟩ := h
    rfl
  · obtain ⟨p, a, N, n, xs, rfl, ea, hl, hg, n4, n40, pu, hN, q⟩ := h
    refine ⟨_, rfl, a, xs, rfl, .inr (SqT.of ea), fun L hL => ?_⟩
    have f1 := Fx.new (o := .lst xs) [] hL
    have e1 : upd H L (.lst xs) L = some (.lst xs) := upd_same
    have neL : L ∉ [p] := by
      rw [List.mem_singleton]
      rintro rfl
      exact pu.at hL
    have pu1 := pu.fx f1 (fun z => nomatch z)
    generalize upd H L (.lst xs) = H1 at *
    refine ⟨_, rfl, p, 8, N, rfl, by omega, by omega, pu1, by omega, fun way H2 w0 w1 f2 pu2 => ?_⟩
    refine ⟨_, rfl, p, 2, N + 1, rfl, by omega, by omega, pu2, by omega, fun wh H3 wh0 wh1 f3 pu3 => ?_⟩
    have e3 := f3.keep L _ neL (f2.keep L _ neL e1)
    have f13 : Fx [p] H H3 := f1.any.trans (f2.trans f3)
    refine ⟨1, wh, rfl, rfl, ?_⟩
    dsimp only [gName]
    obtain ⟨wi, hwi⟩ : ∃ wi : Int, 1 + wh = wi := ⟨_, rfl⟩
    rw [hwi]
    have wi1 : 1 ≤ wi ∧ wi < 3 := by omega
    have hd : wi.toNat < xs.length := by omega
    obtain ⟨x, hx⟩ : ∃ x, xs[wi.toNat]? = some x := ⟨_, List.getElem?_eq_getElem hd⟩
    have hat := atI_of (by omega) hx
    have gx := Gd.fx f13 (hg x (List.mem_of_getElem? hx))
    have hix : ∀ i : Int, 0 ≤ i → i < 3 → ixN xs.length i = some i.toNat := by
      intro i i0 i3
      unfold ixN
      rw [if_pos i0, if_pos (by omega)]
    have ret : ∀ Hx v j, Fx [p] H3 Hx → Pu (N + 19) Hx p → Gd 2 (2 * n + 1) Hx v → ∀ l, (upd Hx L (.lst (xs.set j v))) l = none → Q (.ref l) (upd (upd Hx L (.lst (xs.set j v))) l (.tup (xs.set j v))) := by
      intro Hx v j fx pux gv l hl1
      have ex := fx.keep L _ neL e3
      have fp : Fx [L] Hx (upd Hx L (.lst (xs.set j v))) := Fx.put (List.mem_singleton.mpr rfl) ex
      have fp2 : Fx (L :: [p]) Hx (upd Hx L (.lst (xs.set j v))) := Fx.put List.mem_cons_self ex
      have fl := Fx.new (o := .tup (xs.set j v)) [] hl1
      have neLp : p ∉ [L] := by
        rw [List.mem_singleton]
        rintro rfl
        exact neL (List.mem_singleton.mpr rfl)
      refine q _ _ (((f13.trans fx).dropL fp2 hL).trans fl.any) (((pux.fx fp neLp).fx fl (fun z => nomatch z)).mono (by omega)) (.tup upd_same (by rw [List.length_set]; omega) fun y hy => ?_)
      refine Gd.fx fl (Gd.fx fp ?_)
      rcases List.mem_or_eq_of_mem_set hy with hy | rfl
      · exact Gd.mono (Gd.fx (f13.trans fx) (hg y hy)) (by omega)
      · exact gv
    show tSeq _ _ _ [some (.ref p), some (.ref a), some (.ref L), some (.int way), some (.int wi), none] _
    refine seq_any (fun σ' H' => σ' = [some (.ref p), some (.ref a), some (.ref L), some (.int way), some (.int wi), none] ∧ Fx [] H3 H') (fun σ' H4 h => ?_) fun rest hrest => ?_
    · obtain ⟨rfl, f4⟩ := h
      have e4 := f4.all e3
      have pu4 := pu3.fx f4 (fun z => nomatch z)
      refine seq_any (fun σ' H' => ∃ x4, σ' = [some (.ref p), some (.ref a), some (.ref L), some (.int way), x4, none] ∧ H' = H4) (fun σ' H5 h => ?_) fun rest hrest => ?_
      · obtain ⟨x4, rfl, rfl⟩ := h
        have gm : ∀ x ∈ xs, ∀ {M : List Addr} {Hy : Hp}, Fx M H5 Hy → Gd 2 (2 * n + 1) Hy x := fun x hx {_ _} f => Gd.mono (Gd.fx f (Gd.fx (f13.trans f4.any) (hg x hx))) (by omega)
        have at3 : ∀ i : Nat, i < 3 → ∃ y, xs[i]? = some y := fun i hi => ⟨_, List.getElem?_eq_getElem (by omega)⟩
        refine st_lst (R := RG 3 (2 * n + 1)) mono_RG (els_cons mono_RG (el_cut (lo := none) (hi := some 2) (t1 := tNoPart) (t2 := tPart (tC (.int 2))) rfl e4 (by omega) gm (fun Q h => h) (fun Q h => ⟨2, rfl, h⟩))
          (els_cons mono_RG (el_more rfl e4 (by omega) gm) (els_cons mono_RG (el_varL rfl e4) (els_cons mono_RG (el_G fun _ => .non) (els_cons mono_RG (el_tupG els_nil (Nat.zero_le _) (by omega)) (els_cons mono_RG (el_G fun _ => .str _) (els_cons mono_RG (el_G fun _ => .int _) (els_cons mono_RG el_disG els_nil))))))))
          (Nat.le_of_ble_eq_true rfl) fun W ws H6 f6 e6 p6 => ?_
        refine op_cat_el (R := RG 3 (2 * n + 1)) mono_RG rfl e6 p6 (els_cons mono_RG (el_tupG (els_cons mono_RG (el_ixG 0 0 rfl rfl rfl (f6.all e4) (by omega) fun x hx {_ _} f => gm x hx (f6.any.trans f)) (els_cons mono_RG (el_ixG 2 2 rfl rfl rfl (f6.all e4) (by omega) fun x hx {_ _} f => gm x hx (f6.any.trans f))
          (els_cons mono_RG (el_ixG 1 1 rfl rfl rfl (f6.all e4) (by omega) fun x hx {_ _} f => gm x hx (f6.any.trans f)) els_nil))) (by show 3 ≤ _; omega) (by omega)) els_nil) (Nat.le_of_ble_eq_true rfl) fun V vs H7 f7 e7 p7 => ?_
        have hl7 : vs.length = 9 := paired_len p7
        have pu7 := (pu4.fx f6 (fun z => nomatch z)).fx f7 (fun z => nomatch z)
        have ne7 := pu_ne pu7 e7 (by omega)
        refine ⟨_, rfl, p, 9, N + 1 + 1, rfl, by decide, by decide, pu7, by omega, fun d H8 d0 d1 f8 pu8 => ?_⟩
        have hd8 : d.toNat < vs.length := by omega
        obtain ⟨u, r⟩ := Paired.right p7 _ (List.getElem_mem hd8)
        exact ⟨V, vs, d, _, rfl, rfl, f8.keep V _ (by rw [List.mem_singleton]; exact ne7) e7, atI_of d0 (List.getElem?_eq_getElem hd8), q _ _ (f13.trans ((f4.trans (f6.trans f7)).any.trans f8)) (pu8.mono (by omega)) (Gd.fx f8 r)⟩
      · refine ifS_of (fun b H5 => H4 = H5) (fun go hgo => ?_) (fun b H5 h => ?_)
        · simp only [tSeq, tAsg, tOp, tUn, tCB, tCons, tNil, tVar, tC, rI, rI0, rU, tRet, tRetN, gName, tIfS, tTest, tIf, tB, tNot, tAnd, tOr, tAndV, tOrV, tNotV, tCmp, t2I, tLst, tTup, tCall, tCalK0, tNext, tChain, tSl, tPart, tNoPart, tPar, tDrop, gSub, gTupT, gCons, gNil, rSetL, rIxl, rIxt, rSlt, rEq, rNe, L2.start, tLc_eq, tFor_eq, iTup, iList, iRng1, iRng2, iEnumT, tYes, pts_nil,
  List.map_cons, List.map_nil, List.length_cons, List.length_nil, List.replicate_succ, List.replicate_zero, Nat.reduceAdd, Nat.reduceSub, Nat.add_zero, Nat.zero_add, List.cons_append, List.nil_append, List.append_nil, List.getElem?_cons_zero, List.getElem?_cons_succ, List.set_cons_zero, List.set_cons_succ, wipe,
  Option.some.injEq, exists_eq_left', exists_eq_left, V.int.injEq, V.bl.injEq, V.str.injEq, V.ref.injEq, HO.lst.injEq, HO.tup.injEq, List.cons.injEq, and_true, true_and, reduceCtorEq, false_or, or_false, false_and, and_false, exists_false, exists_and_left, exists_eq, and_assoc, if_true, if_false, Bool.false_eq_true, decide_eq_true_eq, upd_same]
          exact hgo _ _ rfl
        subst h
        cases b with
        | true =>
          rw [if_pos rfl]
          simp only [tSeq, tAsg, tOp, tUn, tCB, tCons, tNil, tVar, tC, rI, rI0, rU, tRet, tRetN, gName, tIfS, tTest, tIf, tB, tNot, tAnd, tOr, tAndV, tOrV, tNotV, tCmp, t2I, tLst, tTup, tCall, tCalK0, tNext, tChain, tSl, tPart, tNoPart, tPar, tDrop, gSub, gTupT, gCons, gNil, rSetL, rIxl, rIxt, rEq, rNe, L2.start, tLc_eq, tFor_eq, iTup, iList, iRng1, iRng2, iEnumT, tYes, pts_nil,
  List.map_cons, List.map_nil, List.length_cons, List.length_nil, List.replicate_succ, List.replicate_zero, Nat.reduceAdd, Nat.reduceSub, Nat.add_zero, Nat.zero_add, List.cons_append, List.nil_append, List.append_nil, List.getElem?_cons_zero, List.getElem?_cons_succ, List.set_cons_zero, List.set_cons_succ, wipe,
  Option.some.injEq, exists_eq_left', exists_eq_left, V.int.injEq, V.bl.injEq, V.str.injEq, V.ref.injEq, HO.lst.injEq, HO.tup.injEq, List.cons.injEq, and_true, true_and, reduceCtorEq, false_or, or_false, false_and, and_false, exists_false, exists_and_left, exists_eq, and_assoc, if_true, if_false, Bool.false_eq_true, decide_eq_true_eq, upd_same]
          refine ⟨p, 3, N + 1 + 1, rfl, by decide, by decide, pu4, by omega, fun d H5 d0 d1 f5 pu5 => ?_⟩
          have e5 := f5.keep L _ neL e4
          obtain ⟨y1, hy1⟩ : ∃ y1, xs[1]? = some y1 := ⟨_, List.getElem?_eq_getElem (by omega)⟩
          have hat1 : atI xs 1 = some y1 := atI_of (by decide) hy1
          have g1 := Gd.fx ((f13.trans f4.any).trans f5) (hg y1 (List.mem_of_getElem? hy1))
          refine ⟨xs, e5, y1, hat1, ?_⟩
          rcases g1.is with ⟨b1, zs1, rfl, eb1, lz1, gz1, dx, rx, tx⟩ | ⟨dx, rx, tx⟩
          · refine isi_rp rx (by decide) ?_
            rw [tx]
            refine ⟨true, rfl, ?_⟩
            rw [if_pos rfl]
            exact ⟨xs, e5, _, hat1, b1, rfl, zs1, eb1, p, (zs1.length : Nat), N + 1 + 1 + 1, rfl, pu5, by omega, fun o H6 f6 pu6 go => ⟨xs, d, rfl, f6.keep L _ neL e5, _, hix d d0 d1, fun l hl1 => ret H6 o _ ((f4.any.trans f5).trans f6) (pu6.mono (by omega)) (Gd.mono go.down (by omega)) l hl1⟩⟩
          · refine isi_rp rx (by decide) ?_
            rw [tx]
            refine ⟨false, rfl, ?_⟩
            rw [if_neg (by decide)]
            exact ⟨p, 1, N + 1 + 1 + 1, rfl, pu5, by omega, fun o H6 f6 pu6 go => ⟨xs, d, rfl, f6.keep L _ neL e5, _, hix d d0 d1, fun l hl1 => ret H6 o _ ((f4.any.trans f5).trans f6) (pu6.mono (by omega)) (Gd.mono go.down (by omega)) l hl1⟩⟩
        | false =>
          rw [if_neg (by decide)]
          exact hrest _ _ ⟨_, rfl, rfl⟩
    · refine ifS_of (fun b H4 => Fx [] H3 H4 ∧ (b = true → ∃ b' zs, x = .ref b' ∧ H3 b' = some (.tup zs) ∧ zs ≠ [] ∧ zs.length ≤ n ∧ ∀ y ∈ zs, Gd 1 n H3 y)) (fun go hgo => ?_) (fun b H4 h => ?_)
      · simp only [tSeq, tAsg, tOp, tUn, tCB, tCons, tNil, tVar, tC, rI, rI0, rU, tRet, tRetN, gName, tIfS, tTest, tIf, tB, tNot, tAnd, tOr, tAndV, tOrV, tNotV, tCmp, t2I, tLst, tTup, tCall, tCalK0, tNext, tChain, tSl, tPart, tNoPart, tPar, tDrop, gSub, gTupT, gCons, gNil, rSetL, rIxl, rIxt, rSlt, rEq, rNe, L2.start, tLc_eq, tFor_eq, iTup, iList, iRng1, iRng2, iEnumT, tYes, pts_nil,
  List.map_cons, List.map_nil, List.length_cons, List.length_nil, List.replicate_succ, List.replicate_zero, Nat.reduceAdd, Nat.reduceSub, Nat.add_zero, Nat.zero_add, List.cons_append, List.nil_append, List.append_nil, List.getElem?_cons_zero, List.getElem?_cons_succ, List.set_cons_zero, List.set_cons_succ, wipe,
  Option.some.injEq, exists_eq_left', exists_eq_left, V.int.injEq, V.bl.injEq, V.str.injEq, V.ref.injEq, HO.lst.injEq, HO.tup.injEq, List.cons.injEq, and_true, true_and, reduceCtorEq, false_or, or_false, false_and, and_false, exists_false, exists_and_left, exists_eq, and_assoc, if_true, if_false, Bool.false_eq_true, decide_eq_true_eq, upd_same]
        by_cases h0 : way < 5
        · rw [if_pos h0]
          refine ⟨xs, e3, x, hat, ?_⟩
          rcases gx.is with ⟨b, zs, rfl, eb, lz, gz, dx, rx, tx⟩ | ⟨dx, rx, tx⟩
          · refine isi_rp rx (by decide) ?_
            rw [tx]
            refine ⟨true, rfl, ?_⟩
            rw [if_pos rfl]
            refine ⟨xs, e3, _, hat, by decide, fun p1 hp1 => ?_⟩
            have g := Fx.new (o := .tup []) [] hp1
            refine ⟨b, p1, zs, rfl, rfl, SqT.of (g.tup eb), SqT.of upd_same, _, rfl, hgo _ _ ⟨g, fun hb => ⟨b, zs, rfl, eb, fun z => ?_, lz, gz⟩⟩⟩
            subst z
            cases hb
          · refine isi_rp rx (by decide) ?_
            rw [tx]
            refine ⟨false, rfl, ?_⟩
            rw [if_neg (by decide)]
            exact hgo _ _ ⟨Fx.refl _ _, fun z => nomatch z⟩
        · rw [if_neg h0]
          exact hgo _ _ ⟨Fx.refl _ _, fun z => nomatch z⟩
      · obtain ⟨f4, hb⟩ := h
        cases b with
        | true =>
          rw [if_pos rfl]
          obtain ⟨b, zs, rfl, eb, nz, lz, gz⟩ := hb rfl
          simp only [tSeq, tAsg, tOp, tUn, tCB, tCons, tNil, tVar, tC, rI, rI0, rU, tRet, tRetN, gName, tIfS, tTest, tIf, tB, tNot, tAnd, tOr, tAndV, tOrV, tNotV, tCmp, t2I, tLst, tTup, tCall, tCalK0, tNext, tChain, tSl, tPart, tNoPart, tPar, tDrop, gSub, gTupT, gCons, gNil, rSetL, rIxl, rIxt, rEq, rNe, L2.start, tLc_eq, tFor_eq, iTup, iList, iRng1, iRng2, iEnumT, tYes, pts_nil,
  List.map_cons, List.map_nil, List.length_cons, List.length_nil, List.replicate_succ, List.replicate_zero, Nat.reduceAdd, Nat.reduceSub, Nat.add_zero, Nat.zero_add, List.cons_append, List.nil_append, List.append_nil, List.getElem?_cons_zero, List.getElem?_cons_succ, List.set_cons_zero, List.set_cons_succ, wipe,
  Option.some.injEq, exists_eq_left', exists_eq_left, V.int.injEq, V.bl.injEq, V.str.injEq, V.ref.injEq, HO.lst.injEq, HO.tup.injEq, List.cons.injEq, and_true, true_and, reduceCtorEq, false_or, or_false, false_and, and_false, exists_false, exists_and_left, exists_eq, and_assoc, if_true, if_false, Bool.false_eq_true, decide_eq_true_eq, upd_same]
          exact ⟨xs, f4.all e3, _, hat, p, b, way, N + 1 + 1, n, zs, rfl, f4.tup eb, nz, lz, (fun y hy => Gd.fx f4 (gz y hy)), by omega, by omega, pu3.fx f4 (fun z => nomatch z), by omega,
            fun v H5 f5 pu5 gv => ⟨xs, f5.keep L _ neL (f4.all e3), _, hix wi (by omega) (by omega), fun l hl1 => ret H5 v _ (f4.any.trans f5) (pu5.mono (by omega)) gv l hl1⟩⟩
        | false =>
          rw [if_neg (by decide)]
          exact hrest _ _ ⟨rfl, f4⟩
end
end K02
namespace K02
open PySem PySem.Spec PyProof.Rows L2 LT
theorem isRow_ints (r : List Int) (n : Int) : isRow (intsD r) n = r.all fun x => decide (0 ≤ x) && decide (x ≤ n - 1) := by
  show (r.map LT.D.int).all _ = _
  rw [List.all_map]
  rfl
theorem badAt_none {n s : Nat} : ∀ (ds : List LT.D) (k : Nat), (∀ d ∈ ds, badHere n s d = false) → badAt n s ds k = none
  | [], _, _ => rfl
  | d :: ds, k, h => by
    have h1 := h d List.mem_cons_self
    show (if badHere n s d = true then some k else badAt n s ds (k + 1)) = none
    rw [h1, if_neg (by decide)]
    exact badAt_none ds _ fun x hx => h x (List.mem_cons_of_mem _ hx)
theorem checkD_mac {m : Mac} {wd s : Nat} (h : MacOk m wd) : checkD (macD m) s = if s = wd then .non else .tup [.str "steps", .int 0] := by
  have hne : m.steps ≠ [] := fun z => by have := h.pos; rw [z] at this; exact absurd this (by decide)
  have hna : m.answers ≠ [] := fun z => by have := h.ans; rw [z] at this; have := h.pos; simp_all
  have hf : isForm (macD m) = true := by
    unfold macD intsD isForm
    cases e : m.steps with
    | nil => exact absurd e hne
    | cons a b =>
      cases e2 : m.answers with
      | nil => exact absurd e2 hna
      | cons c d => rfl
  have row : ∀ r ∈ m.steps, isRow (intsD r) (m.steps.length : Nat) = true := by
    intro r hr
    rw [isRow_ints, List.all_eq_true]
    intro x hx
    obtain ⟨x0, x1⟩ := (h.row r hr).2 x hx
    rw [decide_eq_true x0, decide_eq_true (by omega)]
    rfl
  unfold checkD
  rw [hf, if_neg (by decide)]
  show (match badAt (m.steps.map intsD).length s (m.steps.map intsD) 0 with
    | some k => LT.D.tup [.str "steps", .int k]
    | none => if decide ((m.answers.map LT.D.int).length = (m.steps.map intsD).length) && ((m.answers.map LT.D.int).all fun x => isInteger x 0 99) then (if isInteger (.int m.start) 0 ((m.steps.map intsD).length - 1) then .non else .tup [.str "start"]) else .tup [.str "answers"]) = _
  rw [List.length_map, List.length_map]
  by_cases hs : s = wd
  · rw [if_pos hs, badAt_none]
    · have a1 : ((m.answers.map LT.D.int).all fun x => isInteger x 0 99) = true := by
        rw [List.all_map, List.all_eq_true]
        intro x hx
        obtain ⟨x0, x1⟩ := h.told x hx
        show (decide (0 ≤ x) && decide (x ≤ 99)) = true
        rw [decide_eq_true x0, decide_eq_true x1]
        rfl
      have a2 : isInteger (.int m.start) 0 ((m.steps.length : Nat) - 1) = true := by
        show (decide (0 ≤ m.start) && decide (m.start ≤ (m.steps.length : Nat) - 1)) = true
        have := h.st1
        rw [decide_eq_true h.st0, decide_eq_true (by omega)]
        rfl
      show (if (decide (m.answers.length = m.steps.length) && _) = true then _ else _) = _
      rw [a1, decide_eq_true h.ans, if_pos (by rfl), if_pos a2]
    · intro d hd
      obtain ⟨r, hr, rfl⟩ := List.mem_map.mp hd
      unfold badHere
      rw [row r hr]
      show (!true || !decide ((r.map LT.D.int).length = s)) = false
      rw [List.length_map, (h.row r hr).1, decide_eq_true hs.symm]
      rfl
  · rw [if_neg hs]
    cases e : m.steps with
    | nil => exact absurd e hne
    | cons r rs =>
      have hb : badHere (r :: rs).length s (intsD r) = true := by
        unfold badHere
        show (!_ || !decide ((r.map LT.D.int).length = s)) = true
        rw [List.length_map, (h.row r (by rw [e]; exact List.mem_cons_self)).1, decide_eq_false (fun z => hs z.symm)]
        exact Bool.or_true _
      show (match (if badHere (r :: rs).length s (intsD r) = true then some 0 else badAt (r :: rs).length s (rs.map intsD) (0 + 1)) with
        | some k => LT.D.tup [.str "steps", .int k]
        | none => _) = _
      rw [if_pos hb]
      rfl
theorem short2_mac {m : Mac} {wd : Nat} (h : MacOk m wd) (hw : wd ≤ 1000) : short2 (macD m) := by
  intro x hx
  have hf := h.few
  have ha := h.ans
  simp only [List.mem_cons, List.not_mem_nil, or_false] at hx
  rcases hx with rfl | rfl | rfl
  · trivial
  · refine ⟨by rw [List.length_map]; omega, fun y hy => ?_⟩
    obtain ⟨r, hr, rfl⟩ := List.mem_map.mp hy
    show (r.map LT.D.int).length ≤ 1000000
    rw [List.length_map, (h.row r hr).1]
    omega
  · refine ⟨by rw [List.length_map]; omega, fun y hy => ?_⟩
    obtain ⟨r, hr, rfl⟩ := List.mem_map.mp hy
    trivial

section
variable {P : Program} {w : World} {K : PySem.W.Frag} {mg : Str → Option Value} {base : Heap} {cs : Nat → Addr}
theorem sizeD_mac {m : Mac} {wd : Nat} (h : MacOk m wd) (h0 : 1 ≤ wd) (h4 : wd ≤ 4) : sizeD (macD m) = some wd := by
  refine sizeD_first h0 h4 (by rw [checkD_mac h, if_pos rfl]; rfl) fun j h1 h2 => ?_
  rw [checkD_mac h, if_neg (by omega)]
  rfl
theorem ask_go {way : Int} {x y : V} {dx dy : LT.D} {word : Str} {b : Bool} {H : Hp} {G : VK} (rx : Rp H x dx) (ry : Rp H y dy) (ak : Ask way dx dy word b) (res : V) (hres : (if b = true then x else y) = res) (h : ∀ H', Fx [] H H' → G (.bl false) H') :
    spAsked [.int way, x, y] H (fun r H1 => 2 ≤ sizeLine ∧ ∀ p, H1 p = none → rLsT K false r (.ref p) (upd H1 p (.lst [.str word, res])) G) E0 := by
  refine ⟨way, x, dx, y, dy, word, b, rfl, rx, ry, ak, fun p H1 _ f1 e1 => ⟨by decide, fun p2 hp2 => ?_⟩⟩
  rw [hres] at e1
  have f2 := Fx.new (o := .lst [.str word, res]) [] hp2
  have fl : flatB res = true ∨ ∃ a, res = .ref a := by
    cases b
    · rw [← hres]
      exact ry.flat
    · rw [← hres]
      exact rx.flat
  refine ⟨p, p2, _, _, 1, rfl, rfl, SqL.of (f2.all e1), SqL.of upd_same, by decide, paired_refl (n := 0) fun z hz => ?_, h _ (f1.trans f2)⟩
  simp only [List.mem_cons, List.not_mem_nil, or_false] at hz
  rcases hz with rfl | rfl
  · exact .inl rfl
  · exact fl
/-- data with a property, or lists that have it -/
def RP (P : LT.D → Prop) (H : Hp) (_ : Unit) (x : V) : Prop := ∃ d, Rp H x d ∧ P d
theorem RP.fx {P : LT.D → Prop} {M : List Addr} {H H' : Hp} {u : Unit} {x : V} (f : Fx M H H') (h : RP P H u x) : RP P H' u x := let ⟨d, r, p⟩ := h; ⟨d, f.rp r, p⟩
theorem mono_RP {P : LT.D → Prop} : MonoR (RP P) := fun _ _ _ _ f h => h.fx f
section
variable {P : LT.D → Prop} {H H0 : Hp} {σ : L2.St} {t : TE} {ts : TA} {d : LT.D} {j : Nat} {v x y : V} {us : List Unit} {l : List V} {way : Int}
theorem el_RP (e : El RpR H0 σ t d) (h : P d) : El (RP P) H0 σ t () := fun H Q f q => e H _ f fun x H' f' r => q x H' f' ⟨d, r, h⟩
theorem el_RPl {us' : List LT.D} (es : Els RpR H0 σ ts us') (sz : us'.length ≤ 1000) (h : ∀ a, P (.lst a)) : El (RP P) H0 σ (tLst ts) () := fun H Q f q =>
  es H _ f fun xs H1 f1 pr => ⟨by rw [paired_len pr, sizeLine_eq]; omega, fun a ha => q _ _ (f1.trans (Fx.new _ ha)) ⟨.lst a, .lst upd_same, h a⟩⟩
theorem ifN {c : TT} {t u : TS} {Dn : Ends} {σ : L2.St} {H : Hp} (hc : ∀ go : Bool → Hp → Prop, (∀ H1, Fx [] H H1 → go false H1) → c σ H go) (h : ∀ H1, Fx [] H H1 → u Dn σ H1) : tSeq (tIfS c t tNext) u Dn σ H :=
  hc (fun b H1 => if b = true then t { Dn with nx := u Dn } σ H1 else tNext { Dn with nx := u Dn } σ H1) fun H1 f => by
    rw [if_neg (by decide)]
    exact h H1 f
/-- asked(way, x, e) -/
theorem el_askB {dx dy : LT.D} {word : Str} (hσ : σ[j]? = some (some x)) (rx : Rp H0 x dx) (e : El RpR H0 σ t dy) (ak : Ask way dx dy word true) : El IsV H0 σ (tCall spAsked [] E0 (tCons (tC (.int way)) (tCons (tVar j) (tCons t tNil)))) [.str word, x] := by
  intro H Q f q
  refine ⟨x, hσ, e H _ f fun y H1 f1 ry => ?_⟩
  exact ⟨way, x, dx, y, dy, word, true, rfl, (f.trans f1).rp rx, ry, ak, fun p H2 _ f2 e2 => q _ _ (f1.trans f2) ⟨p, rfl, e2⟩⟩
theorem el_two {word : Str} (hσ : σ[j]? = some (some x)) : El IsV H0 σ (tLst (tCons (tC (.str word)) (tCons (tVar j) tNil))) [.str word, x] := fun H Q f q =>
  ⟨x, hσ, (by show 2 ≤ sizeLine; decide), fun a ha => q _ _ (Fx.new _ ha) ⟨a, rfl, upd_same⟩⟩
theorem el_varLL {a : Addr} {xs : List V} {ls : List (List V)} (hσ : σ[j]? = some (some (.ref a))) (e : H0 a = some (.lst xs)) (p : Paired (IsV H0) ls xs) : El (IsL IsV) H0 σ (tVar j) ls := fun H Q f q =>
  ⟨_, hσ, q _ H (Fx.refl _ _) ⟨a, xs, rfl, f.all e, paired_fx mono_IsV f p⟩⟩
end
theorem seq_asg {te : TE} {g : TG} {u : TS} {Dn : Ends} {σ : L2.St} {H : Hp} (h : te σ H fun x H1 => g x σ H1 (u Dn)) : tSeq (tAsg te g) u Dn σ H := h
theorem for_lst {A : Type} {R : Hp → A → V → Prop} {H : Hp} {σ : L2.St} {ts : TA} {us : List A} {g : TG} {tb : TS} {Dn : Ends} (m : MonoR R) (es : Els R H σ ts us) (sz : us.length ≤ 1000) (h : ∀ L xs H', Fx [] H H' → H' L = some (.lst xs) → Paired (R H') us xs → ForGo (Itl K L) g tb Dn σ H') :
    tFor (iList K (tLst ts)) g tb Dn σ H := es H _ (Fx.refl _ _) fun xs H1 f1 pr => ⟨by rw [paired_len pr, sizeLine_eq]; omega, fun L hL => ⟨L, rfl, ⟨_, SqL.of upd_same⟩, h L xs _ (f1.trans (Fx.new _ hL)) upd_same (paired_fx m (Fx.new _ hL) pr)⟩⟩
theorem rowF {ds : List LT.D} {n : Int} {x : LT.D} (hx : x ∈ ds) (h : isInteger x 0 (n - 1) = false) : isRow (.tup ds) n = false := by
  show (ds.all fun x => isInteger x 0 (n - 1)) = false
  rw [List.all_eq_false]
  exact ⟨x, hx, by rw [h]; decide⟩
theorem mapF {d : LT.D} {n : Int} (h : isRow d n = false) : mapOk d n = false := by
  cases d with
  | tup ds =>
    show (isRow (.tup ds) n && _) = false
    rw [h]
    rfl
  | _ => rfl
theorem intF {n : Nat} : isInteger (.int n) 0 ((n : Int) - 1) = false := by
  show (decide ((0 : Int) ≤ n) && decide ((n : Int) ≤ n - 1)) = false
  rw [decide_eq_false (show ¬ (n : Int) ≤ n - 1 by omega), Bool.and_false]
def spDoors : Sp := fun vs H Q _ => ∃ (p : Addr) (N size : Nat) (m : Mac) (va vb : V) (db : LT.D), vs = [.ref p, va, .int size, vb] ∧ Rp H va (macD m) ∧ MacOk m size ∧ 1 ≤ size ∧ size ≤ 4 ∧ Rp H vb db ∧ short2 db ∧ short db ∧ sizeD db = none ∧ Pu N H p ∧ N ≤ 600000000000 ∧
  ∀ H', Fx [p] H H' → Pu (N + 300) H' p → Q (.bl true) H'
theorem ok_doors (z : Z mg) (c__law_draw : Cal P w K mg base CX0 "_law_draw" 2 ["_law_purse_here", "_law_out_of"] spDraw) (c__law_machine : Cal P w K mg base CX0 "_law_machine" 3 ["_law_purse_here", "_law_size", "_law_most"] spMachine)
    (c__law_asked : Cal P w K mg base CX0 "_law_asked" 7 ["_law_way", "_law_one", "_law_two"] spAsked) {f : Addr} {fd : FuncData} (F : Fun K "_law_doors_right" "_law_doors_right" s__law_doors_right f fd) :
    FnOk P w K mg base CX0 8 f fd ["_law_purse_here", "_law_asker", "_law_size", "_law_bad"] spDoors := by
  refine F.ok sc__law_doors_right (fun vs H Q E h => ?_) (fun cdv A outer s H vs Q E hr h => ⟨_, (pss_cons (ps_set (i := 4) sc__law_doors_right.nd rfl (.inl rfl) (pe_ix ix_l (pe_lst (pa_cons pe_non (pa_cons pe_int (pa_cons (pe_lst (pa_cons pe_int pa_nil)) (pa_cons (pe_tup (pa_cons (pv 2) pa_nil)) (pa_cons (pe_tup (pa_cons pe_int (pa_cons (pe_un un_neg pe_int) pa_nil))) (pa_cons (pe_tup (pa_cons pe_bl pa_nil)) (pa_cons pe_str (pa_cons (pe_tup (pa_cons pe_int (pa_cons pe_non pa_nil))) (pa_cons (pe_tup (pa_cons (pe_tup (pa_cons pe_int pa_nil)) pa_nil)) pa_nil)))))))))) (pe_cal c__law_draw hr rfl pass0 (pa_cons (pv 0) (pa_cons pe_int pa_nil))) (fun _ _ => rfl)))
      (pss_cons (ps_for PassesOwn.never rfl (pi_range1 (by rfl) z.range (pa_cons pe_int pa_nil)) (pg_name (i := 5) sc__law_doors_right.nd rfl (.inl rfl))
      (pss_one (ps_if (pt_cmpR (op_neT hr.units) (pe_cal c__law_asked hr rfl pass0 (pa_cons (pv 5) (pa_cons (pv 3) (pa_cons (pv 4) pa_nil)))) (pe_lst (pa_cons pe_str (pa_cons (pv 3) pa_nil))) (nomark _)) (pss_one (ps_ret pe_bl)) pss_nil)))
      (pss_cons (ps_if (PW.pt (pw_or (pt_cmpR (op_neT hr.units) (pe_cal c__law_asked hr rfl pass0 (pa_cons pe_int (pa_cons (pv 1) (pa_cons (pv 4) pa_nil)))) (pe_lst (pa_cons pe_str (pa_cons (pv 4) pa_nil))) (nomark _)) (pw_or1 (pt_cmpR (op_neT hr.units) (pe_cal c__law_asked hr rfl pass0 (pa_cons pe_int (pa_cons (pv 1) (pa_cons (pv 3) pa_nil)))) (pe_lst (pa_cons pe_str (pa_cons (pv 3) pa_nil))) (nomark _))))) (pss_one (ps_ret pe_bl)) pss_nil)
      (pss_cons (ps_set (i := 6) sc__law_doors_right.nd rfl (.inl rfl) (pe_lst (pa_cons (pe_cal c__law_asked hr rfl pass0 (pa_cons pe_int (pa_cons (pv 3) (pa_cons (pv 1) pa_nil)))) (pa_cons (pe_cal c__law_asked hr rfl pass0 (pa_cons pe_int (pa_cons (pv 3) (pa_cons (pe_tup pa_nil) pa_nil)))) (pa_cons (pe_cal c__law_asked hr rfl pass0 (pa_cons pe_int (pa_cons (pv 3) (pa_cons (pe_tup (pa_cons pe_int pa_nil)) pa_nil)))) pa_nil)))))
      (pss_cons (ps_if (pt_cmpR (op_neT hr.units) (pv 6) (pe_op op_rep (pe_lst (pa_cons (pe_lst (pa_cons pe_str (pa_cons (pv 3) pa_nil))) pa_nil)) pe_int) (nomark _)) (pss_one (ps_ret pe_bl)) pss_nil)
      (pss_cons (ps_set (i := 7) sc__law_doors_right.nd rfl (.inl rfl) (pe_op op_catA (pe_op op_repT (pe_tup (pa_cons pe_int pa_nil)) pe_int) (pe_tup (pa_cons (pv 2) pa_nil))))
      (pss_cons (ps_if (pt_cmpR (op_neT hr.units) (pe_cal c__law_asked hr rfl pass0 (pa_cons pe_int (pa_cons (pv 1) (pa_cons (pv 7) pa_nil)))) (pe_lst (pa_cons pe_str (pa_cons (pv 7) pa_nil))) (nomark _)) (pss_one (ps_ret pe_bl)) pss_nil)
      (pss_cons (ps_for PassesOwn.never rfl (pi_list (pe_lst (pa_cons (pv 4) (pa_cons (pe_tup pa_nil) (pa_cons (pe_op op_repT (pe_tup (pa_cons pe_int pa_nil)) pe_int) (pa_cons (pe_lst (pa_cons pe_int pa_nil)) (pa_cons (pe_tup (pa_cons pe_int (pa_cons pe_int (pa_cons pe_int (pa_cons (pv 2) pa_nil))))) (pa_cons (pe_op op_repT (pe_tup (pa_cons pe_int pa_nil)) pe_int) pa_nil)))))))) (pg_name (i := 8) sc__law_doors_right.nd rfl (.inl rfl))
      (pss_one (ps_if (pt_cmpR (op_neT hr.units) (pe_cal c__law_asked hr rfl pass0 (pa_cons pe_int (pa_cons (pv 1) (pa_cons (pv 8) pa_nil)))) (pe_lst (pa_cons pe_str (pa_cons (pv 8) pa_nil))) (nomark _)) (pss_one (ps_ret pe_bl)) pss_nil)))
      (pss_cons (ps_set (i := 9) sc__law_doors_right.nd rfl (.inl rfl) (pe_cal c__law_machine hr rfl pass0 (pa_cons (pv 0) (pa_cons (pe_op op_add pe_int (pe_op op_mod (pe_callTy call_intI (by rfl) z.int (by decide +kernel) (pa_cons (pe_op op_add (pv 2) (pe_cal c__law_draw hr rfl pass0 (pa_cons (pv 0) (pa_cons pe_int pa_nil)))) pa_nil)) pe_int)) (pa_cons pe_int pa_nil)))))
      (pss_cons (ps_if (pt_cmpR (op_neT hr.units) (pe_cal c__law_asked hr rfl pass0 (pa_cons pe_int (pa_cons (pv 1) (pa_cons (pv 9) pa_nil)))) (pe_lst (pa_cons pe_str (pa_cons (pv 9) pa_nil))) (nomark _)) (pss_one (ps_ret pe_bl)) pss_nil)
      (pss_cons (ps_set (i := 10) sc__law_doors_right.nd rfl (.inr rfl) (pe_ix ix_l (pe_lst (pa_cons pe_non (pa_cons pe_int (pa_cons pe_int (pa_cons (pe_un un_neg pe_int) (pa_cons pe_bl (pa_cons pe_str (pa_cons (pe_tup (pa_cons pe_int pa_nil)) (pa_cons (pe_lst (pa_cons pe_int pa_nil)) pa_nil))))))))) (pe_cal c__law_draw hr rfl pass0 (pa_cons (pv 0) (pa_cons pe_int pa_nil))) (fun _ _ => rfl)))
      (pss_one (ps_ret (pe_cmpR (op_eqT hr.units) (pe_lc (own := [("_law_thing", 11)]) rfl sc__law_doors_right.nd (pi_tup (pe_tup (pa_cons (pv 1) (pa_cons (pv 3) (pa_cons pe_non pa_nil))))) (blkOk_by (own := [("_law_thing", 11)]) (N := ["_law_purse_here", "_law_asker", "_law_size", "_law_bad", "_law_odd_here", "_law_way", "_law_good", "_law_far", "_law_row_here", "_law_other", "_law_least", "_law_thing"]) (sc := (defScope s__law_doors_right)) (by decide +kernel)) (fun _ _ _ _ _ => (pg_name (i := 11) sc__law_doors_right.nd rfl (.inl rfl))) (fun _ _ _ _ _ => pts_nil) (fun _ _ _ _ _ => (pe_cal c__law_asked hr rfl pass0 (pa_cons pe_int (pa_cons (pv 11) (pa_cons (pv 10) pa_nil)))))) (pe_op op_rep (pe_lst (pa_cons (pe_lst (pa_cons pe_str (pa_cons (pv 10) pa_nil))) pa_nil)) pe_int) (nomark _))))))))))))))), ?_⟩)
  · obtain ⟨p, N, size, m, va, vb, db, rfl, _⟩ := h
    rfl
  · obtain ⟨p, N, size, m, va, vb, db, rfl, ra, mo, s1, s4, rb, sb2, sb, sb0, pu, hN, q⟩ := h
    have sa2 := short2_mac mo (by omega)
    have sa := sizeD_mac mo s1 s4
    have sa' : short (macD m) := by show 3 ≤ 1000000; decide
    have mR := @mono_RpR
    show tSeq _ _ _ [some (.ref p), some va, some (.int size), some vb, none, none, none, none, none, none, none, none] H
    refine seq_asg ?_
    refine pick (R := RP (fun d => short d ∧ isRow d size = false)) mono_RP (fun _ _ _ _ f h => h.fx f) (els_cons mono_RP (el_RP (el_rpC fun _ => .non) ⟨trivial, rfl⟩) (els_cons mono_RP (el_RP (el_rpC fun _ => .int _) ⟨trivial, rfl⟩)
      (els_cons mono_RP (el_RPl (els_cons mR (el_rpC fun _ => .int _) els_nil) (by decide) fun a => ⟨trivial, rfl⟩)
      (els_cons mono_RP (el_RP (el_rpT (els_cons mR (el_rpV rfl (.int _)) els_nil) (by show 1 ≤ 1000; decide)) ⟨by show 1 ≤ 1000000; decide, rowF List.mem_cons_self intF⟩)
      (els_cons mono_RP (el_RP (el_rpT (els_cons mR (el_rpC fun _ => .int _) (els_cons mR el_rpN els_nil)) (by show 2 ≤ 1000; decide)) ⟨by show 2 ≤ 1000000; decide, rowF (List.mem_cons_of_mem _ List.mem_cons_self) rfl⟩)
      (els_cons mono_RP (el_RP (el_rpT (els_cons mR (el_rpC fun _ => .bl _) els_nil) (by show 1 ≤ 1000; decide)) ⟨by show 1 ≤ 1000000; decide, rowF List.mem_cons_self rfl⟩)
      (els_cons mono_RP (el_RP (el_rpC fun _ => .str _) ⟨trivial, rfl⟩)
      (els_cons mono_RP (el_RP (el_rpT (els_cons mR (el_rpC fun _ => .int _) (els_cons mR (el_rpC fun _ => .non) els_nil)) (by show 2 ≤ 1000; decide)) ⟨by show 2 ≤ 1000000; decide, rowF (List.mem_cons_of_mem _ List.mem_cons_self) rfl⟩)
      (els_cons mono_RP (el_RP (el_rpT (els_cons mR (el_rpT (els_cons mR (el_rpC fun _ => .int _) els_nil) (by show 1 ≤ 1000; decide)) els_nil) (by show 1 ≤ 1000; decide)) ⟨by show 1 ≤ 1000000; decide, rowF List.mem_cons_self rfl⟩) els_nil)))))))))
      rfl pu (by omega) 9 rfl (by decide) fun _ odd H1 _ f1 pu1 ro => ?_
    obtain ⟨dO, rO, sO, nO⟩ := ro
    have ra1 := f1.rp ra
    have rb1 := f1.rp rb
    dsimp only [gName]
    show tSeq _ _ _ [some (.ref p), some va, some (.int size), some vb, some odd, none, none, none, none, none, none, none] H1
    refine seq_any (fun σ' H' => (∃ x5, σ' = [some (.ref p), some va, some (.int size), some vb, some odd, x5, none, none, none, none, none, none]) ∧ Fx [] H1 H') (fun σ' H2 h => ?_) fun rest hrest => ?_
    · obtain ⟨⟨x5, rfl⟩, f2⟩ := h
      have ra2 := f2.rp ra1
      have rb2 := f2.rp rb1
      have rO2 := f2.rp rO
      refine ifN (fun go hgo => ?_) fun H3 f3 => ?_
      · simp only [tSeq, tAsg, tOp, tUn, tCB, tCons, tNil, tVar, tC, rI, rI0, rU, tRet, tRetN, gName, tIfS, tTest, tIf, tB, tNot, tAnd, tOr, tAndV, tOrV, tNotV, tCmp, t2I, tLst, tTup, tCall, tCalK0, tNext, tChain, tSl, tPart, tNoPart, tPar, tDrop, gSub, gTupT, gCons, gNil, rSetL, rIxl, rIxt, rSlt, rEq, rNe, L2.start, tLc_eq, tFor_eq, iTup, iList, iRng1, iRng2, iEnumT, tYes, pts_nil,
  List.map_cons, List.map_nil, List.length_cons, List.length_nil, List.replicate_succ, List.replicate_zero, Nat.reduceAdd, Nat.reduceSub, Nat.add_zero, Nat.zero_add, List.cons_append, List.nil_append, List.append_nil, List.getElem?_cons_zero, List.getElem?_cons_succ, List.set_cons_zero, List.set_cons_succ, wipe,
  Option.some.injEq, exists_eq_left', exists_eq_left, V.int.injEq, V.bl.injEq, V.str.injEq, V.ref.injEq, HO.lst.injEq, HO.tup.injEq, List.cons.injEq, and_true, true_and, reduceCtorEq, false_or, or_false, false_and, and_false, exists_false, exists_and_left, exists_eq, and_assoc, if_true, if_false, Bool.false_eq_true, decide_eq_true_eq, upd_same]
        refine ask_go ra2 rO2 (.row sa nO sa2 sO) _ rfl fun H' f => ⟨false, rfl, ?_⟩
        rw [if_neg (by decide)]
        refine ask_go (f.rp ra2) (f.rp rb2) (.m2 sa (sizeD_none.mp sb0 size s1 s4) sa2 sb2) _ rfl fun H'' g => ⟨false, rfl, ?_⟩
        exact hgo _ (f.trans g)
      have ra3 := f3.rp ra2
      have rb3 := f3.rp rb2
      have rO3 := f3.rp rO2
      refine st_lst mono_IsV (els_cons mono_IsV (el_askB rfl rb3 (el_rpV rfl ra3) (.m0 (by decide) (by decide) sb0 sb2 sa')) (els_cons mono_IsV (el_askB rfl rb3 (el_rpT els_nil (Nat.zero_le _)) (.m0 (by decide) (by decide) sb0 sb2 (by show 0 ≤ 1000000; decide)))
        (els_cons mono_IsV (el_askB rfl rb3 (el_rpT (els_cons mR (el_rpC fun _ => .int _) els_nil) (by show 1 ≤ 1000; decide)) (.m0 (by decide) (by decide) sb0 sb2 (by show 1 ≤ 1000000; decide))) els_nil))) (Nat.le_of_ble_eq_true rfl) fun g gs H4 f4 e4 p4 => ?_
      have ra4 := f4.rp ra3
      have rb4 := f4.rp rb3
      have rO4 := f4.rp rO3
      dsimp only
      refine ifN (fun go hgo => ?_) fun H5 f5 => ?_
      · refine el_neL (el_varLL rfl e4 p4) (el_repL 3 (by decide) (el_two rfl) 3 rfl) (fun l hl => ?_) fun H' f => ⟨false, rfl, hgo _ f⟩
        have : l = [.str "machine", vb] := by
          simp only [List.mem_cons, List.not_mem_nil, or_false] at hl
          rcases hl with rfl | rfl | rfl <;> rfl
        subst this
        intro x hx
        simp only [List.mem_cons, List.not_mem_nil, or_false] at hx
        rcases hx with rfl | rfl
        · exact .inl rfl
        · exact rb.flat
      have ra5 := f5.rp ra4
      have rb5 := f5.rp rb4
      have rO5 := f5.rp rO4
      refine seq_asg ?_
      refine el_rpCat (el_rpRep 59 (by decide) (by decide) (el_rpT (els_cons mR (el_rpC fun _ => .int _) els_nil) (by show 1 ≤ 1000; decide)) 59 rfl) (el_rpT (els_cons mR (el_rpV rfl (.int _)) els_nil) (by show 1 ≤ 1000; decide)) (by show 60 ≤ 1000; decide) H5 _ (Fx.refl _ _) fun far H6 f6 rF => ?_
      have ra6 := f6.rp ra5
      have rb6 := f6.rp rb5
      have rO6 := f6.rp rO5
      dsimp only [gName]
      refine ifN (fun go hgo => ?_) fun H7 f7 => ?_
      · simp only [tSeq, tAsg, tOp, tUn, tCB, tCons, tNil, tVar, tC, rI, rI0, rU, tRet, tRetN, gName, tIfS, tTest, tIf, tB, tNot, tAnd, tOr, tAndV, tOrV, tNotV, tCmp, t2I, tLst, tTup, tCall, tCalK0, tNext, tChain, tSl, tPart, tNoPart, tPar, tDrop, gSub, gTupT, gCons, gNil, rSetL, rIxl, rIxt, rSlt, rEq, rNe, L2.start, tLc_eq, tFor_eq, iTup, iList, iRng1, iRng2, iEnumT, tYes, pts_nil,
  List.map_cons, List.map_nil, List.length_cons, List.length_nil, List.replicate_succ, List.replicate_zero, Nat.reduceAdd, Nat.reduceSub, Nat.add_zero, Nat.zero_add, List.cons_append, List.nil_append, List.append_nil, List.getElem?_cons_zero, List.getElem?_cons_succ, List.set_cons_zero, List.set_cons_succ, wipe,
  Option.some.injEq, exists_eq_left', exists_eq_left, V.int.injEq, V.bl.injEq, V.str.injEq, V.ref.injEq, HO.lst.injEq, HO.tup.injEq, List.cons.injEq, and_true, true_and, reduceCtorEq, false_or, or_false, false_and, and_false, exists_false, exists_and_left, exists_eq, and_assoc, if_true, if_false, Bool.false_eq_true, decide_eq_true_eq, upd_same]
        refine ask_go ra6 rF (.row sa (rowF (List.mem_append_right _ List.mem_cons_self) intF) sa2 (by show 60 ≤ 1000000; decide)) _ rfl fun H' f => ⟨false, rfl, ?_⟩
        exact hgo _ f
      have ra7 := f7.rp ra6
      have rb7 := f7.rp rb6
      have rO7 := f7.rp rO6
      refine seq_any (fun σ' H' => (∃ x8, σ' = [some (.ref p), some va, some (.int size), some vb, some odd, x5, some (.ref g), some far, x8, none, none, none]) ∧ Fx [] H7 H') (fun σ' H8 h => ?_) fun rest hrest => ?_
      · obtain ⟨⟨x8, rfl⟩, f8⟩ := h
        have ra8 := f8.rp ra7
        have rb8 := f8.rp rb7
        have pu8 : Pu (N + 1) H8 p := (((((((pu1.fx f2 (fun z => nomatch z)).fx f3 (fun z => nomatch z)).fx f4 (fun z => nomatch z)).fx f5 (fun z => nomatch z)).fx f6 (fun z => nomatch z)).fx f7 (fun z => nomatch z)).fx f8 (fun z => nomatch z))
        have fH8 : Fx [p] H H8 := f1.trans (f2.trans (f3.trans (f4.trans (f5.trans (f6.trans (f7.trans f8)))))).any
        refine seq_any (fun σ' H' => ∃ v m' w', σ' = [some (.ref p), some va, some (.int size), some vb, some odd, x5, some (.ref g), some far, x8, some v, none, none] ∧ Fx [p] H8 H' ∧ Pu (N + 250) H' p ∧ MacOk m' w' ∧ w' ≠ size ∧ w' ≤ 4 ∧ Rp H' v (macD m')) (fun σ' H9 h => ?_) fun rest hrest => ?_
        · obtain ⟨v, m', w', rfl, f9, pu9, mo', ne', w4', rv⟩ := h
          have ra9 := f9.rp ra8
          have rb9 := f9.rp rb8
          refine ifN (fun go hgo => ?_) fun H10 f10 => ?_
          · simp only [tSeq, tAsg, tOp, tUn, tCB, tCons, tNil, tVar, tC, rI, rI0, rU, tRet, tRetN, gName, tIfS, tTest, tIf, tB, tNot, tAnd, tOr, tAndV, tOrV, tNotV, tCmp, t2I, tLst, tTup, tCall, tCalK0, tNext, tChain, tSl, tPart, tNoPart, tPar, tDrop, gSub, gTupT, gCons, gNil, rSetL, rIxl, rIxt, rSlt, rEq, rNe, L2.start, tLc_eq, tFor_eq, iTup, iList, iRng1, iRng2, iEnumT, tYes, pts_nil,
  List.map_cons, List.map_nil, List.length_cons, List.length_nil, List.replicate_succ, List.replicate_zero, Nat.reduceAdd, Nat.reduceSub, Nat.add_zero, Nat.zero_add, List.cons_append, List.nil_append, List.append_nil, List.getElem?_cons_zero, List.getElem?_cons_succ, List.set_cons_zero, List.set_cons_succ, wipe,
  Option.some.injEq, exists_eq_left', exists_eq_left, V.int.injEq, V.bl.injEq, V.str.injEq, V.ref.injEq, HO.lst.injEq, HO.tup.injEq, List.cons.injEq, and_true, true_and, reduceCtorEq, false_or, or_false, false_and, and_false, exists_false, exists_and_left, exists_eq, and_assoc, if_true, if_false, Bool.false_eq_true, decide_eq_true_eq, upd_same]
            refine ask_go ra9 rv (.m2 sa ?_ sa2 (short2_mac mo' (by omega))) _ rfl fun H' f => ⟨false, rfl, ?_⟩
            · rw [checkD_mac mo', if_neg (Ne.symm ne')]
              rfl
            · exact hgo _ f
          have ra10 := f10.rp ra9
          have rb10 := f10.rp rb9
          have pu10 := pu9.fx f10 (fun z => nomatch z)
          refine seq_asg ?_
          refine pick (R := RP (fun d => isInteger d 1 4 = false)) mono_RP (fun _ _ _ _ f h => h.fx f) (els_cons mono_RP (el_RP (el_rpC fun _ => .non) rfl) (els_cons mono_RP (el_RP (el_rpC fun _ => .int _) rfl) (els_cons mono_RP (el_RP (el_rpC fun _ => .int _) rfl)
            (els_cons mono_RP (el_RP el_rpN rfl) (els_cons mono_RP (el_RP (el_rpC fun _ => .bl _) rfl) (els_cons mono_RP (el_RP (el_rpC fun _ => .str _) rfl) (els_cons mono_RP (el_RP (el_rpT (els_cons mR (el_rpC fun _ => .int _) els_nil) (by show 1 ≤ 1000; decide)) rfl)
            (els_cons mono_RP (el_RPl (els_cons mR (el_rpC fun _ => .int _) els_nil) (by decide) fun a => rfl) els_nil)))))))) rfl pu10 (by omega) 8 rfl (by decide) fun _ lst H11 _ f11 pu11 rl => ?_
          obtain ⟨dL, rL, nL⟩ := rl
          have ra11 := f11.rp ra10
          have rb11 := f11.rp rb10
          dsimp only [gName]
          have fin : ∀ H', Fx [] H11 H' → Q (.bl true) H' := fun H' f => q _ (fH8.trans (f9.trans (f10.any.trans (f11.trans f.any)))) ((pu11.fx f (fun z => nomatch z)).mono (by omega))
          simp only [tSeq, tAsg, tOp, tUn, tCB, tCons, tNil, tVar, tC, rI, rI0, rU, tRet, tRetN, gName, tIfS, tTest, tIf, tB, tNot, tAnd, tOr, tAndV, tOrV, tNotV, tCmp, t2I, tLst, tTup, tCall, tCalK0, tNext, tChain, tSl, tPart, tNoPart, tPar, tDrop, gSub, gTupT, gCons, gNil, rSetL, rIxl, rIxt, rSlt, rEq, rNe, L2.start, tLc_eq, tFor_eq, iTup, iList, iRng1, iRng2, iEnumT, tYes, pts_nil,
  List.map_cons, List.map_nil, List.length_cons, List.length_nil, List.replicate_succ, List.replicate_zero, Nat.reduceAdd, Nat.reduceSub, Nat.add_zero, Nat.zero_add, List.cons_append, List.nil_append, List.append_nil, List.getElem?_cons_zero, List.getElem?_cons_succ, List.set_cons_zero, List.set_cons_succ, wipe,
  Option.some.injEq, exists_eq_left', exists_eq_left, V.int.injEq, V.bl.injEq, V.str.injEq, V.ref.injEq, HO.lst.injEq, HO.tup.injEq, List.cons.injEq, and_true, true_and, reduceCtorEq, false_or, or_false, false_and, and_false, exists_false, exists_and_left, exists_eq, and_assoc, if_true, if_false, Bool.false_eq_true, decide_eq_true_eq, upd_same]
          refine ⟨by decide, fun p1 hp1 => ⟨⟨_, SqT.of upd_same⟩, fun D hD => ?_⟩⟩
          have f12 := Fx.new (o := .tup [va, vb, V.non]) [] hp1
          have e12 : upd H11 p1 (.tup [va, vb, V.non]) p1 = some (.tup [va, vb, V.non]) := upd_same
          generalize upd H11 p1 (.tup [va, vb, V.non]) = H12 at *
          refine lc_newD (M := []) (walk_tup (xs := [va, vb, V.non])) (by show 3 ≤ 1000000; decide) hD (fun b z => nomatch z)
            (fun i H ys => Paired (fun l x => ∃ a, x = .ref a ∧ a ≠ D ∧ H a = some (.lst l)) (List.replicate i [V.str "size", lst]) ys) ?_ .nil ?_ ?_ ?_
          · rintro i Ha Hb ys _ fD pr
            exact pr.mono fun l x ⟨a, e, ne, ha⟩ => ⟨a, e, ne, fD.keep a _ (by rw [List.mem_singleton]; exact ne) ha⟩
          · rintro i Ha ys _ fx _
            exact SqT.of (fx.tup e12)
          · rintro i x Ha Hb ys N1 N2 hi fx pr eD ⟨rfl, hx⟩ hN1 hN2
            have rx : ∃ dx, Rp Hb x dx := by
              have hx' := List.mem_of_getElem? hx
              simp only [List.mem_cons, List.not_mem_nil, or_false] at hx'
              rcases hx' with rfl | rfl | rfl
              · exact ⟨_, fx.rp (f12.rp ra11)⟩
              · exact ⟨_, fx.rp (f12.rp rb11)⟩
              · exact ⟨_, .non⟩
            obtain ⟨dx, rx⟩ := rx
            simp only [tSeq, tAsg, tOp, tUn, tCB, tCons, tNil, tVar, tC, rI, rI0, rU, tRet, tRetN, gName, tIfS, tTest, tIf, tB, tNot, tAnd, tOr, tAndV, tOrV, tNotV, tCmp, t2I, tLst, tTup, tCall, tCalK0, tNext, tChain, tSl, tPart, tNoPart, tPar, tDrop, gSub, gTupT, gCons, gNil, rSetL, rIxl, rIxt, rSlt, rEq, rNe, L2.start, tLc_eq, tFor_eq, iTup, iList, iRng1, iRng2, iEnumT, tYes, pts_nil,
  List.map_cons, List.map_nil, List.length_cons, List.length_nil, List.replicate_succ, List.replicate_zero, Nat.reduceAdd, Nat.reduceSub, Nat.add_zero, Nat.zero_add, List.cons_append, List.nil_append, List.append_nil, List.getElem?_cons_zero, List.getElem?_cons_succ, List.set_cons_zero, List.set_cons_succ, wipe,
  Option.some.injEq, exists_eq_left', exists_eq_left, V.int.injEq, V.bl.injEq, V.str.injEq, V.ref.injEq, HO.lst.injEq, HO.tup.injEq, List.cons.injEq, and_true, true_and, reduceCtorEq, false_or, or_false, false_and, and_false, exists_false, exists_and_left, exists_eq, and_assoc, if_true, if_false, Bool.false_eq_true, decide_eq_true_eq, upd_same]
            refine ⟨5, x, dx, lst, dL, "size", false, rfl, rx, fx.rp (f12.rp rL), .size nL, fun q' Hc hq fc ec => hN1 _ _ fc ?_⟩
            have ne : q' ≠ D := by
              rintro rfl
              rw [eD] at hq
              cases hq
            have e1 : List.replicate (i + 1) [V.str "size", lst] = List.replicate i [V.str "size", lst] ++ [[V.str "size", lst]] := List.replicate_succ'
            rw [e1]
            exact (pr.mono fun l x ⟨a, e, n2, ha⟩ => ⟨a, e, n2, fc.all ha⟩).snoc ⟨q', rfl, ne, ec⟩
          · rintro Ha ys fx pr eD
            refine ⟨by decide, fun p2 hp2 => ⟨by decide, fun p3 hp3 => ⟨p3, 3, _, rfl, rfl, upd_same, by decide, by decide, (by show 3 ≤ sizeLine; decide), fun p4 hp4 => ?_⟩⟩⟩
            have g1 := Fx.new (o := .lst [V.str "size", lst]) [] hp2
            have g2 := Fx.new (o := .lst [V.ref p2]) [] hp3
            have g3 := Fx.new (o := .lst (List.replicate (3 : Int).toNat [V.ref p2]).flatten) [] hp4
            have k1 : upd Ha p2 (.lst [V.str "size", lst]) p2 = some (.lst [V.str "size", lst]) := upd_same
            have gg := g1.trans (g2.trans g3)
            have k4 : upd (upd (upd Ha p2 (.lst [V.str "size", lst])) p3 (.lst [V.ref p2])) p4 (.lst (List.replicate (3 : Int).toNat [V.ref p2]).flatten) p4 = some (.lst [V.ref p2, V.ref p2, V.ref p2]) := upd_same
            have k2 := (g2.trans g3).all k1
            refine ⟨D, p4, ys, _, 2, rfl, rfl, SqL.of (gg.all eD), SqL.of k4, by decide, ?_, fin _ (f12.trans (fx.trans gg))⟩
            have two : Paired (IsV (upd (upd (upd Ha p2 (.lst [V.str "size", lst])) p3 (.lst [V.ref p2])) p4 (.lst (List.replicate (3 : Int).toNat [V.ref p2]).flatten))) [[V.str "size", lst], [V.str "size", lst], [V.str "size", lst]] [V.ref p2, V.ref p2, V.ref p2] :=
              .cons ⟨p2, rfl, k2⟩ (.cons ⟨p2, rfl, k2⟩ (.cons ⟨p2, rfl, k2⟩ .nil))
            refine isV_eq (ls := [[V.str "size", lst], [V.str "size", lst], [V.str "size", lst]]) (pr.mono fun l x ⟨a, e, _, ha⟩ => ⟨a, e, gg.all ha⟩) two fun l hl => ?_
            have : l = [V.str "size", lst] := by
              simp only [List.mem_cons, List.not_mem_nil, or_false] at hl
              rcases hl with rfl | rfl | rfl <;> rfl
            subst this
            intro x hx
            simp only [List.mem_cons, List.not_mem_nil, or_false] at hx
            rcases hx with rfl | rfl
            · exact .inl rfl
            · exact rL.flat
        · simp only [tSeq, tAsg, tOp, tUn, tCB, tCons, tNil, tVar, tC, rI, rI0, rU, tRet, tRetN, gName, tIfS, tTest, tIf, tB, tNot, tAnd, tOr, tAndV, tOrV, tNotV, tCmp, t2I, tLst, tTup, tCall, tCalK0, tNext, tChain, tSl, tPart, tNoPart, tPar, tDrop, gSub, gTupT, gCons, gNil, rSetL, rIxl, rIxt, rSlt, rEq, rNe, L2.start, tLc_eq, tFor_eq, iTup, iList, iRng1, iRng2, iEnumT, tYes, pts_nil,
  List.map_cons, List.map_nil, List.length_cons, List.length_nil, List.replicate_succ, List.replicate_zero, Nat.reduceAdd, Nat.reduceSub, Nat.add_zero, Nat.zero_add, List.cons_append, List.nil_append, List.append_nil, List.getElem?_cons_zero, List.getElem?_cons_succ, List.set_cons_zero, List.set_cons_succ, wipe,
  Option.some.injEq, exists_eq_left', exists_eq_left, V.int.injEq, V.bl.injEq, V.str.injEq, V.ref.injEq, HO.lst.injEq, HO.tup.injEq, List.cons.injEq, and_true, true_and, reduceCtorEq, false_or, or_false, false_and, and_false, exists_false, exists_and_left, exists_eq, and_assoc, if_true, if_false, Bool.false_eq_true, decide_eq_true_eq, upd_same]
          refine ⟨p, 3, N + 1, rfl, by decide, by decide, pu8, by omega, fun d H9 d0 d1 f9 pu9 => ⟨d, rfl, by decide, ?_⟩⟩
          obtain ⟨w', hw⟩ : ∃ w' : Nat, 1 + ((size : Int) + d) % 4 = w' := ⟨(1 + ((size : Int) + d) % 4).toNat, by omega⟩
          rw [hw]
          exact ⟨p, w', 3, N + 1 + 1, rfl, by omega, by omega, by decide, by decide, pu9, by omega, fun v H10 m' mo' hm f10 pu10 rv => hrest _ _ ⟨v, m', w', rfl, f9.trans f10, pu10.mono (by omega), mo', by omega, by omega, rv⟩⟩
      · refine for_lst (R := RP (fun d => short d ∧ mapOk d size = false)) mono_RP (els_cons mono_RP (el_RP (el_rpV rfl rO7) ⟨sO, mapF nO⟩) (els_cons mono_RP (el_RP (el_rpT els_nil (Nat.zero_le _)) ⟨by show 0 ≤ 1000000; decide, by show (isRow (.tup []) size && false) = false; rw [Bool.and_false]⟩)
          (els_cons mono_RP (el_RP (el_rpRep 5 (by decide) (by decide) (el_rpT (els_cons mR (el_rpC fun _ => .int _) els_nil) (by show 1 ≤ 1000; decide)) 5 rfl) ⟨by show 5 ≤ 1000000; decide, by show (isRow _ size && (decide (1 ≤ 5) && decide (5 ≤ 4))) = false; rw [show (decide (1 ≤ 5) && decide (5 ≤ 4)) = false from rfl, Bool.and_false]⟩)
          (els_cons mono_RP (el_RPl (els_cons mR (el_rpC fun _ => .int _) els_nil) (by decide) fun a => ⟨trivial, rfl⟩)
          (els_cons mono_RP (el_RP (el_rpT (els_cons mR (el_rpC fun _ => .int _) (els_cons mR (el_rpC fun _ => .int _) (els_cons mR (el_rpC fun _ => .int _) (els_cons mR (el_rpV rfl (.int _)) els_nil)))) (by show 4 ≤ 1000; decide)) ⟨by show 4 ≤ 1000000; decide, mapF (rowF (List.mem_cons_of_mem _ (List.mem_cons_of_mem _ (List.mem_cons_of_mem _ List.mem_cons_self))) intF)⟩)
          (els_cons mono_RP (el_RP (el_rpRep 6 (by decide) (by decide) (el_rpT (els_cons mR (el_rpC fun _ => .int _) els_nil) (by show 1 ≤ 1000; decide)) 6 rfl) ⟨by show 6 ≤ 1000000; decide, by show (isRow _ size && (decide (1 ≤ 6) && decide (6 ≤ 4))) = false; rw [show (decide (1 ≤ 6) && decide (6 ≤ 4)) = false from rfl, Bool.and_false]⟩) els_nil)))))) (Nat.le_of_ble_eq_true rfl) fun L xs H8 f8 e8 p8 => ?_
        refine for_go (walk_list (xs := xs)) (fun i σ H' => Fx [] H8 H' ∧ ∃ x8, σ = [some (.ref p), some va, some (.int size), some vb, some odd, x5, some (.ref g), some far, x8, none, none, none]) ⟨Fx.refl _ _, none, rfl⟩ ?_ ?_ ?_
        · rintro i σ H' _ ⟨fx, _⟩
          exact SqL.of (fx.all e8)
        · rintro i x σ H9 H10 hi ⟨f9, x8, rfl⟩ ⟨rfl, hx⟩
          obtain ⟨_, d, r, sh, mp⟩ := Paired.right p8 x (List.mem_of_getElem? hx)
          simp only [tSeq, tAsg, tOp, tUn, tCB, tCons, tNil, tVar, tC, rI, rI0, rU, tRet, tRetN, gName, tIfS, tTest, tIf, tB, tNot, tAnd, tOr, tAndV, tOrV, tNotV, tCmp, t2I, tLst, tTup, tCall, tCalK0, tNext, tChain, tSl, tPart, tNoPart, tPar, tDrop, gSub, gTupT, gCons, gNil, rSetL, rIxl, rIxt, rSlt, rEq, rNe, L2.start, tLc_eq, tFor_eq, iTup, iList, iRng1, iRng2, iEnumT, tYes, pts_nil,
  List.map_cons, List.map_nil, List.length_cons, List.length_nil, List.replicate_succ, List.replicate_zero, Nat.reduceAdd, Nat.reduceSub, Nat.add_zero, Nat.zero_add, List.cons_append, List.nil_append, List.append_nil, List.getElem?_cons_zero, List.getElem?_cons_succ, List.set_cons_zero, List.set_cons_succ, wipe,
  Option.some.injEq, exists_eq_left', exists_eq_left, V.int.injEq, V.bl.injEq, V.str.injEq, V.ref.injEq, HO.lst.injEq, HO.tup.injEq, List.cons.injEq, and_true, true_and, reduceCtorEq, false_or, or_false, false_and, and_false, exists_false, exists_and_left, exists_eq, and_assoc, if_true, if_false, Bool.false_eq_true, decide_eq_true_eq, upd_same]
          refine ask_go ((f8.trans f9).rp ra7) (f9.rp r) (.map sa mp sa2 sh) _ rfl fun H' f => ⟨false, rfl, ?_⟩
          rw [if_neg (by decide)]
          exact ⟨f9.trans f, _, rfl⟩
        · rintro σ H9 ⟨f9, x8, rfl⟩
          exact hrest _ _ ⟨⟨_, rfl⟩, f8.trans f9⟩
    · simp only [tSeq, tAsg, tOp, tUn, tCB, tCons, tNil, tVar, tC, rI, rI0, rU, tRet, tRetN, gName, tIfS, tTest, tIf, tB, tNot, tAnd, tOr, tAndV, tOrV, tNotV, tCmp, t2I, tLst, tTup, tCall, tCalK0, tNext, tChain, tSl, tPart, tNoPart, tPar, tDrop, gSub, gTupT, gCons, gNil, rSetL, rIxl, rIxt, rSlt, rEq, rNe, L2.start, tLc_eq, tFor_eq, iTup, iList, iRng1, iRng2, iEnumT, tYes, pts_nil,
  List.map_cons, List.map_nil, List.length_cons, List.length_nil, List.replicate_succ, List.replicate_zero, Nat.reduceAdd, Nat.reduceSub, Nat.add_zero, Nat.zero_add, List.cons_append, List.nil_append, List.append_nil, List.getElem?_cons_zero, List.getElem?_cons_succ, List.set_cons_zero, List.set_cons_succ, wipe,
  Option.some.injEq, exists_eq_left', exists_eq_left, V.int.injEq, V.bl.injEq, V.str.injEq, V.ref.injEq, HO.lst.injEq, HO.tup.injEq, List.cons.injEq, and_true, true_and, reduceCtorEq, false_or, or_false, false_and, and_false, exists_false, exists_and_left, exists_eq, and_assoc, if_true, if_false, Bool.false_eq_true, decide_eq_true_eq, upd_same]
      refine ⟨by decide, by decide, ?_⟩
      refine for_go walk_range (fun i σ H' => Fx [] H1 H' ∧ ∃ x5, σ = [some (.ref p), some va, some (.int size), some vb, some odd, x5, none, none, none, none, none, none]) ⟨Fx.refl _ _, none, rfl⟩ ?_ ?_ ?_
      · intros; trivial
      · rintro i x σ H2 H3 hi ⟨f2, x5, rfl⟩ ⟨rfl, rfl⟩
        have hi5 : i < 5 := hi
        simp only [tSeq, tAsg, tOp, tUn, tCB, tCons, tNil, tVar, tC, rI, rI0, rU, tRet, tRetN, gName, tIfS, tTest, tIf, tB, tNot, tAnd, tOr, tAndV, tOrV, tNotV, tCmp, t2I, tLst, tTup, tCall, tCalK0, tNext, tChain, tSl, tPart, tNoPart, tPar, tDrop, gSub, gTupT, gCons, gNil, rSetL, rIxl, rIxt, rSlt, rEq, rNe, L2.start, tLc_eq, tFor_eq, iTup, iList, iRng1, iRng2, iEnumT, tYes, pts_nil,
  List.map_cons, List.map_nil, List.length_cons, List.length_nil, List.replicate_succ, List.replicate_zero, Nat.reduceAdd, Nat.reduceSub, Nat.add_zero, Nat.zero_add, List.cons_append, List.nil_append, List.append_nil, List.getElem?_cons_zero, List.getElem?_cons_succ, List.set_cons_zero, List.set_cons_succ, wipe,
  Option.some.injEq, exists_eq_left', exists_eq_left, V.int.injEq, V.bl.injEq, V.str.injEq, V.ref.injEq, HO.lst.injEq, HO.tup.injEq, List.cons.injEq, and_true, true_and, reduceCtorEq, false_or, or_false, false_and, and_false, exists_false, exists_and_left, exists_eq, and_assoc, if_true, if_false, Bool.false_eq_true, decide_eq_true_eq, upd_same]
        refine ask_go (f2.rp rb1) (f2.rp rO) (.m0 (by omega) (by omega) sb0 sb2 sO) _ rfl fun H' f => ⟨false, rfl, ?_⟩
        rw [if_neg (by decide)]
        exact ⟨f2.trans f, _, rfl⟩
      · rintro σ H2 ⟨f2, x5, rfl⟩
        exact hrest _ _ ⟨⟨_, rfl⟩, f2⟩
end
end K02
namespace K02
open PySem PySem.Spec PyProof.Rows L2 LT
def nb : Nat → Nat
  | 0 => 4
  | n + 1 => 2 * nb n + 1
theorem mac_gd {m : Mac} {wd : Nat} {H : Hp} {v : V} (h : MacOk m wd) (h4 : wd ≤ 4) (hm : m.steps.length ≤ 4) (r : Rp H v (macD m)) : Gd 3 4 H v := by
  refine ⟨_, r, ?_⟩
  refine ⟨by show 3 ≤ 4; decide, fun d hd => ?_⟩
  simp only [List.mem_cons, List.not_mem_nil, or_false] at hd
  rcases hd with rfl | rfl | rfl
  · trivial
  · refine ⟨by rw [List.length_map]; exact hm, fun d hd => ?_⟩
    obtain ⟨r, hr, rfl⟩ := List.mem_map.mp hd
    refine ⟨by rw [List.length_map, (h.row r hr).1]; exact h4, fun _ _ => trivial⟩
  · refine ⟨by rw [List.length_map, h.ans]; exact hm, fun d hd => ?_⟩
    obtain ⟨r, hr, rfl⟩ := List.mem_map.mp hd
    trivial
theorem gd_short2 {n : Nat} (hn : n ≤ 1000000) {d : LT.D} (h : sm 3 n d) : short2 d := by
  cases d with
  | tup ds => exact sm_short2 hn h
  | _ => trivial
theorem check_kinds (d : LT.D) (s : Nat) : checkD d s = .non ∨ (∃ x, (x = "form" ∨ x = "answers" ∨ x = "start") ∧ checkD d s = .tup [.str x]) ∨ ∃ k : Nat, checkD d s = .tup [.str "steps", .int k] := by
  cases hf : isForm d with
  | false => exact .inr (.inl ⟨_, .inl rfl, checkD_form hf⟩)
  | true =>
    obtain ⟨a, ss, ts, rfl, _, _⟩ := isForm_inv hf
    have e : checkD (.tup [a, .tup ss, .tup ts]) s = match badAt ss.length s ss 0 with
      | some k => .tup [.str "steps", .int k]
      | none => if decide (ts.length = ss.length) && (ts.all fun x => isInteger x 0 99) then (if isInteger a 0 (ss.length - 1) then .non else .tup [.str "start"]) else .tup [.str "answers"] := by
      unfold checkD
      rw [hf, if_neg (by decide)]
      all_goals rfl
    rw [e]
    cases badAt ss.length s ss 0 with
    | some k => exact .inr (.inr ⟨_, rfl⟩)
    | none =>
      dsimp only
      split
      · split
        · exact .inl rfl
        · exact .inr (.inl ⟨_, .inr (.inr rfl), rfl⟩)
      · exact .inr (.inl ⟨_, .inr (.inl rfl), rfl⟩)
theorem check_data (d : LT.D) (s : Nat) : plainD (checkD d s) = true ∧ SeqAt.shaped (toP (checkD d s)) = true ∧ PyData.eqv (toP (checkD d s)) (toP (checkD d s)) = true := by
  rcases check_kinds d s with e | ⟨x, hx, e⟩ | ⟨k, e⟩
  · rw [e]
    exact ⟨rfl, rfl, rfl⟩
  · rw [e]
    rcases hx with rfl | rfl | rfl <;> exact ⟨rfl, by decide +kernel, by decide +kernel⟩
  · rw [e]
    refine ⟨rfl, ?_, ?_⟩
    · show (PyData.canLay0 (.tuple [.str "steps", .int k]) && decide (PyData.depth (.tuple [.str "steps", .int k]) ≤ 64)) = true
      have e2 : PyData.canLay0 (.tuple [.str "steps", .int k]) = true := by
        simp only [PyData.canLay0, PyData.canLayAll0]
        decide +kernel
      rw [e2]
      rfl
    · simp [toP, toPs, PyData.eqv, PyData.eqvAll]
theorem isNon_iff {H : Hp} {v : V} {d : LT.D} (h : Rp H v d) : decide (v = .non) = isNon d := by
  cases h <;> rfl
section
variable {P : Program} {w : World} {K : PySem.W.Frag} {mg : Str → Option Value} {base : Heap} {cs : Nat → Addr}
theorem for_rngX {wi : TI} {g : TG} {tb : TS} {Dn : Ends} {σ : L2.St} {H : Hp} {T : Nat → Hp → Prop} (F : ∀ go : It → Hp → Prop, (∀ n H', T n H' → go (Itr 0 n) H') → wi σ H go) (h : ∀ n H', T n H' → ForGo (Itr 0 n) g tb Dn σ H') : tFor wi g tb Dn σ H := F (fun J H1 => ForGo J g tb Dn σ H1) h
theorem ret_of {te : TE} {Dn : Ends} {σ : L2.St} {H : Hp} (h : te σ H Dn.rt) : tRet te Dn σ H := h
theorem op_callT {r : R2} {sp : Sp} {t1 t2 tb : TE} {σ : L2.St} {H : Hp} {Q : VK} (h : t1 σ H fun x H1 => t2 σ H1 fun y H2 => sp [x, y] H2 (fun u H3 => tb σ H3 fun w H4 => r u w H4 Q) E0) : tOp r (tCall sp [] E0 (tCons t1 (tCons t2 tNil))) tb σ H Q := h
def spLaw (K : PySem.W.Frag) : Sp := fun vs H Q _ => ∃ (a : Addr) (ns : List Int), vs = [.ref a] ∧ SqL K H a (ns.map V.int) ∧ ns.length ≤ 63 ∧ ∀ H', Q (.bl true) H'
theorem ok_law (z : Z mg) (c__law_purse : Cal P w K mg base CX0 "_law_purse" 1 ["_law_script", "_law_at"] (spPurse K)) (c__law_draw : Cal P w K mg base CX0 "_law_draw" 2 ["_law_purse_here", "_law_out_of"] spDraw)
    (c__law_machine : Cal P w K mg base CX0 "_law_machine" 3 ["_law_purse_here", "_law_size", "_law_most"] spMachine) (c__law_bent : Cal P w K mg base CX0 "_law_bent" 5 ["_law_purse_here", "_law_thing"] spBent)
    (c_check_machine : Cal P w K mg base (L2.CX P w) "check_machine" 4 ["thing", "size"] (spCheck cs)) (c__law_due : Cal P w K mg base CX0 "_law_due" 3 ["_law_thing", "_law_size"] spDue)
    (c__law_doors_right : Cal P w K mg base CX0 "_law_doors_right" 8 ["_law_purse_here", "_law_asker", "_law_size", "_law_bad"] spDoors)
    {f : Addr} {fd : FuncData} (F : Fun K "law" "law" s_law f fd) : FnOk P w K mg base CX0 9 f fd ["_law_script"] (spLaw K) := by
  refine F.ok sc_law (fun vs H Q E h => ?_) (fun cdv A outer s H vs Q E hr h => ⟨_, (pss_cons (ps_for PassesOwn.never rfl (pi_range1 (by rfl) z.range (pa_cons (pe_op op_add pe_int (pe_callB (call_min2 rfl) (by rfl) z.min (by decide +kernel) (pa_cons pe_int (pa_cons (pe_callB call_len_seq (by rfl) z.len (by decide +kernel) (pa_cons (pv 0) pa_nil)) pa_nil)))) pa_nil)) (pg_name (i := 1) sc_law.nd rfl (.inl rfl))
      (pss_cons (ps_set (i := 2) sc_law.nd rfl (.inl rfl) (pe_cal c__law_purse hr rfl pass0 (pa_cons (pv 0) (pa_cons (pv 1) pa_nil))))
      (pss_one (ps_for PassesOwn.never rfl (pi_range1 (by rfl) z.range (pa_cons pe_int pa_nil)) (pg_name (i := 3) sc_law.nd rfl (.inl rfl))
      (pss_cons (ps_set (i := 4) sc_law.nd rfl (.inl rfl) (pe_op op_add pe_int (pe_cal c__law_draw hr rfl pass0 (pa_cons (pv 2) (pa_cons pe_int pa_nil)))))
      (pss_cons (ps_set (i := 5) sc_law.nd rfl (.inl rfl) (pe_cal c__law_machine hr rfl pass0 (pa_cons (pv 2) (pa_cons (pv 4) (pa_cons pe_int pa_nil)))))
      (pss_cons (ps_set (i := 6) sc_law.nd rfl (.inr rfl) (pv 5))
      (pss_cons (ps_for PassesOwn.never rfl (pi_range1 (by rfl) z.range (pa_cons (pe_op op_add pe_int (pe_cal c__law_draw hr rfl pass0 (pa_cons (pv 2) (pa_cons pe_int pa_nil)))) pa_nil)) (pg_name (i := 7) sc_law.nd rfl (.inl rfl))
      (pss_one (ps_if (PW.pt (pw_and (pt_val (pe_callB (call_isiE K rfl) (by rfl) z.isinstance (by decide +kernel) (pa_cons (pv 6) (pa_cons (pe_bltn (v := .ty "tuple") (by rfl) z.tuple (by decide +kernel) rfl) pa_nil)))) (pw_and1 (pt_cmpR op_eq (pe_callB call_lenT (by rfl) z.len (by decide +kernel) (pa_cons (pv 6) pa_nil)) pe_int (nomark _))))) (pss_one (ps_set (i := 6) sc_law.nd rfl (.inr rfl) (pe_cal c__law_bent hr rfl pass0 (pa_cons (pv 2) (pa_cons (pv 6) pa_nil))))) pss_nil)))
      (pss_cons (ps_if (pt_cmpR (op_neD hr.units) (pe_cal c_check_machine hr rfl passL (pa_cons (pv 6) (pa_cons (pv 4) pa_nil))) (pe_cal c__law_due hr rfl pass0 (pa_cons (pv 6) (pa_cons (pv 4) pa_nil))) (nomark _)) (pss_one (ps_ret pe_bl)) pss_nil)
      (pss_one (ps_if (pt_cmpR (op_eqD hr.units) (pe_lc (own := [("_law_other", 8)]) rfl sc_law.nd (pi_range2 (by rfl) z.range (pa_cons pe_int (pa_cons pe_int pa_nil))) (blkOk_by (own := [("_law_other", 8)]) (N := ["_law_script", "_law_at", "_law_purse_here", "_law_turn", "_law_size", "_law_asker", "_law_thing", "_law_bend", "_law_other"]) (sc := (defScope s_law)) (by decide +kernel)) (fun _ _ _ _ _ => (pg_name (i := 8) sc_law.nd rfl (.inl rfl))) (fun _ _ _ _ _ => pts_nil) (fun _ _ _ _ _ => (pe_cmpR op_isN (pe_cal c__law_due hr rfl pass0 (pa_cons (pv 6) (pa_cons (pv 8) pa_nil))) pe_non (nomark _)))) (pe_op op_rep (pe_lst (pa_cons pe_bl pa_nil)) pe_int) (nomark _)) (pss_one (ps_if (pt_not (pt_val (pe_cal c__law_doors_right hr rfl pass0 (pa_cons (pv 2) (pa_cons (pv 5) (pa_cons (pv 4) (pa_cons (pv 6) pa_nil))))))) (pss_one (ps_ret pe_bl)) pss_nil)) pss_nil)))))))))))
      (pss_one (ps_ret (pe_cmpR (op_eqD hr.units) (pe_cal c_check_machine hr rfl passL (pa_cons (pe_tup (pa_cons pe_int (pa_cons (pe_tup (pa_cons (pe_tup (pa_cons pe_int (pa_cons pe_int pa_nil))) (pa_cons (pe_tup (pa_cons pe_int pa_nil)) pa_nil))) (pa_cons (pe_tup (pa_cons pe_int (pa_cons pe_int pa_nil))) pa_nil)))) (pa_cons pe_int pa_nil))) (pe_tup (pa_cons pe_str (pa_cons pe_int pa_nil))) (nomark _))))), ?_⟩)
  · obtain ⟨a, ns, rfl, _⟩ := h
    rfl
  · obtain ⟨a, ns, rfl, hS, hl, q⟩ := h
    simp only [tSeq, tAsg, tOp, tUn, tCB, tCons, tNil, tVar, tC, rI, rI0, rU, tRet, tRetN, gName, tIfS, tTest, tIf, tB, tNot, tAnd, tOr, tAndV, tOrV, tNotV, tCmp, t2I, tLst, tTup, tCall, tCalK0, tNext, tChain, tSl, tPart, tNoPart, tPar, tDrop, gSub, gTupT, gCons, gNil, rSetL, rIxl, rIxt, rSlt, rEq, rNe, L2.start, tLc_eq, tFor_eq, iTup, iList, iRng1, iRng2, iEnumT, tYes, pts_nil,
  List.map_cons, List.map_nil, List.length_cons, List.length_nil, List.replicate_succ, List.replicate_zero, Nat.reduceAdd, Nat.reduceSub, Nat.add_zero, Nat.zero_add, List.cons_append, List.nil_append, List.append_nil, List.getElem?_cons_zero, List.getElem?_cons_succ, List.set_cons_zero, List.set_cons_succ, wipe,
  Option.some.injEq, exists_eq_left', exists_eq_left, V.int.injEq, V.bl.injEq, V.str.injEq, V.ref.injEq, HO.lst.injEq, HO.tup.injEq, List.cons.injEq, and_true, true_and, reduceCtorEq, false_or, or_false, false_and, and_false, exists_false, exists_and_left, exists_eq, and_assoc, if_true, if_false, Bool.false_eq_true, decide_eq_true_eq, upd_same]
    refine ⟨_, .inl hS, ?_⟩
    rw [List.length_map]
    generalize hT : (1 + if (ns.length : Int) < 6 then (ns.length : Int) else 6) = T
    have hT0 : 0 ≤ T ∧ T ≤ 7 := by
      rw [← hT]
      split <;> omega
    refine ⟨by omega, by omega, ?_⟩
    refine for_go walk_range (fun i σ H' => Fx [] H H' ∧ ∃ x1 x2 x3 x4 x5 x6 x7 x8, σ = [some (.ref a), x1, x2, x3, x4, x5, x6, x7, x8]) ⟨Fx.refl _ _, _, _, _, _, _, _, _, _, rfl⟩ ?_ ?_ ?_
    · intros; trivial
    · rintro i x σ H1 H2 hi ⟨f1, x1, x2, x3, x4, x5, x6, x7, x8, rfl⟩ ⟨rfl, rfl⟩
      simp only [tSeq, tAsg, tOp, tUn, tCB, tCons, tNil, tVar, tC, rI, rI0, rU, tRet, tRetN, gName, tIfS, tTest, tIf, tB, tNot, tAnd, tOr, tAndV, tOrV, tNotV, tCmp, t2I, tLst, tTup, tCall, tCalK0, tNext, tChain, tSl, tPart, tNoPart, tPar, tDrop, gSub, gTupT, gCons, gNil, rSetL, rIxl, rIxt, rSlt, rEq, rNe, L2.start, tLc_eq, tFor_eq, iTup, iList, iRng1, iRng2, iEnumT, tYes, pts_nil,
  List.map_cons, List.map_nil, List.length_cons, List.length_nil, List.replicate_succ, List.replicate_zero, Nat.reduceAdd, Nat.reduceSub, Nat.add_zero, Nat.zero_add, List.cons_append, List.nil_append, List.append_nil, List.getElem?_cons_zero, List.getElem?_cons_succ, List.set_cons_zero, List.set_cons_succ, wipe,
  Option.some.injEq, exists_eq_left', exists_eq_left, V.int.injEq, V.bl.injEq, V.str.injEq, V.ref.injEq, HO.lst.injEq, HO.tup.injEq, List.cons.injEq, and_true, true_and, reduceCtorEq, false_or, or_false, false_and, and_false, exists_false, exists_and_left, exists_eq, and_assoc, if_true, if_false, Bool.false_eq_true, decide_eq_true_eq, upd_same]
      refine ⟨a, ns, i, by rw [Int.zero_add], f1.sql hS, by omega, fun p H2 hp f2 pu2 => ?_⟩
      have hpH : H p = none := f1.fresh hp
      refine ⟨by omega, by omega, ?_⟩
      refine for_go walk_range (fun j σ H' => Fx [] H H' ∧ Pu (1000 * i + j * 600) H' p ∧ ∃ x3 x4 x5 x6 x7 x8, σ = [some (.ref a), some (.int (0 + i)), some (.ref p), x3, x4, x5, x6, x7, x8])
        ⟨f1.trans f2, pu2.mono (by omega), _, _, _, _, _, _, rfl⟩ ?_ ?_ ?_
      · intros; trivial
      · rintro j x σ H3' H3 hj ⟨f3, pu3, y3, y4, y5, y6, y7, y8, rfl⟩ ⟨rfl, rfl⟩
        have hj6 : j < 6 := hj
        refine seq_any (fun σ' H' => ∃ size : Nat, 1 ≤ size ∧ size ≤ 4 ∧ σ' = [some (.ref a), some (.int (0 + i)), some (.ref p), some (.int (0 + j)), some (.int size), y5, y6, y7, y8] ∧ Fx [p] H3 H' ∧ Pu (1000 * i + j * 600 + 1) H' p) (fun σ' H4 h => ?_) fun rest hrest => ?_
        · obtain ⟨size, s1, s4, rfl, f4, pu4⟩ := h
          refine seq_asg ?_
          refine ⟨_, rfl, _, rfl, p, size, 4, _, rfl, by omega, by omega, by decide, by decide, pu4, by omega, fun v H5 m mo hm f5 pu5 r5 => ?_⟩
          dsimp only [gName]
          refine seq_asg ?_
          refine ⟨_, rfl, ?_⟩
          dsimp only [gName]
          show tSeq _ _ _ [some (.ref a), some (.int (0 + i)), some (.ref p), some (.int (0 + j)), some (.int size), some v, some v, y7, y8] H5
          refine seq_any (fun σ' H' => ∃ u x7, σ' = [some (.ref a), some (.int (0 + i)), some (.ref p), some (.int (0 + j)), some (.int size), some v, some u, x7, y8] ∧ Fx [p] H5 H' ∧ Pu (1000 * i + j * 600 + 1 + 200 + 1 + 40) H' p ∧ Gd 3 19 H' u) (fun σ' H6 h => ?_) fun rest hrest => ?_
          · obtain ⟨u, x7, rfl, f6, pu6, gu⟩ := h
            obtain ⟨d, rd, sd⟩ := gu
            have sh2 : short2 d := gd_short2 (by decide) sd
            have sh : short d := sm_short (by decide) sd
            have r6 := f6.rp r5
            obtain ⟨dp, ds, de⟩ := check_data d size
            refine ifN (fun go hgo => ?_) fun H7 f7 => ?_
            · simp only [tSeq, tAsg, tOp, tUn, tCB, tCons, tNil, tVar, tC, rI, rI0, rU, tRet, tRetN, gName, tIfS, tTest, tIf, tB, tNot, tAnd, tOr, tAndV, tOrV, tNotV, tCmp, t2I, tLst, tTup, tCall, tCalK0, tNext, tChain, tSl, tPart, tNoPart, tPar, tDrop, gSub, gTupT, gCons, gNil, rSetL, rIxl, rIxt, rSlt, rEq, rNe, L2.start, tLc_eq, tFor_eq, iTup, iList, iRng1, iRng2, iEnumT, tYes, pts_nil,
  List.map_cons, List.map_nil, List.length_cons, List.length_nil, List.replicate_succ, List.replicate_zero, Nat.reduceAdd, Nat.reduceSub, Nat.add_zero, Nat.zero_add, List.cons_append, List.nil_append, List.append_nil, List.getElem?_cons_zero, List.getElem?_cons_succ, List.set_cons_zero, List.set_cons_succ, wipe,
  Option.some.injEq, exists_eq_left', exists_eq_left, V.int.injEq, V.bl.injEq, V.str.injEq, V.ref.injEq, HO.lst.injEq, HO.tup.injEq, List.cons.injEq, and_true, true_and, reduceCtorEq, false_or, or_false, false_and, and_false, exists_false, exists_and_left, exists_eq, and_assoc, if_true, if_false, Bool.false_eq_true, decide_eq_true_eq, upd_same]
              refine ⟨u, d, .int size, .int size, rfl, rd, .int _, fun hI => ?_, fun s' hs' s0 s4' => ⟨sh2, fun w1 H7 f7 rw1 => ?_⟩⟩
              · have : isInteger (.int size) 1 4 = true := by
                  show (decide ((1 : Int) ≤ size) && decide ((size : Int) ≤ 4)) = true
                  rw [decide_eq_true (by omega), decide_eq_true (by omega)]
                  rfl
                rw [this] at hI
                cases hI
              · have hs2 : s' = size := by
                  have := LT.D.int.inj hs'
                  omega
                subst hs2
                refine ⟨u, d, s', rfl, f7.rp rd, sh2, by omega, fun w2 H8 f8 rw2 => ?_⟩
                refine ⟨_, _, (f8.rp rw1).dp dp, rw2.dp dp, ds, ds, !PyData.eqv (toP (checkD d s')) (toP (checkD d s')), rfl, ?_⟩
                rw [de]
                exact hgo _ (f7.trans f8)
            · simp only [tSeq, tAsg, tOp, tUn, tCB, tCons, tNil, tVar, tC, rI, rI0, rU, tRet, tRetN, gName, tIfS, tTest, tIf, tB, tNot, tAnd, tOr, tAndV, tOrV, tNotV, tCmp, t2I, tLst, tTup, tCall, tCalK0, tNext, tChain, tSl, tPart, tNoPart, tPar, tDrop, gSub, gTupT, gCons, gNil, rSetL, rIxl, rIxt, rSlt, rEq, rNe, L2.start, tLc_eq, tFor_eq, iTup, iList, iRng1, iRng2, iEnumT, tYes, pts_nil,
  List.map_cons, List.map_nil, List.length_cons, List.length_nil, List.replicate_succ, List.replicate_zero, Nat.reduceAdd, Nat.reduceSub, Nat.add_zero, Nat.zero_add, List.cons_append, List.nil_append, List.append_nil, List.getElem?_cons_zero, List.getElem?_cons_succ, List.set_cons_zero, List.set_cons_succ, wipe,
  Option.some.injEq, exists_eq_left', exists_eq_left, V.int.injEq, V.bl.injEq, V.str.injEq, V.ref.injEq, HO.lst.injEq, HO.tup.injEq, List.cons.injEq, and_true, true_and, reduceCtorEq, false_or, or_false, false_and, and_false, exists_false, exists_and_left, exists_eq, and_assoc, if_true, if_false, Bool.false_eq_true, decide_eq_true_eq, upd_same]
              refine ⟨by decide, by decide, by decide, by decide, fun D hD => ?_⟩
              refine lc_new (M := []) walk_range (by decide) hD (fun b z => nomatch z) (fun i' H ys => ys = (List.range i').map fun j' => V.bl (isNon (checkD d (1 + j')))) (fun _ _ _ _ _ _ z => z) rfl ?_ ?_ ?_
              · intros; trivial
              · rintro k x Ha Hb ys N1 N2 hk fx rfl ⟨rfl, rfl⟩ hN1 hN2
                have hk4 : k < 4 := hk
                simp only [tSeq, tAsg, tOp, tUn, tCB, tCons, tNil, tVar, tC, rI, rI0, rU, tRet, tRetN, gName, tIfS, tTest, tIf, tB, tNot, tAnd, tOr, tAndV, tOrV, tNotV, tCmp, t2I, tLst, tTup, tCall, tCalK0, tNext, tChain, tSl, tPart, tNoPart, tPar, tDrop, gSub, gTupT, gCons, gNil, rSetL, rIxl, rIxt, rSlt, rEq, rNe, L2.start, tLc_eq, tFor_eq, iTup, iList, iRng1, iRng2, iEnumT, tYes, pts_nil,
  List.map_cons, List.map_nil, List.length_cons, List.length_nil, List.replicate_succ, List.replicate_zero, Nat.reduceAdd, Nat.reduceSub, Nat.add_zero, Nat.zero_add, List.cons_append, List.nil_append, List.append_nil, List.getElem?_cons_zero, List.getElem?_cons_succ, List.set_cons_zero, List.set_cons_succ, wipe,
  Option.some.injEq, exists_eq_left', exists_eq_left, V.int.injEq, V.bl.injEq, V.str.injEq, V.ref.injEq, HO.lst.injEq, HO.tup.injEq, List.cons.injEq, and_true, true_and, reduceCtorEq, false_or, or_false, false_and, and_false, exists_false, exists_and_left, exists_eq, and_assoc, if_true, if_false, Bool.false_eq_true, decide_eq_true_eq, upd_same]
                refine ⟨u, d, 1 + k, by rw [Int.natCast_add]; rfl, (f7.trans fx).rp rd, sh2, by omega, fun w1 Hc fc rw1 => hN1 _ _ fc ?_⟩
                rw [List.range_succ, List.map_append, isNon_iff rw1]
                rfl
              · rintro Ha ys fx rfl eD
                have e4 : (List.range (5 - 1 : Int).toNat).map (fun j' => V.bl (isNon (checkD d (1 + j')))) = [V.bl (isNon (checkD d 1)), V.bl (isNon (checkD d 2)), V.bl (isNon (checkD d 3)), V.bl (isNon (checkD d 4))] := rfl
                rw [e4] at eD
                refine ⟨by decide, fun p1 hp1 => ⟨p1, 4, _, rfl, rfl, upd_same, by decide, by decide, (by show 4 ≤ sizeLine; decide), fun p2 hp2 => ?_⟩⟩
                have gg := (Fx.new (o := .lst [V.bl false]) [] hp1).trans (Fx.new (o := .lst (List.replicate (4 : Int).toNat [V.bl false]).flatten) [] hp2)
                have k2 : upd (upd Ha p1 (.lst [V.bl false])) p2 (.lst (List.replicate (4 : Int).toNat [V.bl false]).flatten) p2 = some (.lst [V.bl false, V.bl false, V.bl false, V.bl false]) := upd_same
                generalize upd (upd Ha p1 (.lst [V.bl false])) p2 (.lst (List.replicate (4 : Int).toNat [V.bl false]).flatten) = H9 at *
                have eD9 := gg.all eD
                have fAll : Fx [p] H3 H9 := f4.trans (f5.trans (f6.trans (f7.trans (fx.trans gg)).any))
                have pu9 := ((pu6.fx f7 (fun z => nomatch z)).fx fx (fun z => nomatch z)).fx gg (fun z => nomatch z)
                refine ⟨.list [.bool (isNon (checkD d 1)), .bool (isNon (checkD d 2)), .bool (isNon (checkD d 3)), .bool (isNon (checkD d 4))], .list [.bool false, .bool false, .bool false, .bool false],
                  .lst (SqL.of eD9) (.cons (.bl _) (.cons (.bl _) (.cons (.bl _) (.cons (.bl _) .nil)))), .lst (SqL.of k2) (.cons (.bl _) (.cons (.bl _) (.cons (.bl _) (.cons (.bl _) .nil)))), rfl, rfl, _, rfl, ?_⟩
                by_cases hE : PyData.eqv (.list [.bool (isNon (checkD d 1)), .bool (isNon (checkD d 2)), .bool (isNon (checkD d 3)), .bool (isNon (checkD d 4))]) (.list [.bool false, .bool false, .bool false, .bool false]) = true
                · rw [if_pos hE]
                  simp [PyData.eqv, PyData.eqvAll] at hE
                  have sz : sizeD d = none := sizeD_none.mpr fun k k0 k4 => by
                    have : k = 1 ∨ k = 2 ∨ k = 3 ∨ k = 4 := by omega
                    rcases this with rfl | rfl | rfl | rfl
                    · exact hE.1
                    · exact hE.2.1
                    · exact hE.2.2.1
                    · exact hE.2.2.2
                  refine ⟨p, _, size, m, v, u, d, rfl, (f7.trans (fx.trans gg)).rp r6, mo, s1, s4, (f7.trans (fx.trans gg)).rp rd, sh2, sh, sz, pu9, by omega, fun H' f pu' => ⟨true, rfl, ?_⟩⟩
                  rw [if_neg (by decide)]
                  exact ⟨f3.drop (fAll.trans f) hpH, pu'.mono (by omega), _, rfl⟩
                · rw [if_neg hE]
                  exact ⟨f3.drop fAll hpH, pu9.mono (by omega), _, rfl⟩
          · refine for_rngX (T := fun n H' => n ≤ 2 ∧ Fx [p] H5 H' ∧ Pu (1000 * i + j * 600 + 1 + 200 + 1) H' p) (fun go hgo => ?_) fun n H6 hn => ?_
            · simp only [tSeq, tAsg, tOp, tUn, tCB, tCons, tNil, tVar, tC, rI, rI0, rU, tRet, tRetN, gName, tIfS, tTest, tIf, tB, tNot, tAnd, tOr, tAndV, tOrV, tNotV, tCmp, t2I, tLst, tTup, tCall, tCalK0, tNext, tChain, tSl, tPart, tNoPart, tPar, tDrop, gSub, gTupT, gCons, gNil, rSetL, rIxl, rIxt, rSlt, rEq, rNe, L2.start, tLc_eq, tFor_eq, iTup, iList, iRng1, iRng2, iEnumT, tYes, pts_nil,
  List.map_cons, List.map_nil, List.length_cons, List.length_nil, List.replicate_succ, List.replicate_zero, Nat.reduceAdd, Nat.reduceSub, Nat.add_zero, Nat.zero_add, List.cons_append, List.nil_append, List.append_nil, List.getElem?_cons_zero, List.getElem?_cons_succ, List.set_cons_zero, List.set_cons_succ, wipe,
  Option.some.injEq, exists_eq_left', exists_eq_left, V.int.injEq, V.bl.injEq, V.str.injEq, V.ref.injEq, HO.lst.injEq, HO.tup.injEq, List.cons.injEq, and_true, true_and, reduceCtorEq, false_or, or_false, false_and, and_false, exists_false, exists_and_left, exists_eq, and_assoc, if_true, if_false, Bool.false_eq_true, decide_eq_true_eq, upd_same]
              refine ⟨p, 2, _, rfl, by decide, by decide, pu5, by omega, fun d H6 d0 d1 f6 pu6 => ?_⟩
              exact ⟨d, rfl, by omega, by omega, hgo _ _ ⟨by omega, f6, pu6⟩⟩
            · obtain ⟨n2, f6, pu6⟩ := hn
              refine for_go walk_range (fun k σ H' => ∃ u x7, σ = [some (.ref a), some (.int (0 + i)), some (.ref p), some (.int (0 + j)), some (.int size), some v, some u, x7, y8] ∧ Fx [p] H5 H' ∧ Pu (1000 * i + j * 600 + 1 + 200 + 1 + k * 20) H' p ∧ Gd 3 (nb k) H' u)
                ⟨v, y7, rfl, f6, pu6.mono (by omega), mac_gd mo s4 hm (f6.rp r5)⟩ ?_ ?_ ?_
              · intros; trivial
              · rintro k x σ H7' H7 hk ⟨u, x7, rfl, f7, pu7, gu⟩ ⟨rfl, rfl⟩
                have hk2 : k < 2 := by omega
                have nb4 : 4 ≤ nb k ∧ nb k ≤ 40 := by
                  have : k = 0 ∨ k = 1 := by omega
                  rcases this with rfl | rfl <;> decide
                have keep : Pu (1000 * i + j * 600 + 1 + 200 + 1 + (k + 1) * 20) H7 p ∧ Gd 3 (nb (k + 1)) H7 u := ⟨pu7.mono (by omega), gu.mono (by show nb k ≤ 2 * nb k + 1; omega)⟩
                simp only [tSeq, tAsg, tOp, tUn, tCB, tCons, tNil, tVar, tC, rI, rI0, rU, tRet, tRetN, gName, tIfS, tTest, tIf, tB, tNot, tAnd, tOr, tAndV, tOrV, tNotV, tCmp, t2I, tLst, tTup, tCall, tCalK0, tNext, tChain, tSl, tPart, tNoPart, tPar, tDrop, gSub, gTupT, gCons, gNil, rSetL, rIxl, rIxt, rSlt, rEq, rNe, L2.start, tLc_eq, tFor_eq, iTup, iList, iRng1, iRng2, iEnumT, tYes, pts_nil,
  List.map_cons, List.map_nil, List.length_cons, List.length_nil, List.replicate_succ, List.replicate_zero, Nat.reduceAdd, Nat.reduceSub, Nat.add_zero, Nat.zero_add, List.cons_append, List.nil_append, List.append_nil, List.getElem?_cons_zero, List.getElem?_cons_succ, List.set_cons_zero, List.set_cons_succ, wipe,
  Option.some.injEq, exists_eq_left', exists_eq_left, V.int.injEq, V.bl.injEq, V.str.injEq, V.ref.injEq, HO.lst.injEq, HO.tup.injEq, List.cons.injEq, and_true, true_and, reduceCtorEq, false_or, or_false, false_and, and_false, exists_false, exists_and_left, exists_eq, and_assoc, if_true, if_false, Bool.false_eq_true, decide_eq_true_eq, upd_same]
                rcases gu.is with ⟨b, zs, rfl, eb, lz, gz, dx, rx, tx⟩ | ⟨dx, rx, tx⟩
                · refine isi_rp rx (by decide) ?_
                  rw [tx]
                  refine ⟨true, rfl, ?_⟩
                  rw [if_pos rfl]
                  refine ⟨b, rfl, zs, eb, rfl, ?_⟩
                  by_cases h3 : zs.length = 3
                  · rw [if_pos (by omega)]
                    exact ⟨p, b, 1000 * i + j * 600 + 1 + 200 + 1 + k * 20, nb k, zs, rfl, eb, h3, gz, nb4.1, nb4.2, pu7, by omega, fun v' H8 f8 pu8 g8 => ⟨f7.trans f8, pu8.mono (by omega), g8⟩⟩
                  · rw [if_neg (by omega)]
                    exact ⟨f7, keep.1, keep.2⟩
                · refine isi_rp rx (by decide) ?_
                  rw [tx]
                  refine ⟨false, rfl, ?_⟩
                  rw [if_neg (by decide)]
                  exact ⟨f7, keep.1, keep.2⟩
              · rintro σ H7 ⟨u, x7, rfl, f7, pu7, gu⟩
                refine hrest _ _ ⟨u, x7, rfl, f7, pu7.mono (by omega), gu.mono ?_⟩
                have : n = 0 ∨ n = 1 ∨ n = 2 := by omega
                rcases this with rfl | rfl | rfl <;> decide
        · simp only [tSeq, tAsg, tOp, tUn, tCB, tCons, tNil, tVar, tC, rI, rI0, rU, tRet, tRetN, gName, tIfS, tTest, tIf, tB, tNot, tAnd, tOr, tAndV, tOrV, tNotV, tCmp, t2I, tLst, tTup, tCall, tCalK0, tNext, tChain, tSl, tPart, tNoPart, tPar, tDrop, gSub, gTupT, gCons, gNil, rSetL, rIxl, rIxt, rSlt, rEq, rNe, L2.start, tLc_eq, tFor_eq, iTup, iList, iRng1, iRng2, iEnumT, tYes, pts_nil,
  List.map_cons, List.map_nil, List.length_cons, List.length_nil, List.replicate_succ, List.replicate_zero, Nat.reduceAdd, Nat.reduceSub, Nat.add_zero, Nat.zero_add, List.cons_append, List.nil_append, List.append_nil, List.getElem?_cons_zero, List.getElem?_cons_succ, List.set_cons_zero, List.set_cons_succ, wipe,
  Option.some.injEq, exists_eq_left', exists_eq_left, V.int.injEq, V.bl.injEq, V.str.injEq, V.ref.injEq, HO.lst.injEq, HO.tup.injEq, List.cons.injEq, and_true, true_and, reduceCtorEq, false_or, or_false, false_and, and_false, exists_false, exists_and_left, exists_eq, and_assoc, if_true, if_false, Bool.false_eq_true, decide_eq_true_eq, upd_same]
          refine ⟨p, 4, _, rfl, by decide, by decide, pu3, by omega, fun d H4 d0 d1 f4 pu4 => ?_⟩
          obtain ⟨wd, hwd⟩ : ∃ wd : Nat, (1 : Int) + d = wd := ⟨(1 + d).toNat, by omega⟩
          refine ⟨d, rfl, ?_⟩
          rw [hwd]
          exact hrest _ _ ⟨wd, by omega, by omega, rfl, f4, pu4⟩
      · rintro σ H3 ⟨f3, pu3, y3, y4, y5, y6, y7, y8, rfl⟩
        exact ⟨f3, _, _, _, _, _, _, _, _, rfl⟩
    · rintro σ H1 ⟨f1, x1, x2, x3, x4, x5, x6, x7, x8, rfl⟩
      dsimp only
      refine ret_of ?_
      refine op_callT ?_
      have mR := @mono_RpR
      refine (el_rpT (els_cons mR (el_rpC fun _ => .int _) (els_cons mR (el_rpT (els_cons mR (el_rpT (els_cons mR (el_rpC fun _ => .int _) (els_cons mR (el_rpC fun _ => .int _) els_nil)) (by show 2 ≤ 1000; decide)) (els_cons mR (el_rpT (els_cons mR (el_rpC fun _ => .int _) els_nil) (by show 1 ≤ 1000; decide)) els_nil)) (by show 2 ≤ 1000; decide))
        (els_cons mR (el_rpT (els_cons mR (el_rpC fun _ => .int _) (els_cons mR (el_rpC fun _ => .int _) els_nil)) (by show 2 ≤ 1000; decide)) els_nil))) (by show 3 ≤ 1000; decide)) H1 _ (Fx.refl _ _) fun x H2 f2 rx => ?_
      refine ⟨x, _, .int 2, .int 2, rfl, rx, .int 2, fun hI => absurd hI (by decide), fun s' hs' s0 s4' => ⟨by simp [short2, short], fun u H3 f3 ru => ?_⟩⟩
      have hs2 : s' = 2 := by
        have := LT.D.int.inj hs'
        omega
      subst hs2
      have e0 : checkD (.tup [.int 0, .tup [.tup [.int 0, .int 0], .tup [.int 0]], .tup [.int 0, .int 0]]) 2 = .tup [.str "steps", .int 1] := rfl
      rw [e0] at ru
      refine (el_rpT (els_cons mR (el_rpC fun _ => .str "steps") (els_cons mR (el_rpC fun _ => .int 1) els_nil)) (by show 2 ≤ 1000; decide)) H3 _ (Fx.refl _ _) fun w1 H4 f4 rw1 => ?_
      refine ⟨_, _, (f4.rp ru).dp rfl, rw1.dp rfl, by decide +kernel, by decide +kernel, ?_⟩
      have e1 : PyData.eqv (toP (.tup [.str "steps", .int 1])) (toP (.tup [.str "steps", .int 1])) = true := by decide +kernel
      rw [e1]
      exact q _
end
end K02
namespace K02
open PySem PySem.Spec PyProof.Rows L2 LT
theorem all_mk {l : PySem.W.OpenLaw} {w : World} {K : PySem.W.Frag} {h : Heap} {mg : Str → Option Value} {fa : Addr} (X : K.In h) (G : h.Ns mainGlobals mg) (hfa : mg "law" = some (.ref fa))
    {f0 : Addr} {od0 an0 : Option Addr} {sl0 : Array (Option Value)} {oc0 kV0 dc0 pm0 cd0 ct0 : Value} {f1 : Addr} {od1 an1 : Option Addr} {sl1 : Array (Option Value)} {oc1 kV1 dc1 pm1 cd1 ct1 : Value} {f2 : Addr} {od2 an2 : Option Addr} {sl2 : Array (Option Value)} {oc2 kV2 dc2 pm2 cd2 ct2 : Value} {f3 : Addr} {od3 an3 : Option Addr} {sl3 : Array (Option Value)} {oc3 kV3 dc3 pm3 cd3 ct3 : Value} {f4 : Addr} {od4 an4 : Option Addr} {sl4 : Array (Option Value)} {oc4 kV4 dc4 pm4 cd4 ct4 : Value} {f5 : Addr} {od5 an5 : Option Addr} {sl5 : Array (Option Value)} {oc5 kV5 dc5 pm5 cd5 ct5 : Value} {f6 : Addr} {od6 an6 : Option Addr} {sl6 : Array (Option Value)} {oc6 kV6 dc6 pm6 cd6 ct6 : Value} {f7 : Addr} {od7 an7 : Option Addr} {sl7 : Array (Option Value)} {oc7 kV7 dc7 pm7 cd7 ct7 : Value} {f8 : Addr} {od8 an8 : Option Addr} {sl8 : Array (Option Value)} {oc8 kV8 dc8 pm8 cd8 ct8 : Value} {f9 : Addr} {od9 an9 : Option Addr} {sl9 : Array (Option Value)} {oc9 kV9 dc9 pm9 cd9 ct9 : Value} {f10 : Addr} {od10 an10 : Option Addr} {sl10 : Array (Option Value)} {oc10 kV10 dc10 pm10 cd10 ct10 : Value} {f11 : Addr} {od11 an11 : Option Addr} {sl11 : Array (Option Value)} {oc11 kV11 dc11 pm11 cd11 ct11 : Value} {f12 : Addr} {od12 an12 : Option Addr} {sl12 : Array (Option Value)} {oc12 kV12 dc12 pm12 cd12 ct12 : Value} {f13 : Addr} {od13 an13 : Option Addr} {sl13 : Array (Option Value)} {oc13 kV13 dc13 pm13 cd13 ct13 : Value} {f14 : Addr} {od14 an14 : Option Addr} {sl14 : Array (Option Value)} {oc14 kV14 dc14 pm14 cd14 ct14 : Value} {f15 : Addr} {od15 an15 : Option Addr} {sl15 : Array (Option Value)} {oc15 kV15 dc15 pm15 cd15 ct15 : Value} {f16 : Addr} {od16 an16 : Option Addr} {sl16 : Array (Option Value)} {oc16 kV16 dc16 pm16 cd16 ct16 : Value} {f17 : Addr} {od17 an17 : Option Addr} {sl17 : Array (Option Value)} {oc17 kV17 dc17 pm17 cd17 ct17 : Value} {f18 : Addr} {od18 an18 : Option Addr} {sl18 : Array (Option Value)} {oc18 kV18 dc18 pm18 cd18 ct18 : Value} {f19 : Addr} {od19 an19 : Option Addr} {sl19 : Array (Option Value)} {oc19 kV19 dc19 pm19 cd19 ct19 : Value} {f20 : Addr} {od20 an20 : Option Addr} {sl20 : Array (Option Value)} {oc20 kV20 dc20 pm20 cd20 ct20 : Value} {f21 : Addr} {od21 an21 : Option Addr} {sl21 : Array (Option Value)} {oc21 kV21 dc21 pm21 cd21 ct21 : Value} {f22 : Addr} {od22 an22 : Option Addr} {sl22 : Array (Option Value)} {oc22 kV22 dc22 pm22 cd22 ct22 : Value} {f23 : Addr} {od23 an23 : Option Addr} {sl23 : Array (Option Value)} {oc23 kV23 dc23 pm23 cd23 ct23 : Value} {f24 : Addr} {od24 an24 : Option Addr} {sl24 : Array (Option Value)} {oc24 kV24 dc24 pm24 cd24 ct24 : Value}
    (a0 : PySem.W.nsIn K mainGlobals "is_integer" = some (some (.ref f0)))
    (l0 : K.lookup f0 = some ⟨oc0, od0, .func (PySem.W.fnOf "is_integer" "is_integer" (defArgs s_is_integer) (defBody s_is_integer) (defScope s_is_integer) .none kV0 dc0 pm0 an0 cd0 ct0), sl0⟩)
    (c0 : PySem.W.codeIn K cd0 "is_integer" = true) (k0 : PySem.W.keepIn K (.ref f0) = true)
    (a1 : PySem.W.nsIn K mainGlobals "is_size" = some (some (.ref f1)))
    (l1 : K.lookup f1 = some ⟨oc1, od1, .func (PySem.W.fnOf "is_size" "is_size" (defArgs s_is_size) (defBody s_is_size) (defScope s_is_size) .none kV1 dc1 pm1 an1 cd1 ct1), sl1⟩)
    (c1 : PySem.W.codeIn K cd1 "is_size" = true) (k1 : PySem.W.keepIn K (.ref f1) = true)
    (a2 : PySem.W.nsIn K mainGlobals "is_row" = some (some (.ref f2)))
    (l2 : K.lookup f2 = some ⟨oc2, od2, .func (PySem.W.fnOf "is_row" "is_row" (defArgs s_is_row) (defBody s_is_row) (defScope s_is_row) .none kV2 dc2 pm2 an2 cd2 ct2), sl2⟩)
    (c2 : PySem.W.codeIn K cd2 "is_row" = true) (k2 : PySem.W.keepIn K (.ref f2) = true)
    (a3 : PySem.W.nsIn K mainGlobals "is_line" = some (some (.ref f3)))
    (l3 : K.lookup f3 = some ⟨oc3, od3, .func (PySem.W.fnOf "is_line" "is_line" (defArgs s_is_line) (defBody s_is_line) (defScope s_is_line) .none kV3 dc3 pm3 an3 cd3 ct3), sl3⟩)
    (c3 : PySem.W.codeIn K cd3 "is_line" = true) (k3 : PySem.W.keepIn K (.ref f3) = true)
    (a4 : PySem.W.nsIn K mainGlobals "check_machine" = some (some (.ref f4)))
    (l4 : K.lookup f4 = some ⟨oc4, od4, .func (PySem.W.fnOf "check_machine" "check_machine" (defArgs s_check_machine) (defBody s_check_machine) (defScope s_check_machine) .none kV4 dc4 pm4 an4 cd4 ct4), sl4⟩)
    (c4 : PySem.W.codeIn K cd4 "check_machine" = true) (k4 : PySem.W.keepIn K (.ref f4) = true)
    (a5 : PySem.W.nsIn K mainGlobals "has_machine_form" = some (some (.ref f5)))
    (l5 : K.lookup f5 = some ⟨oc5, od5, .func (PySem.W.fnOf "has_machine_form" "has_machine_form" (defArgs s_has_machine_form) (defBody s_has_machine_form) (defScope s_has_machine_form) .none kV5 dc5 pm5 an5 cd5 ct5), sl5⟩)
    (c5 : PySem.W.codeIn K cd5 "has_machine_form" = true) (k5 : PySem.W.keepIn K (.ref f5) = true)
    (a6 : PySem.W.nsIn K mainGlobals "machine_size" = some (some (.ref f6)))
    (l6 : K.lookup f6 = some ⟨oc6, od6, .func (PySem.W.fnOf "machine_size" "machine_size" (defArgs s_machine_size) (defBody s_machine_size) (defScope s_machine_size) .none kV6 dc6 pm6 an6 cd6 ct6), sl6⟩)
    (c6 : PySem.W.codeIn K cd6 "machine_size" = true) (k6 : PySem.W.keepIn K (.ref f6) = true)
    (a7 : PySem.W.nsIn K mainGlobals "answer" = some (some (.ref f7)))
    (l7 : K.lookup f7 = some ⟨oc7, od7, .func (PySem.W.fnOf "answer" "answer" (defArgs s_answer) (defBody s_answer) (defScope s_answer) .none kV7 dc7 pm7 an7 cd7 ct7), sl7⟩)
    (c7 : PySem.W.codeIn K cd7 "answer" = true) (k7 : PySem.W.keepIn K (.ref f7) = true)
    (a8 : PySem.W.nsIn K mainGlobals "least_machine" = some (some (.ref f8)))
    (l8 : K.lookup f8 = some ⟨oc8, od8, .func (PySem.W.fnOf "least_machine" "least_machine" (defArgs s_least_machine) (defBody s_least_machine) (defScope s_least_machine) .none kV8 dc8 pm8 an8 cd8 ct8), sl8⟩)
    (c8 : PySem.W.codeIn K cd8 "least_machine" = true) (k8 : PySem.W.keepIn K (.ref f8) = true)
    (a9 : PySem.W.nsIn K mainGlobals "machines_parted" = some (some (.ref f9)))
    (l9 : K.lookup f9 = some ⟨oc9, od9, .func (PySem.W.fnOf "machines_parted" "machines_parted" (defArgs s_machines_parted) (defBody s_machines_parted) (defScope s_machines_parted) .none kV9 dc9 pm9 an9 cd9 ct9), sl9⟩)
    (c9 : PySem.W.codeIn K cd9 "machines_parted" = true) (k9 : PySem.W.keepIn K (.ref f9) = true)
    (a10 : PySem.W.nsIn K mainGlobals "mapped" = some (some (.ref f10)))
    (l10 : K.lookup f10 = some ⟨oc10, od10, .func (PySem.W.fnOf "mapped" "mapped" (defArgs s_mapped) (defBody s_mapped) (defScope s_mapped) .none kV10 dc10 pm10 an10 cd10 ct10), sl10⟩)
    (c10 : PySem.W.codeIn K cd10 "mapped" = true) (k10 : PySem.W.keepIn K (.ref f10) = true)
    (a11 : PySem.W.nsIn K mainGlobals "turned" = some (some (.ref f11)))
    (l11 : K.lookup f11 = some ⟨oc11, od11, .func (PySem.W.fnOf "turned" "turned" (defArgs s_turned) (defBody s_turned) (defScope s_turned) .none kV11 dc11 pm11 an11 cd11 ct11), sl11⟩)
    (c11 : PySem.W.codeIn K cd11 "turned" = true) (k11 : PySem.W.keepIn K (.ref f11) = true)
    (a12 : PySem.W.nsIn K mainGlobals "_law_mixed" = some (some (.ref f12)))
    (l12 : K.lookup f12 = some ⟨oc12, od12, .func (PySem.W.fnOf "_law_mixed" "_law_mixed" (defArgs s__law_mixed) (defBody s__law_mixed) (defScope s__law_mixed) .none kV12 dc12 pm12 an12 cd12 ct12), sl12⟩)
    (c12 : PySem.W.codeIn K cd12 "_law_mixed" = true) (k12 : PySem.W.keepIn K (.ref f12) = true)
    (a13 : PySem.W.nsIn K mainGlobals "_law_purse" = some (some (.ref f13)))
    (l13 : K.lookup f13 = some ⟨oc13, od13, .func (PySem.W.fnOf "_law_purse" "_law_purse" (defArgs s__law_purse) (defBody s__law_purse) (defScope s__law_purse) .none kV13 dc13 pm13 an13 cd13 ct13), sl13⟩)
    (c13 : PySem.W.codeIn K cd13 "_law_purse" = true) (k13 : PySem.W.keepIn K (.ref f13) = true)
    (a14 : PySem.W.nsIn K mainGlobals "_law_draw" = some (some (.ref f14)))
    (l14 : K.lookup f14 = some ⟨oc14, od14, .func (PySem.W.fnOf "_law_draw" "_law_draw" (defArgs s__law_draw) (defBody s__law_draw) (defScope s__law_draw) .none kV14 dc14 pm14 an14 cd14 ct14), sl14⟩)
    (c14 : PySem.W.codeIn K cd14 "_law_draw" = true) (k14 : PySem.W.keepIn K (.ref f14) = true)
    (a15 : PySem.W.nsIn K mainGlobals "_law_machine" = some (some (.ref f15)))
    (l15 : K.lookup f15 = some ⟨oc15, od15, .func (PySem.W.fnOf "_law_machine" "_law_machine" (defArgs s__law_machine) (defBody s__law_machine) (defScope s__law_machine) .none kV15 dc15 pm15 an15 cd15 ct15), sl15⟩)
    (c15 : PySem.W.codeIn K cd15 "_law_machine" = true) (k15 : PySem.W.keepIn K (.ref f15) = true)
    (a16 : PySem.W.nsIn K mainGlobals "_law_int" = some (some (.ref f16)))
    (l16 : K.lookup f16 = some ⟨oc16, od16, .func (PySem.W.fnOf "_law_int" "_law_int" (defArgs s__law_int) (defBody s__law_int) (defScope s__law_int) .none kV16 dc16 pm16 an16 cd16 ct16), sl16⟩)
    (c16 : PySem.W.codeIn K cd16 "_law_int" = true) (k16 : PySem.W.keepIn K (.ref f16) = true)
    (a17 : PySem.W.nsIn K mainGlobals "_law_ints" = some (some (.ref f17)))
    (l17 : K.lookup f17 = some ⟨oc17, od17, .func (PySem.W.fnOf "_law_ints" "_law_ints" (defArgs s__law_ints) (defBody s__law_ints) (defScope s__law_ints) .none kV17 dc17 pm17 an17 cd17 ct17), sl17⟩)
    (c17 : PySem.W.codeIn K cd17 "_law_ints" = true) (k17 : PySem.W.keepIn K (.ref f17) = true)
    (a18 : PySem.W.nsIn K mainGlobals "_law_due" = some (some (.ref f18)))
    (l18 : K.lookup f18 = some ⟨oc18, od18, .func (PySem.W.fnOf "_law_due" "_law_due" (defArgs s__law_due) (defBody s__law_due) (defScope s__law_due) .none kV18 dc18 pm18 an18 cd18 ct18), sl18⟩)
    (c18 : PySem.W.codeIn K cd18 "_law_due" = true) (k18 : PySem.W.keepIn K (.ref f18) = true)
    (a19 : PySem.W.nsIn K mainGlobals "_law_odd" = some (some (.ref f19)))
    (l19 : K.lookup f19 = some ⟨oc19, od19, .func (PySem.W.fnOf "_law_odd" "_law_odd" (defArgs s__law_odd) (defBody s__law_odd) (defScope s__law_odd) .none kV19 dc19 pm19 an19 cd19 ct19), sl19⟩)
    (c19 : PySem.W.codeIn K cd19 "_law_odd" = true) (k19 : PySem.W.keepIn K (.ref f19) = true)
    (a20 : PySem.W.nsIn K mainGlobals "_law_bent_part" = some (some (.ref f20)))
    (l20 : K.lookup f20 = some ⟨oc20, od20, .func (PySem.W.fnOf "_law_bent_part" "_law_bent_part" (defArgs s__law_bent_part) (defBody s__law_bent_part) (defScope s__law_bent_part) .none kV20 dc20 pm20 an20 cd20 ct20), sl20⟩)
    (c20 : PySem.W.codeIn K cd20 "_law_bent_part" = true) (k20 : PySem.W.keepIn K (.ref f20) = true)
    (a21 : PySem.W.nsIn K mainGlobals "_law_bent" = some (some (.ref f21)))
    (l21 : K.lookup f21 = some ⟨oc21, od21, .func (PySem.W.fnOf "_law_bent" "_law_bent" (defArgs s__law_bent) (defBody s__law_bent) (defScope s__law_bent) .none kV21 dc21 pm21 an21 cd21 ct21), sl21⟩)
    (c21 : PySem.W.codeIn K cd21 "_law_bent" = true) (k21 : PySem.W.keepIn K (.ref f21) = true)
    (a22 : PySem.W.nsIn K mainGlobals "_law_asked" = some (some (.ref f22)))
    (l22 : K.lookup f22 = some ⟨oc22, od22, .func (PySem.W.fnOf "_law_asked" "_law_asked" (defArgs s__law_asked) (defBody s__law_asked) (defScope s__law_asked) .none kV22 dc22 pm22 an22 cd22 ct22), sl22⟩)
    (c22 : PySem.W.codeIn K cd22 "_law_asked" = true) (k22 : PySem.W.keepIn K (.ref f22) = true)
    (a23 : PySem.W.nsIn K mainGlobals "_law_doors_right" = some (some (.ref f23)))
    (l23 : K.lookup f23 = some ⟨oc23, od23, .func (PySem.W.fnOf "_law_doors_right" "_law_doors_right" (defArgs s__law_doors_right) (defBody s__law_doors_right) (defScope s__law_doors_right) .none kV23 dc23 pm23 an23 cd23 ct23), sl23⟩)
    (c23 : PySem.W.codeIn K cd23 "_law_doors_right" = true) (k23 : PySem.W.keepIn K (.ref f23) = true)
    (a24 : PySem.W.nsIn K mainGlobals "law" = some (some (.ref f24)))
    (l24 : K.lookup f24 = some ⟨oc24, od24, .func (PySem.W.fnOf "law" "law" (defArgs s_law) (defBody s_law) (defScope s_law) .none kV24 dc24 pm24 an24 cd24 ct24), sl24⟩)
    (c24 : PySem.W.codeIn K cd24 "law" = true) (k24 : PySem.W.keepIn K (.ref f24) = true)
    (z_int : PySem.W.nsIn K mainGlobals "int" = some none)
    (z_bool : PySem.W.nsIn K mainGlobals "bool" = some none)
    (z_tuple : PySem.W.nsIn K mainGlobals "tuple" = some none)
    (z_isinstance : PySem.W.nsIn K mainGlobals "isinstance" = some none)
    (z_len : PySem.W.nsIn K mainGlobals "len" = some none)
    (z_max : PySem.W.nsIn K mainGlobals "max" = some none)
    (z_min : PySem.W.nsIn K mainGlobals "min" = some none)
    (z_all : PySem.W.nsIn K mainGlobals "all" = some none)
    (z_range : PySem.W.nsIn K mainGlobals "range" = some none)
    (z_enumerate : PySem.W.nsIn K mainGlobals "enumerate" = some none)
    (z_list : PySem.W.nsIn K mainGlobals "list" = some none)
    {C0 : Addr} {I0 T0 N0 : Addr} {nm0 q0 : Str} {bs0 bm0 : List Value} {sn0 : List Str} {sub0 : List Value} {ab0 : Bool} {col0 : Option Bool} {dd0 : Option Addr} {m00 m10 m20 m30 m50 : Option Value} {eo0 ekV0 edc0 epm0 ecd0 ect0 : Value} {eod0 ean0 : Option Addr} {esl0 : Array (Option Value)} {toc0 : Value} {tod0 : Option Addr} {tn0 : Nat} {tsl0 : Array (Option Value)} {C1 : Addr} {I1 T1 N1 : Addr} {nm1 q1 : Str} {bs1 bm1 : List Value} {sn1 : List Str} {sub1 : List Value} {ab1 : Bool} {col1 : Option Bool} {dd1 : Option Addr} {m01 m11 m21 m31 m51 : Option Value} {eo1 ekV1 edc1 epm1 ecd1 ect1 : Value} {eod1 ean1 : Option Addr} {esl1 : Array (Option Value)} {toc1 : Value} {tod1 : Option Addr} {tn1 : Nat} {tsl1 : Array (Option Value)} {C2 : Addr} {I2 T2 N2 : Addr} {nm2 q2 : Str} {bs2 bm2 : List Value} {sn2 : List Str} {sub2 : List Value} {ab2 : Bool} {col2 : Option Bool} {dd2 : Option Addr} {m02 m12 m22 m32 m52 : Option Value} {eo2 ekV2 edc2 epm2 ecd2 ect2 : Value} {eod2 ean2 : Option Addr} {esl2 : Array (Option Value)} {toc2 : Value} {tod2 : Option Addr} {tn2 : Nat} {tsl2 : Array (Option Value)} {C3 : Addr} {I3 T3 N3 : Addr} {nm3 q3 : Str} {bs3 bm3 : List Value} {sn3 : List Str} {sub3 : List Value} {ab3 : Bool} {col3 : Option Bool} {dd3 : Option Addr} {m03 m13 m23 m33 m53 : Option Value} {eo3 ekV3 edc3 epm3 ecd3 ect3 : Value} {eod3 ean3 : Option Addr} {esl3 : Array (Option Value)} {toc3 : Value} {tod3 : Option Addr} {tn3 : Nat} {tsl3 : Array (Option Value)} {C4 : Addr}
    (ea0 : PySem.W.nsIn K mainGlobals "InvalidSize" = some (some (.ref C0)))
    (ec0 : K.lookup C0 = some (excClassObj nm0 q0 C0 N0 bs0 bm0 true sn0 sub0 ab0 col0 dd0 m00 m10 m20 m30 m50 "ValueError.__new__"))
    (ei0 : PySem.W.findIn K (.ref C0) "__init__" = some (some (.ref I0)))
    (el0 : K.lookup I0 = some ⟨eo0, eod0, .func (PySem.W.fnOf "__init__" "InvalidSize.__init__" (defArgs s_InvalidSize___init__) (defBody s_InvalidSize___init__) (defScope s_InvalidSize___init__) (.ref T0) ekV0 edc0 epm0 ean0 ecd0 ect0), esl0⟩)
    (et0 : K.lookup T0 = some ⟨toc0, tod0, .seq #[.none] tn0, tsl0⟩)
    (ek0 : PySem.W.codeIn K ecd0 "InvalidSize.__init__" = true)
    (ep0 : PySem.W.keepIn K (.ref I0) = true)
    (er0 : PySem.HandSPX.refsVE bm0 = true)
    (eb0 : iniB K C0 I0 "size" = true)
    (ea1 : PySem.W.nsIn K mainGlobals "InvalidMachine" = some (some (.ref C1)))
    (ec1 : K.lookup C1 = some (excClassObj nm1 q1 C1 N1 bs1 bm1 true sn1 sub1 ab1 col1 dd1 m01 m11 m21 m31 m51 "ValueError.__new__"))
    (ei1 : PySem.W.findIn K (.ref C1) "__init__" = some (some (.ref I1)))
    (el1 : K.lookup I1 = some ⟨eo1, eod1, .func (PySem.W.fnOf "__init__" "InvalidMachine.__init__" (defArgs s_InvalidMachine___init__) (defBody s_InvalidMachine___init__) (defScope s_InvalidMachine___init__) (.ref T1) ekV1 edc1 epm1 ean1 ecd1 ect1), esl1⟩)
    (et1 : K.lookup T1 = some ⟨toc1, tod1, .seq #[.none] tn1, tsl1⟩)
    (ek1 : PySem.W.codeIn K ecd1 "InvalidMachine.__init__" = true)
    (ep1 : PySem.W.keepIn K (.ref I1) = true)
    (er1 : PySem.HandSPX.refsVE bm1 = true)
    (eb1 : iniB K C1 I1 "thing" = true)
    (ea2 : PySem.W.nsIn K mainGlobals "InvalidRow" = some (some (.ref C2)))
    (ec2 : K.lookup C2 = some (excClassObj nm2 q2 C2 N2 bs2 bm2 true sn2 sub2 ab2 col2 dd2 m02 m12 m22 m32 m52 "ValueError.__new__"))
    (ei2 : PySem.W.findIn K (.ref C2) "__init__" = some (some (.ref I2)))
    (el2 : K.lookup I2 = some ⟨eo2, eod2, .func (PySem.W.fnOf "__init__" "InvalidRow.__init__" (defArgs s_InvalidRow___init__) (defBody s_InvalidRow___init__) (defScope s_InvalidRow___init__) (.ref T2) ekV2 edc2 epm2 ean2 ecd2 ect2), esl2⟩)
    (et2 : K.lookup T2 = some ⟨toc2, tod2, .seq #[.none] tn2, tsl2⟩)
    (ek2 : PySem.W.codeIn K ecd2 "InvalidRow.__init__" = true)
    (ep2 : PySem.W.keepIn K (.ref I2) = true)
    (er2 : PySem.HandSPX.refsVE bm2 = true)
    (eb2 : iniB K C2 I2 "thing" = true)
    (ea3 : PySem.W.nsIn K mainGlobals "InvalidMap" = some (some (.ref C3)))
    (ec3 : K.lookup C3 = some (excClassObj nm3 q3 C3 N3 bs3 bm3 true sn3 sub3 ab3 col3 dd3 m03 m13 m23 m33 m53 "ValueError.__new__"))
    (ei3 : PySem.W.findIn K (.ref C3) "__init__" = some (some (.ref I3)))
    (el3 : K.lookup I3 = some ⟨eo3, eod3, .func (PySem.W.fnOf "__init__" "InvalidMap.__init__" (defArgs s_InvalidMap___init__) (defBody s_InvalidMap___init__) (defScope s_InvalidMap___init__) (.ref T3) ekV3 edc3 epm3 ean3 ecd3 ect3), esl3⟩)
    (et3 : K.lookup T3 = some ⟨toc3, tod3, .seq #[.none] tn3, tsl3⟩)
    (ek3 : PySem.W.codeIn K ecd3 "InvalidMap.__init__" = true)
    (ep3 : PySem.W.keepIn K (.ref I3) = true)
    (er3 : PySem.HandSPX.refsVE bm3 = true)
    (eb3 : iniB K C3 I3 "thing" = true)
    (ea4 : PySem.W.nsIn K mainGlobals "LazyError" = some (some (.ref C4)))
    (eq4 : PySem.W.excIn K C4 bmB "ValueError.__new__" = true)
    (ep4 : PySem.W.keepIn K (.ref C4) = true)
    (eT : tabB K [C0, C1, C2, C3, C4] 4 = true)
    (eU : belowB K [C0, C1, C2, C3, C4] 5 4 = true)
    (eV : PySem.W.kitOne K (.type "ValueError") (.ref C4) = some false)
    (eX : excB K [C0, C1, C2, C3, C4] 5 = true)
    (eY : exmB K [C0, C1, C2, C3, C4] 4 4 = true)
    (eZ : noneB K [C0, C1, C2, C3, C4] 5 = true) :
    ∃ fd : FuncData, (∀ (s : Shared) (v : Value), BindsTo s fd ⟨[v], []⟩ [("_law_script", v)]) ∧ ∀ base : Heap, K.In base → base.Ns mainGlobals mg → FnOk l.prog w K mg base CX0 9 fa fd ["_law_script"] (spLaw K) := by
  have F_is_integer := fun_mk (st := s_is_integer) l0 c0 k0
  have b_is_integer := F_is_integer.binds (ps := ["thing", "low", "high"]) fun _ _ _ _ _ _ us hl => match us, hl with | [_, _, _], _ => rfl
  have m_is_integer := PySem.W.mg_of X G a0
  have n_is_integer := k0
  have F_is_size := fun_mk (st := s_is_size) l1 c1 k1
  have b_is_size := F_is_size.binds (ps := ["thing"]) fun _ _ _ _ _ _ us hl => match us, hl with | [_], _ => rfl
  have m_is_size := PySem.W.mg_of X G a1
  have n_is_size := k1
  have F_is_row := fun_mk (st := s_is_row) l2 c2 k2
  have b_is_row := F_is_row.binds (ps := ["thing", "size"]) fun _ _ _ _ _ _ us hl => match us, hl with | [_, _], _ => rfl
  have m_is_row := PySem.W.mg_of X G a2
  have n_is_row := k2
  have F_is_line := fun_mk (st := s_is_line) l3 c3 k3
  have b_is_line := F_is_line.binds (ps := ["thing", "many", "bound"]) fun _ _ _ _ _ _ us hl => match us, hl with | [_, _, _], _ => rfl
  have m_is_line := PySem.W.mg_of X G a3
  have n_is_line := k3
  have F_check_machine := fun_mk (st := s_check_machine) l4 c4 k4
  have b_check_machine := F_check_machine.binds (ps := ["thing", "size"]) fun _ _ _ _ _ _ us hl => match us, hl with | [_, _], _ => rfl
  have m_check_machine := PySem.W.mg_of X G a4
  have n_check_machine := k4
  have F_has_machine_form := fun_mk (st := s_has_machine_form) l5 c5 k5
  have b_has_machine_form := F_has_machine_form.binds (ps := ["thing"]) fun _ _ _ _ _ _ us hl => match us, hl with | [_], _ => rfl
  have m_has_machine_form := PySem.W.mg_of X G a5
  have n_has_machine_form := k5
  have F_machine_size := fun_mk (st := s_machine_size) l6 c6 k6
  have b_machine_size := F_machine_size.binds (ps := ["machine"]) fun _ _ _ _ _ _ us hl => match us, hl with | [_], _ => rfl
  have m_machine_size := PySem.W.mg_of X G a6
  have n_machine_size := k6
  have F_answer := fun_mk (st := s_answer) l7 c7 k7
  have b_answer := F_answer.binds (ps := ["machine", "row"]) fun _ _ _ _ _ _ us hl => match us, hl with | [_, _], _ => rfl
  have m_answer := PySem.W.mg_of X G a7
  have n_answer := k7
  have F_least_machine := fun_mk (st := s_least_machine) l8 c8 k8
  have b_least_machine := F_least_machine.binds (ps := ["machine"]) fun _ _ _ _ _ _ us hl => match us, hl with | [_], _ => rfl
  have m_least_machine := PySem.W.mg_of X G a8
  have n_least_machine := k8
  have F_machines_parted := fun_mk (st := s_machines_parted) l9 c9 k9
  have b_machines_parted := F_machines_parted.binds (ps := ["one", "other"]) fun _ _ _ _ _ _ us hl => match us, hl with | [_, _], _ => rfl
  have m_machines_parted := PySem.W.mg_of X G a9
  have n_machines_parted := k9
  have F_mapped := fun_mk (st := s_mapped) l10 c10 k10
  have b_mapped := F_mapped.binds (ps := ["machine", "mapping"]) fun _ _ _ _ _ _ us hl => match us, hl with | [_, _], _ => rfl
  have m_mapped := PySem.W.mg_of X G a10
  have n_mapped := k10
  have F_turned := fun_mk (st := s_turned) l11 c11 k11
  have b_turned := F_turned.binds (ps := ["machine"]) fun _ _ _ _ _ _ us hl => match us, hl with | [_], _ => rfl
  have m_turned := PySem.W.mg_of X G a11
  have n_turned := k11
  have F__law_mixed := fun_mk (st := s__law_mixed) l12 c12 k12
  have b__law_mixed := F__law_mixed.binds (ps := ["_law_cell", "_law_k"]) fun _ _ _ _ _ _ us hl => match us, hl with | [_, _], _ => rfl
  have m__law_mixed := PySem.W.mg_of X G a12
  have n__law_mixed := k12
  have F__law_purse := fun_mk (st := s__law_purse) l13 c13 k13
  have b__law_purse := F__law_purse.binds (ps := ["_law_script", "_law_at"]) fun _ _ _ _ _ _ us hl => match us, hl with | [_, _], _ => rfl
  have m__law_purse := PySem.W.mg_of X G a13
  have n__law_purse := k13
  have F__law_draw := fun_mk (st := s__law_draw) l14 c14 k14
  have b__law_draw := F__law_draw.binds (ps := ["_law_purse_here", "_law_out_of"]) fun _ _ _ _ _ _ us hl => match us, hl with | [_, _], _ => rfl
  have m__law_draw := PySem.W.mg_of X G a14
  have n__law_draw := k14
  have F__law_machine := fun_mk (st := s__law_machine) l15 c15 k15
  have b__law_machine := F__law_machine.binds (ps := ["_law_purse_here", "_law_size", "_law_most"]) fun _ _ _ _ _ _ us hl => match us, hl with | [_, _, _], _ => rfl
  have m__law_machine := PySem.W.mg_of X G a15
  have n__law_machine := k15
  have F__law_int := fun_mk (st := s__law_int) l16 c16 k16
  have b__law_int := F__law_int.binds (ps := ["_law_thing", "_law_most"]) fun _ _ _ _ _ _ us hl => match us, hl with | [_, _], _ => rfl
  have m__law_int := PySem.W.mg_of X G a16
  have n__law_int := k16
  have F__law_ints := fun_mk (st := s__law_ints) l17 c17 k17
  have b__law_ints := F__law_ints.binds (ps := ["_law_thing", "_law_most"]) fun _ _ _ _ _ _ us hl => match us, hl with | [_, _], _ => rfl
  have m__law_ints := PySem.W.mg_of X G a17
  have n__law_ints := k17
  have F__law_due := fun_mk (st := s__law_due) l18 c18 k18
  have b__law_due := F__law_due.binds (ps := ["_law_thing", "_law_size"]) fun _ _ _ _ _ _ us hl => match us, hl with | [_, _], _ => rfl
  have m__law_due := PySem.W.mg_of X G a18
  have n__law_due := k18
  have F__law_odd := fun_mk (st := s__law_odd) l19 c19 k19
  have b__law_odd := F__law_odd.binds (ps := ["_law_purse_here", "_law_many"]) fun _ _ _ _ _ _ us hl => match us, hl with | [_, _], _ => rfl
  have m__law_odd := PySem.W.mg_of X G a19
  have n__law_odd := k19
  have F__law_bent_part := fun_mk (st := s__law_bent_part) l20 c20 k20
  have b__law_bent_part := F__law_bent_part.binds (ps := ["_law_purse_here", "_law_row_here", "_law_way"]) fun _ _ _ _ _ _ us hl => match us, hl with | [_, _, _], _ => rfl
  have m__law_bent_part := PySem.W.mg_of X G a20
  have n__law_bent_part := k20
  have F__law_bent := fun_mk (st := s__law_bent) l21 c21 k21
  have b__law_bent := F__law_bent.binds (ps := ["_law_purse_here", "_law_thing"]) fun _ _ _ _ _ _ us hl => match us, hl with | [_, _], _ => rfl
  have m__law_bent := PySem.W.mg_of X G a21
  have n__law_bent := k21
  have F__law_asked := fun_mk (st := s__law_asked) l22 c22 k22
  have b__law_asked := F__law_asked.binds (ps := ["_law_way", "_law_one", "_law_two"]) fun _ _ _ _ _ _ us hl => match us, hl with | [_, _, _], _ => rfl
  have m__law_asked := PySem.W.mg_of X G a22
  have n__law_asked := k22
  have F__law_doors_right := fun_mk (st := s__law_doors_right) l23 c23 k23
  have b__law_doors_right := F__law_doors_right.binds (ps := ["_law_purse_here", "_law_asker", "_law_size", "_law_bad"]) fun _ _ _ _ _ _ us hl => match us, hl with | [_, _, _, _], _ => rfl
  have m__law_doors_right := PySem.W.mg_of X G a23
  have n__law_doors_right := k23
  have F_law := fun_mk (st := s_law) l24 c24 k24
  cases hfa.symm.trans (PySem.W.mg_of X G a24)
  have z : Z mg := ⟨PySem.W.mg_none_of X G z_int, PySem.W.mg_none_of X G z_bool, PySem.W.mg_none_of X G z_tuple, PySem.W.mg_none_of X G z_isinstance, PySem.W.mg_none_of X G z_len, PySem.W.mg_none_of X G z_max, PySem.W.mg_none_of X G z_min, PySem.W.mg_none_of X G z_all, PySem.W.mg_none_of X G z_range, PySem.W.mg_none_of X G z_enumerate, PySem.W.mg_none_of X G z_list⟩
  refine ⟨PySem.W.fnOf "law" "law" (defArgs s_law) (defBody s_law) (defScope s_law) .none kV24 dc24 pm24 an24 cd24 ct24, fun s v => .of_eq rfl, fun base _ _ => ?_⟩
  obtain ⟨t0, xf0, ex0, nf0, ti0⟩ := iniB_ok ec0 er0 eb0
  have E_InvalidSize : ErrV l.prog w K mg base "InvalidSize" "size" C0 := ini_InvalidSize ⟨⟨_, _, _, _, _, _, _, _, _, _, rfl, el0, ek0, .inr ⟨(fun z => nomatch z), T0, _, [.none], _, rfl, et0, rfl, .cons rfl .nil⟩, .inl rfl⟩, ep0⟩ t0 nf0 (PySem.W.mg_of X G ea0) xf0 ex0 ei0 ti0
  obtain ⟨t1, xf1, ex1, nf1, ti1⟩ := iniB_ok ec1 er1 eb1
  have E_InvalidMachine : ErrV l.prog w K mg base "InvalidMachine" "thing" C1 := ini_InvalidMachine ⟨⟨_, _, _, _, _, _, _, _, _, _, rfl, el1, ek1, .inr ⟨(fun z => nomatch z), T1, _, [.none], _, rfl, et1, rfl, .cons rfl .nil⟩, .inl rfl⟩, ep1⟩ t1 nf1 (PySem.W.mg_of X G ea1) xf1 ex1 ei1 ti1
  obtain ⟨t2, xf2, ex2, nf2, ti2⟩ := iniB_ok ec2 er2 eb2
  have E_InvalidRow : ErrV l.prog w K mg base "InvalidRow" "thing" C2 := ini_InvalidRow ⟨⟨_, _, _, _, _, _, _, _, _, _, rfl, el2, ek2, .inr ⟨(fun z => nomatch z), T2, _, [.none], _, rfl, et2, rfl, .cons rfl .nil⟩, .inl rfl⟩, ep2⟩ t2 nf2 (PySem.W.mg_of X G ea2) xf2 ex2 ei2 ti2
  obtain ⟨t3, xf3, ex3, nf3, ti3⟩ := iniB_ok ec3 er3 eb3
  have E_InvalidMap : ErrV l.prog w K mg base "InvalidMap" "thing" C3 := ini_InvalidMap ⟨⟨_, _, _, _, _, _, _, _, _, _, rfl, el3, ek3, .inr ⟨(fun z => nomatch z), T3, _, [.none], _, rfl, et3, rfl, .cons rfl .nil⟩, .inl rfl⟩, ep3⟩ t3 nf3 (PySem.W.mg_of X G ea3) xf3 ex3 ei3 ti3
  have er : Er l.prog w K mg base (csOf [C0, C1, C2, C3, C4]) := { InvalidSize := E_InvalidSize, InvalidMachine := E_InvalidMachine, InvalidRow := E_InvalidRow, InvalidMap := E_InvalidMap, g_LazyError := PySem.W.mg_of X G ea4, q_LazyError := eq4, k_LazyError := ep4, x_LazyError := excB_ok eX 4 (by decide), tab := tabB_ok eT, below := belowB_ok eU, notB := eV, exc := excB_ok eX, exm := exmB_ok eY, none := noneB_ok eZ }
  have C_mixed : Cal l.prog w K mg base CX0 "_law_mixed" 1 ["_law_cell", "_law_k"] spMixed := ⟨_, _, ok_mixed z F__law_mixed, m__law_mixed, n__law_mixed, b__law_mixed⟩
  have C_draw : Cal l.prog w K mg base CX0 "_law_draw" 2 ["_law_purse_here", "_law_out_of"] spDraw := ⟨_, _, ok_draw z C_mixed F__law_draw, m__law_draw, n__law_draw, b__law_draw⟩
  have C_purse : Cal l.prog w K mg base CX0 "_law_purse" 1 ["_law_script", "_law_at"] (spPurse K) := ⟨_, _, ok_purse z F__law_purse, m__law_purse, n__law_purse, b__law_purse⟩
  have C_machine : Cal l.prog w K mg base CX0 "_law_machine" 3 ["_law_purse_here", "_law_size", "_law_most"] spMachine := ⟨_, _, ok_machine z C_draw F__law_machine, m__law_machine, n__law_machine, b__law_machine⟩
  have C_int : Cal l.prog w K mg base CX0 "is_integer" 1 ["thing", "low", "high"] spIsInteger := ⟨_, _, ok_is_integer z F_is_integer, m_is_integer, n_is_integer, b_is_integer⟩
  have C_size : Cal l.prog w K mg base CX0 "is_size" 2 ["thing"] spIsSize := ⟨_, _, ok_is_size z C_int F_is_size, m_is_size, n_is_size, b_is_size⟩
  have C_isrow : Cal l.prog w K mg base CX0 "is_row" 2 ["thing", "size"] spIsRow := ⟨_, _, ok_is_row z C_int F_is_row, m_is_row, n_is_row, b_is_row⟩
  have C_line : Cal l.prog w K mg base CX0 "is_line" 3 ["thing", "many", "bound"] spIsLine := ⟨_, _, ok_is_line z C_isrow F_is_line, m_is_line, n_is_line, b_is_line⟩
  have C_form : Cal l.prog w K mg base CX0 "has_machine_form" 1 ["thing"] spForm := ⟨_, _, ok_has_machine_form z F_has_machine_form, m_has_machine_form, n_has_machine_form, b_has_machine_form⟩
  have C_check := (⟨_, _, ok_check_machine z er C_int C_size C_line C_form F_check_machine, m_check_machine, n_check_machine, b_check_machine⟩ : Cal l.prog w K mg base (L2.CX l.prog w) "check_machine" 4 ["thing", "size"] _)
  have C_msize := (⟨_, _, ok_machine_size z er C_check F_machine_size, m_machine_size, n_machine_size, b_machine_size⟩ : Cal l.prog w K mg base (L2.CX l.prog w) "machine_size" 5 ["machine"] _)
  have C_ans := (⟨_, _, ok_answer z er C_isrow C_msize F_answer, m_answer, n_answer, b_answer⟩ : Cal l.prog w K mg base (L2.CX l.prog w) "answer" 6 ["machine", "row"] _)
  have C_turned := (⟨_, _, ok_turned z er C_msize F_turned, m_turned, n_turned, b_turned⟩ : Cal l.prog w K mg base (L2.CX l.prog w) "turned" 6 ["machine"] _)
  have C_parted := (⟨_, _, ok_parted z er C_check C_msize F_machines_parted, m_machines_parted, n_machines_parted, b_machines_parted⟩ : Cal l.prog w K mg base (L2.CX l.prog w) "machines_parted" 6 ["one", "other"] _)
  have C_mapped := (⟨_, _, ok_mapped z er C_isrow C_msize F_mapped, m_mapped, n_mapped, b_mapped⟩ : Cal l.prog w K mg base (L2.CX l.prog w) "mapped" 6 ["machine", "mapping"] _)
  have O_least := ok_least (P := l.prog) (w := w) (base := base) z er C_msize F_least_machine
  have K_least : CalK l.prog w K mg base (L2.CX l.prog w) "least_machine" 6 ["machine"] ["machine"] (fun zs => zs) _ :=
    CalK.of (g := fun ws => ws) O_least m_least_machine n_least_machine (fun z => nomatch z) (fun s ws hl => match ws, hl with | [_], _ => .of_eq rfl) fun _ _ r => r
  have C_asked := (⟨_, _, ok_asked z er C_ans K_least C_parted C_mapped C_turned C_check F__law_asked, m__law_asked, n__law_asked, b__law_asked⟩ : Cal l.prog w K mg base CX0 "_law_asked" 7 ["_law_way", "_law_one", "_law_two"] _)
  have C_lint := (⟨_, _, ok_int z F__law_int, m__law_int, n__law_int, b__law_int⟩ : Cal l.prog w K mg base CX0 "_law_int" 1 ["_law_thing", "_law_most"] _)
  have C_lints := (⟨_, _, ok_ints z C_lint F__law_ints, m__law_ints, n__law_ints, b__law_ints⟩ : Cal l.prog w K mg base CX0 "_law_ints" 2 ["_law_thing", "_law_most"] _)
  have C_due := (⟨_, _, ok_due z C_lint C_lints F__law_due, m__law_due, n__law_due, b__law_due⟩ : Cal l.prog w K mg base CX0 "_law_due" 3 ["_law_thing", "_law_size"] _)
  have C_odd := (⟨_, _, ok_odd z C_draw F__law_odd, m__law_odd, n__law_odd, b__law_odd⟩ : Cal l.prog w K mg base CX0 "_law_odd" 3 ["_law_purse_here", "_law_many"] _)
  have C_part := (⟨_, _, ok_part z C_draw C_odd F__law_bent_part, m__law_bent_part, n__law_bent_part, b__law_bent_part⟩ : Cal l.prog w K mg base CX0 "_law_bent_part" 4 ["_law_purse_here", "_law_row_here", "_law_way"] _)
  have C_bent := (⟨_, _, ok_bent z C_draw C_odd C_part F__law_bent, m__law_bent, n__law_bent, b__law_bent⟩ : Cal l.prog w K mg base CX0 "_law_bent" 5 ["_law_purse_here", "_law_thing"] _)
  have C_doors := (⟨_, _, ok_doors z C_draw C_machine C_asked F__law_doors_right, m__law_doors_right, n__law_doors_right, b__law_doors_right⟩ : Cal l.prog w K mg base CX0 "_law_doors_right" 8 ["_law_purse_here", "_law_asker", "_law_size", "_law_bad"] _)
  exact ok_law z C_purse C_draw C_machine C_bent C_check C_due C_doors F_law
end K02
open PySem PySem.W PyProof.Rows LT in
set_option maxRecDepth 100000 in
set_option maxHeartbeats 0 in
theorem PySem.Challenge.cw_lazytags_k02_machines_checked_holds : PySem.Challenge.rw_lazytags_k02_machines_checked.Holds := by
  w_on; o_law; k_head; (case hw => w_witness2)
  k_fill
  refine L2.walk_ofK (n := 63) (k := 9) (x := "_law_script") (CX := L2.CX0) (sp := K02.spLaw) rfl (by decide) rfl ⟨rfl, by decide, by decide⟩ (fun w h Y => PySem.W.km_in_of Y) ?F (fun K H a ns hl _ hS => ⟨a, ns, rfl, hS, hl, fun _ => rfl⟩) fun _ _ _ _ z => z
  case F =>
    intro w mg fa h KX G hmg
    refine' K02.all_mk KX G hmg ?a0 ?l0 ?c0 ?k0 ?a1 ?l1 ?c1 ?k1 ?a2 ?l2 ?c2 ?k2 ?a3 ?l3 ?c3 ?k3 ?a4 ?l4 ?c4 ?k4 ?a5 ?l5 ?c5 ?k5 ?a6 ?l6 ?c6 ?k6 ?a7 ?l7 ?c7 ?k7 ?a8 ?l8 ?c8 ?k8 ?a9 ?l9 ?c9 ?k9 ?a10 ?l10 ?c10 ?k10 ?a11 ?l11 ?c11 ?k11 ?a12 ?l12 ?c12 ?k12 ?a13 ?l13 ?c13 ?k13 ?a14 ?l14 ?c14 ?k14 ?a15 ?l15 ?c15 ?k15 ?a16 ?l16 ?c16 ?k16 ?a17 ?l17 ?c17 ?k17 ?a18 ?l18 ?c18 ?k18 ?a19 ?l19 ?c19 ?k19 ?a20 ?l20 ?c20 ?k20 ?a21 ?l21 ?c21 ?k21 ?a22 ?l22 ?c22 ?k22 ?a23 ?l23 ?c23 ?k23 ?a24 ?l24 ?c24 ?k24 ?z_int ?z_bool ?z_tuple ?z_isinstance ?z_len ?z_max ?z_min ?z_all ?z_range ?z_enumerate ?z_list ?ea0 ?ec0 ?ei0 ?el0 ?et0 ?ek0 ?ep0 ?er0 ?eb0 ?ea1 ?ec1 ?ei1 ?el1 ?et1 ?ek1 ?ep1 ?er1 ?eb1 ?ea2 ?ec2 ?ei2 ?el2 ?et2 ?ek2 ?ep2 ?er2 ?eb2 ?ea3 ?ec3 ?ei3 ?el3 ?et3 ?ek3 ?ep3 ?er3 ?eb3 ?ea4 ?eq4 ?ep4 ?eT ?eU ?eV ?eX ?eY ?eZ
    (case a0 => k_is)
    (case l0 => k_is)
    (case c0 => k_is)
    (case k0 => k_is)
    (case a1 => k_is)
    (case l1 => k_is)
    (case c1 => k_is)
    (case k1 => k_is)
    (case a2 => k_is)
    (case l2 => k_is)
    (case c2 => k_is)
    (case k2 => k_is)
    (case a3 => k_is)
    (case l3 => k_is)
    (case c3 => k_is)
    (case k3 => k_is)
    (case a4 => k_is)
    (case l4 => k_is)
    (case c4 => k_is)
    (case k4 => k_is)
    (case a5 => k_is)
    (case l5 => k_is)
    (case c5 => k_is)
    (case k5 => k_is)
    (case a6 => k_is)
    (case l6 => k_is)
    (case c6 => k_is)
    (case k6 => k_is)
    (case a7 => k_is)
    (case l7 => k_is)
    (case c7 => k_is)
    (case k7 => k_is)
    (case a8 => k_is)
    (case l8 => k_is)
    (case c8 => k_is)
    (case k8 => k_is)
    (case a9 => k_is)
    (case l9 => k_is)
    (case c9 => k_is)
    (case k9 => k_is)
    (case a10 => k_is)
    (case l10 => k_is)
    (case c10 => k_is)
    (case k10 => k_is)
    (case a11 => k_is)
    (case l11 => k_is)
    (case c11 => k_is)
    (case k11 => k_is)
    (case a12 => k_is)
    (case l12 => k_is)
    (case c12 => k_is)
    (case k12 => k_is)
    (case a13 => k_is)
    (case l13 => k_is)
    (case c13 => k_is)
    (case k13 => k_is)
    (case a14 => k_is)
    (case l14 => k_is)
    (case c14 => k_is)
    (case k14 => k_is)
    (case a15 => k_is)
    (case l15 => k_is)
    (case c15 => k_is)
    (case k15 => k_is)
    (case a16 => k_is)
    (case l16 => k_is)
    (case c16 => k_is)
    (case k16 => k_is)
    (case a17 => k_is)
    (case l17 => k_is)
    (case c17 => k_is)
    (case k17 => k_is)
    (case a18 => k_is)
    (case l18 => k_is)
    (case c18 => k_is)
    (case k18 => k_is)
    (case a19 => k_is)
    (case l19 => k_is)
    (case c19 => k_is)
    (case k19 => k_is)
    (case a20 => k_is)
    (case l20 => k_is)
    (case c20 => k_is)
    (case k20 => k_is)
    (case a21 => k_is)
    (case l21 => k_is)
    (case c21 => k_is)
    (case k21 => k_is)
    (case a22 => k_is)
    (case l22 => k_is)
    (case c22 => k_is)
    (case k22 => k_is)
    (case a23 => k_is)
    (case l23 => k_is)
    (case c23 => k_is)
    (case k23 => k_is)
    (case a24 => k_is)
    (case l24 => k_is)
    (case c24 => k_is)
    (case k24 => k_is)
    (case z_int => k_is)
    (case z_bool => k_is)
    (case z_tuple => k_is)
    (case z_isinstance => k_is)
    (case z_len => k_is)
    (case z_max => k_is)
    (case z_min => k_is)
    (case z_all => k_is)
    (case z_range => k_is)
    (case z_enumerate => k_is)
    (case z_list => k_is)
    (case ea0 => k_is)
    (case ec0 => k_is)
    (case ei0 => k_is)
    (case el0 => k_is)
    (case et0 => k_is)
    (case ek0 => k_is)
    (case ep0 => k_is)
    (case ea1 => k_is)
    (case ec1 => k_is)
    (case ei1 => k_is)
    (case el1 => k_is)
    (case et1 => k_is)
    (case ek1 => k_is)
    (case ep1 => k_is)
    (case ea2 => k_is)
    (case ec2 => k_is)
    (case ei2 => k_is)
    (case el2 => k_is)
    (case et2 => k_is)
    (case ek2 => k_is)
    (case ep2 => k_is)
    (case ea3 => k_is)
    (case ec3 => k_is)
    (case ei3 => k_is)
    (case el3 => k_is)
    (case et3 => k_is)
    (case ek3 => k_is)
    (case ep3 => k_is)
    (case ea4 => k_is)
    (case ep4 => k_is)
    (case er0 => kernel_rfl)
    (case eb0 => kernel_rfl)
    (case er1 => kernel_rfl)
    (case eb1 => kernel_rfl)
    (case er2 => kernel_rfl)
    (case eb2 => kernel_rfl)
    (case er3 => kernel_rfl)
    (case eb3 => kernel_rfl)
    (case eq4 => kernel_rfl)
    (case eT => kernel_rfl)
    (case eU => kernel_rfl)
    (case eV => kernel_rfl)
    (case eX => kernel_rfl)
    (case eY => kernel_rfl)
    (case eZ => kernel_rfl)
