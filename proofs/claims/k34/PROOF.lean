import PyProof.Rows.All
import Wide.All
import OpenK.AllK
import Wide.FinOn
import HandS.ForMost
import HandS.IsInst
import HandS.TupAny
import HandS.Conv
import PyProof.EnumMake
import PyProof.Draws
import KE.GoesMore
import HandS.Walk
import HandS.ForExc
import HandS.ExcInit
import HandS.ExcField
import HandS.ExcIs
import HandS.Defaults
import HandS.CallSlots
import KE.KExcIs
import HandS.More
import HandS.Dict
import HandS.ExcValue
import HandS.ExcOwn
import PyProof.ExcBaseAll.ValueError
import HandS.WordsExc
import HandS.TupMul
import HandS.TryOnly
import HandS.Property
import HandS.Style
import HandS.Wide
import KE.KRevSl
import HandS.WordsDict
import HandS.DictComp
import KE.KSortedM
import HandS.Star
import HandS.WideBits
import HandS.SetFor
import HandS.TupSets
import HandS.Zip
import PySem.Challenge.RW_lazytags_k34_idle_steps_and_swaps
set_option Elab.async false
set_option linter.all false
set_option maxRecDepth 100000
set_option maxHeartbeats 4000000
namespace LT
open PySem PySem.Spec PyProof.Rows L2
/-! ## 1. a def that is called by its name -/
structure Cal (P : Program) (w : World) (K : PySem.W.Frag) (mg : Str → Option Value) (base : Heap) (CX : CXT) (x : Str) (k : Nat) (ps : List Str) (sp : Sp) : Prop where
  ex : ∃ f fd, FnOk P w K mg base CX k f fd ps sp ∧ mg x = some (.ref f) ∧ PySem.W.keepIn K (.ref f) = true ∧ Binds K fd ps []
/-- .. by keywords alone, named ks, which g puts in the parameters' order -/
structure CalK (P : Program) (w : World) (K : PySem.W.Frag) (mg : Str → Option Value) (base : Heap) (CX : CXT) (x : Str) (k : Nat) (ps ks : List Str) (gV : List V → List V) (sp : Sp) : Prop where
  ex : ∃ (f : Addr) (fd : FuncData) (g : List Value → List Value → List Value) (gW : List V → List V → List V), FnOk P w K mg base CX k f fd ps sp ∧ mg x = some (.ref f) ∧ PySem.W.keepIn K (.ref f) = true ∧ KBinds K fd ps ks g gW ∧ ∀ zs, gW [] zs = gV zs
section
variable {X : Cx} {CX : CXT} {k j : Nat} {x : Str} {ps ks : List Str} {sp : Sp} {p pos : Pos} {e : Expr} {es : List Expr} {kws : List Keyword} {t tk : TA} {E : XK} {gV : List V → List V}
theorem pe_cal (c : Cal X.prog X.w X.K X.mg X.base CX x k ps sp) (hr : Room j X.A) (hg : Gl X x) (hx : Passes CX X E) (ha : PA X (e :: es) t) (hj : k ≤ j := by decide)
    (hdb : (x == ("__debug__" : Str)) = false := by decide) (he : starEach (e :: es) X.env = (false, eval e X.env) :: starEach es X.env := by rfl)
    (hpl : (backTo pos (starEach es X.env)).any (·.1) = false := by rfl) : PE X (.Call (.Name x p) (e :: es) [] pos) (tCall sp [] E t) := by
  obtain ⟨f, fd, F, hm, hk, hb⟩ := c.ex
  exact pe_call F (hr.mono hj) hg hm hk hb .nil hx ha hdb he hpl
theorem pe_cal0 (c : Cal X.prog X.w X.K X.mg X.base CX x k ps sp) (hr : Room j X.A) (hg : Gl X x) (hx : Passes CX X E) (hj : k ≤ j := by decide)
    (hdb : (x == ("__debug__" : Str)) = false := by decide) : PE X (.Call (.Name x p) [] [] pos) (tCall sp [] E tNil) := by
  obtain ⟨f, fd, F, hm, hk, hb⟩ := c.ex
  exact pe_call0 F (hr.mono hj) hg hm hk hb .nil hx hdb
def tCalK0 (sp : Sp) (gV : List V → List V) (E : XK) (tk : TA) : TE := fun σ H Q => tk σ H fun zs H2 => sp (gV zs) H2 Q E
theorem pe_calK0 (c : CalK X.prog X.w X.K X.mg X.base CX x k ps ks gV sp) (hr : Room j X.A) (hg : Gl X x) (hx : Passes CX X E) (hkw : PK X kws tk) (hj : k ≤ j := by decide)
    (hall : (backToKw pos (keywordEach kws X.env)).all (·.1.isSome) = true := by rfl) (hks : (backToKw pos (keywordEach kws X.env)).filterMap (·.1) = ks := by rfl)
    (hdb : (x == ("__debug__" : Str)) = false := by decide)
    (hpl : ((backTo pos (starEach [] X.env)).any (·.1) || (backToKw pos (keywordEach kws X.env)).any (·.1.isNone)) = false := by rfl) :
    PE X (.Call (.Name x p) [] kws pos) (tCalK0 sp gV E tk) := by
  obtain ⟨f, fd, g, gW, F, hm, hk, hb, he⟩ := c.ex
  constructor
  intro pins s σ H Q I h
  apply wpAny_Call_Name_kw
  apply ld_glob I hg hm _ hdb
  apply PySem.W.callWith_KW0 (h₀ := X.base) I.ok.mod.kin hk hall _ hpl
  refine thn (hkw.run pos pins s σ H _ I h) ?_
  rintro ws s2 ⟨zs, H2, I2, rz, q2⟩
  refine And.intro I2.kIn ?_
  rw [hks]
  exact run_fnk (us := []) (vs := []) F (hr.mono hj) hb hx I2 .nil rz (by rw [he]; exact q2)
end
section
variable {P : Program} {w : World} {K : PySem.W.Frag} {mg : Str → Option Value} {base : Heap} {CX : CXT} {k : Nat} {x : Str} {f : Addr} {fd : FuncData} {ps ks : List Str} {sp : Sp}
theorem vals_rev : ∀ {zs : List V} {ws : List Value}, Vals zs ws → Vals zs.reverse ws.reverse
  | _, _, .nil => .nil
  | _, _, .cons a r => by
    rw [List.reverse_cons, List.reverse_cons]
    exact Vals.append (vals_rev r) (.cons a .nil)
theorem CalK.of {g : List Value → List Value} {gV : List V → List V} (F : FnOk P w K mg base CX k f fd ps sp) (hm : mg x = some (.ref f)) (hk : PySem.W.keepIn K (.ref f) = true) (ne : ps ≠ [])
    (to : ∀ (s : Shared) (ws : List Value), (g ws).length = ps.length → BindsTo s fd ⟨[], ks.zip ws⟩ (ps.zip (g ws)))
    (rel : ∀ (zs : List V) (ws : List Value), Vals zs ws → Vals (gV zs) (g ws)) : CalK P w K mg base CX x k ps ks gV sp := by
  refine ⟨f, fd, fun us ws => match us with | [] => g ws | _ :: _ => [], fun vs zs => match vs with | [] => gV zs | _ :: _ => [], F, hm, hk, ⟨?_, ?_⟩, fun _ => rfl⟩
  · intro s us ws _ hl
    cases us with
    | nil => exact to s ws hl
    | cons a b =>
      cases ps with
      | nil => exact absurd rfl ne
      | cons c d => cases hl
  · intro vs us zs ws r rz
    cases r with
    | nil => exact rel zs ws rz
    | cons a b => exact .nil
end
/-! ## 2. numbers -/
section
variable {X : Cx}
def CPowB (i j : Int) : Prop := 0 ≤ j ∧ ((Builtin.Int.intBits i : Nat) : Int) * j ≤ 2 ^ 27
theorem op_powB : OpR X (binaryOp .Pow) (rI CPowB fun i j => .int (i ^ j.toNat)) :=
  opI fun _ _ _ _ _ _ _ c q => PyProof.Rows.pow_int c.1 c.2 q
end
/-! ## 3. data, and what stays of the heap -/
/-- data: tuples told whole, lists and dicts by their place -/
inductive D where
  | non | bl (b : Bool) | int (i : Int) | str (s : Str) | tup (ds : List D) | lst (a : Addr) | dct (a : Addr)
mutual
inductive Rp (H : Hp) : V → D → Prop
  | non : Rp H .non .non
  | bl (b : Bool) : Rp H (.bl b) (.bl b)
  | int (i : Int) : Rp H (.int i) (.int i)
  | str (x : Str) : Rp H (.str x) (.str x)
  | tup {a : Addr} {xs : List V} {ds : List D} : H a = some (.tup xs) → RpAll H xs ds → Rp H (.ref a) (.tup ds)
  | lst {a : Addr} {xs : List V} : H a = some (.lst xs) → Rp H (.ref a) (.lst a)
  | dct {a : Addr} {kvs : List (Key × V)} : H a = some (.dK kvs) → Rp H (.ref a) (.dct a)
inductive RpAll (H : Hp) : List V → List D → Prop
  | nil : RpAll H [] []
  | cons {v : V} {vs : List V} {d : D} {ds : List D} : Rp H v d → RpAll H vs ds → RpAll H (v :: vs) (d :: ds)
end
def alike : HO → HO → Prop
  | .tup xs, o => o = .tup xs
  | .lst _, o => ∃ ys, o = .lst ys
  | .dK _, o => ∃ kvs, o = .dK kvs
  | o, o' => o' = o
theorem alike_refl (o : HO) : alike o o := by
  cases o <;> first | rfl | exact ⟨_, rfl⟩
theorem alike_trans {a b c : HO} (h : alike a b) (g : alike b c) : alike a c := by
  cases a with
  | lst xs => obtain ⟨ys, rfl⟩ := h; exact g
  | dK xs => obtain ⟨ys, rfl⟩ := h; exact g
  | _ => cases h; exact g
/-- behind it all stands as it was, but what is at M; and tuples are tuples, lists are lists -/
structure Fx (M : List Addr) (H H' : Hp) : Prop where
  keep : ∀ b o, b ∉ M → H b = some o → H' b = some o
  kind : ∀ b o, H b = some o → ∃ o', H' b = some o' ∧ alike o o'
section
variable {M M' : List Addr} {H H1 H2 : Hp} {p : Addr} {o : HO} {xs ys : List V} {v : V} {d : D}
theorem Fx.refl (M : List Addr) (H : Hp) : Fx M H H := ⟨fun _ _ _ h => h, fun _ o h => ⟨o, h, alike_refl o⟩⟩
theorem Fx.trans (a : Fx M H H1) (b : Fx M H1 H2) : Fx M H H2 := by
  constructor
  · intro x o hx h
    exact b.keep x o hx (a.keep x o hx h)
  · intro x o h
    obtain ⟨o1, h1, k1⟩ := a.kind x o h
    obtain ⟨o2, h2, k2⟩ := b.kind x o1 h1
    exact ⟨o2, h2, alike_trans k1 k2⟩
theorem Fx.new (M : List Addr) (h : H p = none) : Fx M H (upd H p o) := by
  have e : ∀ b u, H b = some u → upd H p o b = some u := by
    intro b u hb
    rw [upd_ne (ne_of_none hb h)]
    exact hb
  exact ⟨fun b u _ hb => e b u hb, fun b u hb => ⟨u, e b u hb, alike_refl u⟩⟩
theorem Fx.put (hm : p ∈ M) (h : H p = some (.lst xs)) : Fx M H (upd H p (.lst ys)) := by
  constructor
  · intro b u hb q
    rw [upd_ne (by rintro rfl; exact hb hm)]
    exact q
  · intro b u q
    by_cases e : b = p
    · subst e
      rw [h] at q
      cases q
      exact ⟨_, upd_same, _, rfl⟩
    · exact ⟨u, (upd_ne e).trans q, alike_refl u⟩
theorem Fx.mono (h : Fx M H H1) (s : ∀ b, b ∈ M → b ∈ M') : Fx M' H H1 := ⟨fun b o hb => h.keep b o fun z => hb (s b z), h.kind⟩
/-- what was not there when it began may change -/
theorem Fx.drop (a : Fx [] H H1) (b : Fx [p] H1 H2) (h : H p = none) : Fx [] H H2 := by
  constructor
  · intro x o _ e
    have ne : x ≠ p := ne_of_none e h
    exact b.keep x o (by rw [List.mem_singleton]; exact ne) (a.keep x o (fun z => nomatch z) e)
  · intro x o e
    obtain ⟨o1, h1, k1⟩ := a.kind x o e
    obtain ⟨o2, h2, k2⟩ := b.kind x o1 h1
    exact ⟨o2, h2, alike_trans k1 k2⟩
theorem Fx.sql {K : PySem.W.Frag} {a : Addr} (h : Fx [] H H1) (e : SqL K H a xs) : SqL K H1 a xs := by
  have k : ∀ o, H a = some o → H1 a = some o := fun o q => h.keep a o (fun z => nomatch z) q
  rcases e with (e | ⟨o, e⟩) | e
  · exact .inl (.inl (k _ e))
  · exact .inl (.inr ⟨o, k _ e⟩)
  · exact .inr e
theorem Fx.any (h : Fx [] H H1) : Fx M H H1 := h.mono fun _ z => nomatch z
theorem Fx.tup (h : Fx M H H1) (e : H p = some (.tup xs)) : H1 p = some (.tup xs) := by
  obtain ⟨o, e1, k⟩ := h.kind p _ e
  rw [e1]
  exact congrArg some k
theorem Fx.all (h : Fx [] H H1) (e : H p = some o) : H1 p = some o := h.keep p o (fun z => nomatch z) e
theorem Fx.fresh (h : Fx M H H1) (e : H1 p = none) : H p = none := by
  cases q : H p with
  | none => rfl
  | some u =>
    obtain ⟨o1, h1, _⟩ := h.kind p u q
    rw [e] at h1
    cases h1
mutual
theorem Fx.rp (h : Fx M H H1) : ∀ {v : V} {d : D}, Rp H v d → Rp H1 v d
  | _, _, .non => .non
  | _, _, .bl b => .bl b
  | _, _, .int i => .int i
  | _, _, .str x => .str x
  | _, _, .tup e r => .tup (h.tup e) (h.rpAll r)
  | _, _, .lst e => by
    obtain ⟨o, e1, ys, k⟩ := h.kind _ _ e
    subst k
    exact .lst e1
  | _, _, .dct e => by
    obtain ⟨o, e1, ys, k⟩ := h.kind _ _ e
    subst k
    exact .dct e1
theorem Fx.rpAll (h : Fx M H H1) : ∀ {vs : List V} {ds : List D}, RpAll H vs ds → RpAll H1 vs ds
  | _, _, .nil => .nil
  | _, _, .cons a b => .cons (h.rp a) (h.rpAll b)
end
theorem RpAll.len : ∀ {vs : List V} {ds : List D}, RpAll H vs ds → vs.length = ds.length
  | _, _, .nil => rfl
  | _, _, .cons _ b => by rw [List.length_cons, List.length_cons, b.len]
theorem RpAll.at : ∀ {vs : List V} {ds : List D} {i : Nat} {v : V}, RpAll H vs ds → vs[i]? = some v → ∃ d, ds[i]? = some d ∧ Rp H v d
  | _, _, _, _, .nil, h => by simp at h
  | _, _, 0, _, .cons a _, h => ⟨_, rfl, by cases h; exact a⟩
  | _, _, i + 1, _, .cons _ b, h => RpAll.at (i := i) b h
theorem RpAll.atD : ∀ {vs : List V} {ds : List D} {i : Nat} {d : D}, RpAll H vs ds → ds[i]? = some d → ∃ v, vs[i]? = some v ∧ Rp H v d
  | _, _, _, _, .nil, h => by simp at h
  | _, _, 0, _, .cons a _, h => ⟨_, rfl, by cases h; exact a⟩
  | _, _, i + 1, _, .cons _ b, h => RpAll.atD (i := i) b h
theorem RpAll.snoc : ∀ {vs : List V} {ds : List D} {v : V} {d : D}, RpAll H vs ds → Rp H v d → RpAll H (vs ++ [v]) (ds ++ [d])
  | _, _, _, _, .nil, h => .cons h .nil
  | _, _, _, _, .cons a b, h => .cons a (b.snoc h)
theorem Rp.tup_inv {ds : List D} (h : Rp H v (.tup ds)) : ∃ a xs, v = .ref a ∧ H a = some (.tup xs) ∧ RpAll H xs ds := by
  cases h with
  | tup e r => exact ⟨_, _, rfl, e, r⟩
theorem Rp.int_inv {i : Int} (h : Rp H v (.int i)) : v = .int i := by cases h; rfl
/-- tuples of ints -/
def intsD (ns : List Int) : D := .tup (ns.map .int)
theorem RpAll.intsA : ∀ {vs : List V} {ns : List Int}, RpAll H vs (ns.map .int) → vs = ns.map V.int
  | _, [], .nil => rfl
  | _, n :: ns, .cons a b => by rw [a.int_inv, b.intsA]; rfl
theorem RpAll.of_ints (H : Hp) : ∀ (ns : List Int), RpAll H (ns.map V.int) (ns.map .int)
  | [] => .nil
  | n :: ns => .cons (.int n) (RpAll.of_ints H ns)
theorem Rp.ints_inv {ns : List Int} (h : Rp H v (intsD ns)) : ∃ a, v = .ref a ∧ H a = some (.tup (ns.map V.int)) := by
  obtain ⟨a, xs, rfl, e, r⟩ := h.tup_inv
  rw [r.intsA] at e
  exact ⟨a, rfl, e⟩
theorem Rp.of_ints {a : Addr} {ns : List Int} (h : H a = some (.tup (ns.map V.int))) : Rp H (.ref a) (intsD ns) := .tup h (RpAll.of_ints H ns)
end
/-! ## 4. isinstance -/
def D.ty : D → String
  | .non => "NoneType" | .bl _ => "bool" | .int _ => "int" | .str _ => "str" | .tup _ => "tuple" | .lst _ => "list" | .dct _ => "dict"
theorem Rp.tyx {K : PySem.W.Frag} {H : Hp} {v : V} {d : D} (h : Rp H v d) : TyX K H v (.type d.ty) := by
  cases h with
  | non => exact .base .non
  | bl b => exact .base (.bl b)
  | int i => exact .base (.int i)
  | str x => exact .base (.str x)
  | tup e r => exact .base (.tup e)
  | lst e => exact .base (.lst e)
  | dct e => exact .base (.dK e)
def isTy (n : String) (d : D) : Bool := (kitB d.ty n).getD false
theorem isi_rp {K : PySem.W.Frag} {H : Hp} {v : V} {d : D} {n : String} {Q : VK} (h : Rp H v d) (hn : n ∈ ["int", "bool", "tuple", "list", "str", "dict"]) (q : Q (.bl (isTy n d)) H) : rIsi K [v, .ty n] H Q := by
  refine ⟨v, .ty n, .type d.ty, .type n, isTy n d, rfl, .ty n, h.tyx, kit_ty ?_, q⟩
  unfold isTy
  have key : ∀ t ∈ ["NoneType", "bool", "int", "str", "tuple", "list", "dict"], ∀ n ∈ ["int", "bool", "tuple", "list", "str", "dict"], (kitB t n).isSome = true := by decide +kernel
  have s := key d.ty (by cases d <;> simp [D.ty]) n hn
  cases e : kitB d.ty n with
  | none => rw [e] at s; cases s
  | some b => rfl
end LT
/-! enumerate(t), t a tuple -/
namespace PySem
namespace LTE
open Sem (wp)
open AutoSeq1 (wpAny_loadPart')
theorem makes_enum {v : Value} {o : Obj} {G : Heap → Prop} (B : Begins v o G) :
    Meets (Builtin.«enumerate.__new__» ⟨[.type "enumerate", v], []⟩) (fun _ R s => G s.heap ∧
      R (.ok (.ret (.ref (s.heap.push o).objs.size)))
        { s with heap := (s.heap.push o).push { cls := .type "enumerate", data := .fields #[.none, .bool false, .ref s.heap.objs.size, rawInt 0, .none, .none] } }) := by
  refine .of_wp fun prog w A R s h => ?_
  rcases s with ⟨hp, g, d, tk, os⟩
  rcases h with ⟨hg, h⟩
  have hs1 := sub_enumerate
  have it : ∀ {A' : Around} {E : Value → Shared → Prop} {Q : Value → Shared → Prop}, Q (.ref hp.objs.size) ⟨hp.push o, g, d, tk, os⟩ → wpAny (model prog w) A' (pyIter v) Q E ⟨hp, g, d, tk, os⟩ :=
    fun z => B.iter prog w _ _ ⟨hp, g, d, tk, os⟩ _ hg z
  wp_walk using it
  refine wpAny_stack_any fun st => ?_
  refine wpAny_pure ?_
  split
  · rename_i c _ _ _ _ _
    cases (c == Value.type "enumerate")
    · wp_walk using it
      exact Exists.intro _ (And.intro rfl h)
    · wp_walk using it
      exact Exists.intro _ (And.intro rfl h)
  · wp_walk using it
    exact Exists.intro _ (And.intro rfl h)
theorem enum_one {prog : Program} {w : World} {A : Around} {E : Value → Shared → Prop} {s : Shared} {v : Value} {o : Obj} {G : Heap → Prop} {Q : Value → Shared → Prop} (B : Begins v o G) (hg : G s.heap)
    (h : ∀ h', IsEnum h' (s.heap.objs.size + 1) s.heap.objs.size 0 .none → h'.get? s.heap.objs.size = some o →
      (∀ b u, s.heap.get? b = some u → h'.get? b = some u) → Q (.ref (s.heap.objs.size + 1)) { s with heap := h' }) :
    wpAny (model prog w) A (call (.type "enumerate") [v]) Q E s := by
  apply callType_new F.called_enumerate (by decide) (F.typeCall_enumerate_1 _) (F.newCall_enumerate_1 _) (fun ob => F.args_object_init_2 ob _) F.entry_enumerate_new (makes_enum B)
  refine And.intro hg ?_
  have z1 : (s.heap.push o).objs.size = s.heap.objs.size + 1 := Heap.size_push ..
  show _ ∧ _
  rw [z1]
  generalize hk : (s.heap.push o).push { cls := .type "enumerate", data := .fields #[.none, .bool false, .ref s.heap.objs.size, rawInt 0, .none, .none] } = h2
  have e2 : h2.get? (s.heap.objs.size + 1) = some { cls := .type "enumerate", data := .fields #[.none, .bool false, .ref s.heap.objs.size, rawInt 0, .none, .none] } := by
    rw [← hk, ← z1]
    exact Heap.get?_push_size _ rfl
  have e1 : h2.get? s.heap.objs.size = some o := by
    rw [← hk]
    exact Heap.get?_push_of_some _ (Heap.get?_push_size _ B.free)
  refine And.intro ⟨_, e2, rfl⟩ (h h2 e2 e1 fun b u q => ?_)
  rw [← hk]
  exact Heap.get?_push_of_some _ (Heap.get?_push_of_some _ q)
end LTE
end PySem
namespace LT
open PySem PySem.Spec PyProof.Rows L2
/-- the tuple at a, each item in a new pair behind its number -/
def IteT (K : PySem.W.Frag) (a : Addr) : It where
  go := fun i H => ∃ (xs : List V) (x : V), SqT K H a xs ∧ xs[i]? = some x
  yld := fun i H v H' => ∃ T x, v = .ref T ∧ H T = none ∧ H' = upd H T (.tup [.int (i : Nat), x]) ∧ ∀ xs, SqT K H a xs → xs[i]? = some x
  stop := fun i H => ∃ xs : List V, SqT K H a xs ∧ xs.length ≤ i
theorem turn_enumT {P : Program} {w : World} {K : PySem.W.Frag} {elts : List Expr} {kk : Nat} {tpos : Pos} (a e it : Addr) (hea : e ≠ a) (hia : it ≠ a) (hne : e ≠ it) :
    Turn P w K (.Tuple elts kk tpos) (IteT K a) [e, it] e (fun i h => (∃ old, IsEnum h e it ((i : Nat) : Int) old) ∧ h.IsTupleIter it a i) where
  mem := List.mem_cons_self
  obj := by
    rintro i h ⟨⟨old, he⟩, o, ho, hc, hd⟩ b hb
    rcases List.mem_cons.mp hb with z | z
    · subst z
      exact ⟨_, he, fun v q => nomatch q⟩
    · have z' := List.mem_singleton.mp z
      subst z'
      refine ⟨o, ho, fun v q => ?_⟩
      rw [hd] at q
      cases q
  keep := by
    rintro i h h' ⟨⟨old, he⟩, hi⟩ k
    exact ⟨⟨old, k e (by simp) _ he⟩, hi.at fun o q => k it (by simp) o q⟩
  item := by
    intro X hP hw hK hc i pins s σ H E I hf st hg
    subst hP hw hK
    obtain ⟨⟨old, he⟩, hit⟩ := st
    obtain ⟨xs, x, hq, hx⟩ := hg
    obtain ⟨its, rv, tp, hz⟩ := I.tuple hq
    obtain ⟨u, hu, ru⟩ := rv.get hx
    have hi : i < its.toArray.size := by
      have := (List.getElem?_eq_some_iff.mp hu).1
      simpa using this
    have hel : e < s.heap.objs.size := Heap.lt_size he
    have hil : it < s.heap.objs.size := by
      obtain ⟨_, q, _⟩ := hit
      exact Heap.lt_size q
    have Dr : Draws X.prog X.w X.A.in1 it [it, a] its.toArray.size (fun i v => its.toArray[i]? = some v) (fun i h => h.IsTupleIter it a i ∧ h.IsTuple a its.toArray) :=
      Draws.tuple (by exact I.ok.hd hc) it a (Ne.symm hia) its.toArray
    refine wpAny_pyNext_enum_itemD Dr he ⟨hit, tp⟩ hi hne (by simp [hne, hea]) fun y h' tk hy ho hst' hT hsz hk => ?_
    have ey : y = u := by
      have : its.toArray[i]? = some u := by simpa using hu
      rw [this] at hy
      exact (Option.some.inj hy).symm
    subst ey
    refine ⟨_, rfl, ?_⟩
    refine wpAny_letOwnedTupleGo_enum (s := { s with heap := h', toks := tk + 1 }) ho fun h2 he2 sb => ?_
    have hT2 : h2.get? s.heap.objs.size = some { cls := .type "tuple", data := .seq #[.int i tk, y] } := (sb.2 _ (Nat.ne_of_gt hel)).trans hT
    have nw : ObjOk X.prog X.w (upd H s.heap.objs.size (.tup [.int (i : Nat), x])) h2 s.heap.objs.size (.tup [.int (i : Nat), x]) := by
      refine ⟨?_, [.int i tk, y], .cons ⟨_, rfl⟩ (.cons ru .nil), ⟨_, hT2, rfl, _, rfl⟩⟩
      show 2 ≤ sizeLine
      decide
    have I1 : Inv X pins σ (upd H s.heap.objs.size (.tup [.int (i : Nat), x])) { s with heap := h2, toks := tk + 1 } := by
      refine I.turnedNew (ch := [e, it]) ?_ hf (Nat.le_refl _) nw
      intro b ob hb q
      have h1 : b ≠ e := fun z => hb (by simp [z])
      have h3 : b ≠ it := fun z => hb (by simp [z])
      exact (sb.2 b h1).trans (hk b ob h1 h3 q)
    refine ⟨.ref s.heap.objs.size, _, I1, rfl, ⟨_, x, rfl, I.hok.fresh (Nat.le_refl _), rfl, ?_⟩, ⟨⟨y, ?_⟩, hst'.1.at fun o q => (sb.2 it (Ne.symm hne)).trans q⟩, ?_⟩
    · intro ys hy2
      rw [I.tuple_inj hy2 hq]
      exact hx
    · have e1 : ((i + 1 : Nat) : Int) = (i : Int) + 1 := by omega
      rw [e1]
      exact he2
    · intro b hb
      have hb2 : b < s.heap.objs.size := by
        rcases List.mem_cons.mp hb with z | z
        · rw [z]; exact hel
        · rw [List.mem_singleton.mp z]; exact hil
      rw [upd_ne (Nat.ne_of_lt hb2)]
      exact (hf b hb).1
  done := by
    intro X hP hw hK hc i pins s σ H E I hf st hg
    subst hP hw hK
    obtain ⟨⟨old, he⟩, hit⟩ := st
    obtain ⟨xs, hq, hx⟩ := hg
    obtain ⟨its, rv, tp, hz⟩ := I.tuple hq
    obtain ⟨f0, f1, f2, f3, f4, f5⟩ := hf it (by simp)
    have hl := rv.length
    have Dr2 : Draws X.prog X.w X.A.in1 it [it, a] i (fun j v => its.toArray[j]? = some v) (fun j h => j = i ∧ h.IsTupleIter it a j ∧ h.IsTuple a its.toArray) := by
      refine { live := ?_, frame := ?_, item := ?_, done := ?_ }
      · rintro j h ⟨_, ⟨o, ho, _⟩, _⟩
        exact ⟨o, ho⟩
      · rintro j h h' ⟨ej, s1, s2⟩ k
        exact ⟨ej, s1.at fun o q => k it (by simp) o q, s2.at fun o q => k a (by simp) o q⟩
      · rintro j s Q E hj ⟨ej, _⟩
        exact absurd hj (by omega)
      · rintro s Q E ⟨_, s1, s2⟩ hE
        exact wpAny_nextOf_tuple_end (by exact I.ok.hd hc) s1 s2 (by simp; omega) hE
    exact wpAny_pyNext_enum_endD Dr2 he ⟨rfl, hit, tp⟩ fun h' eb => ⟨rfl, I.turned (t' := s.toks) (fun b o hb q => eb b o hb q) f0 f1 f3 f4 f5⟩
  self := fun A i s Q E st h => let ⟨⟨_, he⟩, _⟩ := st; wpAny_pyIter_enum he h
def iEnumT (K : PySem.W.Frag) (ta : TA) : TI := fun σ H R => ta σ H fun vs H1 => ∃ a xs, vs = [.ref a] ∧ SqT K H1 a xs ∧ R (IteT K a) H1
theorem pi_enumT {X : Cx} {e : Expr} {ta : TA} {p pos tpos : Pos} {elts : List Expr} {kk : Nat} (hg : Gl X "enumerate") (hm : X.mg "enumerate" = none) (ha : PA X [e] ta)
    (hs : starEach [e] X.env = [(false, eval e X.env)] := by rfl) : PI X (.Tuple elts kk tpos) (.Call (.Name "enumerate" p) [e] [] pos) (iEnumT X.K ta) := by
  constructor
  intro pins s σ H R I h
  refine Call_ (ld_blt I hg hm boot_enumerate ?_)
  refine PyProof.Rows.callWith_type1 (thn (ha.run pos pins s σ H _ I h) ?_) hs rfl
  rintro us s1 ⟨vs, H1, I1, r1, a, xs, ex, hq, q⟩
  subst ex
  cases r1 with
  | cons r rr =>
    cases rr
    cases r
    obtain ⟨its, rv, tp, hz⟩ := I1.tuple hq
    have hal : a < s1.heap.objs.size := tp.lt
    refine PySem.LTE.enum_one (begins_tuple a its.toArray) tp fun h' he hit hk => ?_
    refine wpAny_pyIter_enum he ?_
    have I2 : Inv X pins σ H1 { s1 with heap := h' } := I1.kept (t' := s1.toks) hk
    refine ⟨s1.heap.objs.size + 1, [s1.heap.objs.size + 1, s1.heap.objs.size], _, _, H1, rfl, I2, turn_enumT a (s1.heap.objs.size + 1) s1.heap.objs.size (Nat.ne_of_gt (Nat.lt_succ_of_lt hal)) (Nat.ne_of_gt hal) (Nat.succ_ne_self _), ⟨⟨.none, he⟩, ⟨_, hit, rfl, rfl⟩⟩, ?_, q⟩
    intro b hb
    have hle : s1.heap.objs.size ≤ b := by
      rcases List.mem_cons.mp hb with z | z
      · rw [z]; exact Nat.le_add_right _ _
      · rw [List.mem_singleton.mp z]; exact Nat.le_refl _
    exact I1.fpOk hle (I1.hok.fresh hle)
/-- a for over enumerate(t) -/
theorem walk_enumT {K : PySem.W.Frag} {a : Addr} {xs : List V} : Walk (IteT K a) xs.length (fun H => H a = some (.tup xs)) (YPair (fun i => some (.int (i : Nat))) (fun i => xs[i]?)) where
  goes := fun i H hi h => ⟨xs, xs[i], SqT.of h, List.getElem?_eq_getElem hi⟩
  stops := fun H h => ⟨xs, SqT.of h, Nat.le_refl _⟩
  yields := by
    rintro i H x H' hi h ⟨T, y, e1, e2, e3, e4⟩
    exact ⟨T, _, y, e1, e2, e3, rfl, e4 xs (SqT.of h)⟩
end LT
namespace LT
open PySem PySem.Spec PyProof.Rows L2
section
variable {X : Cx}
/-- int(n) of an int -/
theorem call_intI : CallR X (.type "int") (fun xs H Q => ∃ i, xs = [V.int i] ∧ Q (.int i) H) := fun pins s σ H xs us Q I r h =>
  call_int1 pins s σ H xs us Q I r (Or.inl h)
/-- a, b, .. = a tracked tuple of n items -/
def gTupT (n : Nat) (t : TGs) : TG := fun v σ H Q => ∃ a xs, v = .ref a ∧ H a = some (.tup xs) ∧ xs.length = n ∧ t xs σ H Q
theorem pg_tT (n : Nat) {es : List Expr} {k : Nat} {t : TGs} {pos : Pos} (hc : X.calm = true) (h : PGs X es t) (hn : (assignEach es X.env).length = n := by rfl)
    (hst : (assignEach es X.env).findIdx? (·.1) = none := by rfl) : PG X (.Tuple es k pos) (gTupT n t) := by
  constructor
  rintro pins s σ H v u Q I r ⟨a, xs, e, e1, e2, q⟩
  exact (pg_tup (k := k) (pos := pos) hc h hn hst).run pins s σ H v u Q I r ⟨a, xs, e, SqT.of e1, e2, q⟩
/-- isinstance, with the written part named (so that it may stand within a comprehension) -/
theorem call_isiE (K : PySem.W.Frag) (h : X.K = K) : CallR X (.builtin "isinstance") (rIsi K) := by
  subst h
  exact call_isi
/-- xs[i] of a tracked list, of a tracked tuple -/
def rIxl : R2 := fun x y H Q => ∃ p xs i v, x = .ref p ∧ y = .int i ∧ H p = some (.lst xs) ∧ atI xs i = some v ∧ Q v H
def rIxt : R2 := fun x y H Q => ∃ p xs i v, x = .ref p ∧ y = .int i ∧ H p = some (.tup xs) ∧ atI xs i = some v ∧ Q v H
theorem ix_l : IxR X rIxl := by
  rintro value slice pins s σ H x y v u Q I rx ry ⟨p, xs, i, z, e1, e2, h, ha, q⟩ hs
  exact ix_list value slice pins s σ H x y v u Q I rx ry ⟨p, xs, i, z, e1, e2, SqL.of h, ha, q⟩ hs
theorem ix_t : IxR X rIxt := by
  rintro value slice pins s σ H x y v u Q I rx ry ⟨p, xs, i, z, e1, e2, h, ha, q⟩ hs
  exact ix_tup value slice pins s σ H x y v u Q I rx ry ⟨p, xs, i, z, e1, e2, SqT.of h, ha, q⟩ hs
theorem call_lenT : CallR X (.builtin "len") (fun xs H Q => ∃ p ys, xs = [V.ref p] ∧ H p = some (.tup ys) ∧ Q (.int ys.length) H) := by
  rintro pins s σ H xs us Q I r ⟨p, ys, e, h, q⟩
  exact call_len_seq pins s σ H xs us Q I r ⟨p, ys, e, .inr (SqT.of h), q⟩
theorem call_lenL : CallR X (.builtin "len") (fun xs H Q => ∃ p ys, xs = [V.ref p] ∧ H p = some (.lst ys) ∧ Q (.int ys.length) H) := by
  rintro pins s σ H xs us Q I r ⟨p, ys, e, h, q⟩
  exact call_len_seq pins s σ H xs us Q I r ⟨p, ys, e, .inl (SqL.of h), q⟩
/-- tuple(l) of a tracked list -/
theorem call_tupL : CallR X (.type "tuple") (fun xs H Q => ∃ p ys, xs = [V.ref p] ∧ H p = some (.lst ys) ∧ ∀ l, H l = none → Q (.ref l) (upd H l (.tup ys))) := by
  rintro pins s σ H xs us Q I r ⟨p, ys, e, h, q⟩
  exact call_tuple_of pins s σ H xs us Q I r ⟨p, ys, e, .inl ⟨SqL.of h, q⟩⟩
/-- t[a:b] of a tracked tuple -/
def rSlt : V → Option Int → Option Int → Hp → VK → Prop := fun x lo hi H Q => ∃ a xs, x = .ref a ∧ H a = some (.tup xs) ∧
  (HT.sIx xs.length 0 lo = 0 ∧ HT.sIx xs.length xs.length hi = xs.length → Q (.ref a) H) ∧ (¬ (HT.sIx xs.length 0 lo = 0 ∧ HT.sIx xs.length xs.length hi = xs.length) → ∀ p, H p = none → Q (.ref p) (upd H p (.tup (cutV xs lo hi))))
theorem sl_t : SlR X rSlt := by
  rintro pins s σ H x v vl vu lo hi sl Q I rx hs pl pu ⟨a, xs, e, h, q1, q2⟩
  exact sl_tupA pins s σ H x v vl vu lo hi sl Q I rx hs pl pu ⟨a, xs, e, SqT.of h, q1, q2⟩
end
/-! ## purses -/
def Pu (N : Nat) (H : Hp) (p : Addr) : Prop := ∃ a b c : Int, H p = some (.lst [.int a, .int b, .int c]) ∧ 0 ≤ b ∧ b < 2147483647 ∧ 0 ≤ c ∧ c ≤ N

theorem Pu.mono {N M : Nat} {H : Hp} {p : Addr} (h : Pu N H p) (le : N ≤ M) : Pu M H p := by
  obtain ⟨a, b, c, e, b0, b1, c0, c1⟩ := h
  exact ⟨a, b, c, e, b0, b1, c0, by omega⟩
theorem Pu.fx {N : Nat} {H H' : Hp} {p : Addr} {M : List Addr} (h : Pu N H p) (f : Fx M H H') (hp : p ∉ M) : Pu N H' p := by
  obtain ⟨a, b, c, e, r⟩ := h
  exact ⟨a, b, c, f.keep p _ hp e, r⟩
theorem Pu.at {N : Nat} {H : Hp} {p : Addr} (h : Pu N H p) : H p ≠ none := by
  obtain ⟨a, b, c, e, r⟩ := h
  rw [e]
  exact fun z => nomatch z
/-! ## comprehensions and loops -/
section
variable {J : It} {n : Nat} {G : Hp → Prop} {Y : Nat → Hp → V → Hp → Prop} {g : TG} {tt : TT} {te : TE} {tb : TS} {vs : List Nat} {σ : L2.St} {H1 H : Hp} {D : Addr} {Qd : Hp → Prop} {Q : VK} {wi : TI} {Dn : Ends} {M : List Addr}
def LcGo (J : It) (g : TG) (tt : TT) (te : TE) (vs : List Nat) (σ : L2.St) (H1 : Hp) (D : Addr) (Qd : Hp → Prop) : Prop :=
  ∃ W : Nat → Nat → Hp → Prop, (∃ m, W 0 m (upd H1 D (.lst []))) ∧ ∀ i m H, W i m H →
    (J.stop i H ∧ Qd H) ∨ (J.go i H ∧ ∃ Nx : Hp → Prop, (∀ H', Nx H' → ∃ m', m' < m ∧ W (i + 1) m' H') ∧ ∀ x H', J.yld i H x H' →
      g x (wipe σ vs) H' fun σ2 H2 => wipe σ2 vs = wipe σ vs ∧ tt σ2 H2 fun b H3 => if b = true then te σ2 H3 fun y H4 => ∃ acc, H4 D = some (.lst acc) ∧ acc.length < sizeLine ∧ Nx (upd H4 D (.lst (acc ++ [y]))) else Nx H3)
theorem tLc_eq : tLc wi g tt te vs σ H Q = wi σ H fun J H1 => ∀ D, H1 D = none → LcGo J g tt te vs σ H1 D (fun H => Q (.ref D) H) := rfl
def ForGo (J : It) (g : TG) (tb : TS) (Dn : Ends) (σ : L2.St) (H : Hp) : Prop :=
  ∃ W : Nat → Nat → L2.St → Hp → Prop, (∃ m, W 0 m σ H) ∧ ∀ i m σ H, W i m σ H →
    (J.stop i H ∧ Dn.nx σ H) ∨ (J.go i H ∧ ∃ N : L2.St → Hp → Prop, (∀ σ' H', N σ' H' → ∃ m', m' < m ∧ W (i + 1) m' σ' H') ∧ ∀ x H', J.yld i H x H' → g x σ H' fun σ2 H2 => tb { Dn with nx := N, ct := N, bk := Dn.nx } σ2 H2)
theorem tFor_eq : tFor wi g tb Dn σ H = wi σ H fun J H1 => ForGo J g tb Dn σ H1 := rfl
theorem Fx.putNew {H4 : Hp} {zs ws : List V} (f : Fx M H1 H4) (hD : H1 D = none) (h : H4 D = some (.lst zs)) : Fx M H1 (upd H4 D (.lst ws)) := by
  have ne : ∀ b o, H1 b = some o → b ≠ D := fun b o e => ne_of_none e hD
  constructor
  · intro b o hb e
    rw [upd_ne (ne b o e)]
    exact f.keep b o hb e
  · intro b o e
    obtain ⟨o', e1, k⟩ := f.kind b o e
    exact ⟨o', by rw [upd_ne (ne b o e)]; exact e1, k⟩
theorem small_line {k : Nat} (h : k ≤ 1000000) : k < sizeLine := Nat.lt_of_le_of_lt h (by decide)
/-- a comprehension: R tells of the turn, the heap and what was made so far -/
theorem lc_new (w : Walk J n G Y) (hn : n ≤ 1000000) (hD : H1 D = none) (hM : ∀ b, b ∈ M → H1 b ≠ none) (R : Nat → Hp → List V → Prop)
    (hR : ∀ i H H' ys, Fx M H1 H → Fx [D] H H' → R i H ys → R i H' ys) (h0 : R 0 H1 [])
    (hG : ∀ i H ys, i ≤ n → Fx M H1 H → R i H ys → G H)
    (hs : ∀ i x H H' ys (N : V → Hp → Prop) (N' : Hp → Prop), i < n → Fx M H1 H → R i H ys → Y i H x H' →
      (∀ y H4, Fx M H H4 → R (i + 1) H4 (ys ++ [y]) → N y H4) → (∀ H4, Fx M H H4 → R (i + 1) H4 ys → N' H4) →
      g x (wipe σ vs) H' fun σ2 H2 => wipe σ2 vs = wipe σ vs ∧ tt σ2 H2 fun b H3 => if b = true then te σ2 H3 N else N' H3)
    (hd : ∀ H ys, Fx M H1 H → R n H ys → H D = some (.lst ys) → Qd H) : LcGo J g tt te vs σ H1 D Qd := by
  have hDM : D ∉ M := fun z => hM D z hD
  refine lc_it w (fun i H => ∃ ys, ys.length ≤ i ∧ H D = some (.lst ys) ∧ Fx M H1 H ∧ R i H ys) ?_ ?_ ?_ ?_
  · refine ⟨[], Nat.le_refl _, upd_same, Fx.new M hD, ?_⟩
    have f : Fx [D] (upd H1 D (.lst [])) (upd H1 D (.lst [])) := Fx.refl _ _
    refine hR 0 H1 _ [] (Fx.refl _ _) ?_ h0
    exact Fx.new [D] hD
  · rintro i H hi ⟨ys, _, _, f, r⟩
    exact hG i H ys hi f r
  · rintro i x H H' hi ⟨ys, hl, hy, f, r⟩ hY
    refine hs i x H H' ys _ _ hi f r hY ?_ ?_
    · intro y H4 f4 r4
      have e4 : H4 D = some (.lst ys) := f4.keep D _ hDM hy
      refine ⟨ys, e4, small_line (by omega), ys ++ [y], ?_, upd_same, (f.trans f4).putNew hD e4, ?_⟩
      · rw [List.length_append, List.length_singleton]
        omega
      · exact hR _ H4 _ _ (f.trans f4) (Fx.put List.mem_cons_self e4) r4
    · intro H4 f4 r4
      exact ⟨ys, Nat.le_succ_of_le hl, f4.keep D _ hDM hy, f.trans f4, r4⟩
  · rintro H ⟨ys, _, hy, f, r⟩
    exact hd H ys f r hy
theorem for_go (w : Walk J n G Y) (Pv : Nat → L2.St → Hp → Prop) (h0 : Pv 0 σ H) (hG : ∀ i σ H, i ≤ n → Pv i σ H → G H)
    (hs : ∀ i x σ H H', i < n → Pv i σ H → Y i H x H' → g x σ H' fun σ2 H2 => tb { Dn with nx := Pv (i + 1), ct := Pv (i + 1), bk := Dn.nx } σ2 H2)
    (hd : ∀ σ H, Pv n σ H → Dn.nx σ H) : ForGo J g tb Dn σ H := for_it w Pv h0 hG hs hd
end
/-! ## machines -/
structure Mac where
  start : Int
  steps : List (List Int)
  answers : List Int
def macD (m : Mac) : D := .tup [.int m.start, .tup (m.steps.map intsD), intsD m.answers]
/-- a machine of a size -/
structure MacOk (m : Mac) (wd : Nat) : Prop where
  pos : 0 < m.steps.length
  few : m.steps.length ≤ 1000
  row : ∀ r, r ∈ m.steps → r.length = wd ∧ ∀ x, x ∈ r → 0 ≤ x ∧ x < (m.steps.length : Int)
  ans : m.answers.length = m.steps.length
  told : ∀ x, x ∈ m.answers → 0 ≤ x ∧ x ≤ 99
  st0 : 0 ≤ m.start
  st1 : m.start < (m.steps.length : Int)
def readM (m : Mac) (s : Int) (row : List Int) : Int := row.foldl (fun s v => (m.steps.getD s.toNat []).getD v.toNat 0) s
def ansM (m : Mac) (row : List Int) : Int := m.answers.getD (readM m m.start row).toNat 0
theorem getD_mem {α : Type} {l : List α} {i : Nat} {d : α} (h : i < l.length) : l.getD i d ∈ l := by
  rw [List.getD_eq_getElem?_getD, List.getElem?_eq_getElem h]
  exact List.getElem_mem h
theorem MacOk.step {m : Mac} {wd : Nat} (h : MacOk m wd) {s v : Int} (s0 : 0 ≤ s) (s1 : s < (m.steps.length : Int)) (v0 : 0 ≤ v) (v1 : v < (wd : Int)) :
    0 ≤ (m.steps.getD s.toNat []).getD v.toNat 0 ∧ (m.steps.getD s.toNat []).getD v.toNat 0 < (m.steps.length : Int) := by
  have hm : m.steps.getD s.toNat [] ∈ m.steps := getD_mem (by omega)
  obtain ⟨hl, hx⟩ := h.row _ hm
  exact hx _ (getD_mem (by omega))
theorem MacOk.read {m : Mac} {wd : Nat} (h : MacOk m wd) : ∀ (row : List Int) (s : Int), 0 ≤ s → s < (m.steps.length : Int) → (∀ x ∈ row, 0 ≤ x ∧ x < (wd : Int)) → 0 ≤ readM m s row ∧ readM m s row < (m.steps.length : Int)
  | [], s, s0, s1, _ => ⟨s0, s1⟩
  | v :: r, s, s0, s1, hr => by
    have hv := hr v List.mem_cons_self
    obtain ⟨t0, t1⟩ := h.step s0 s1 hv.1 hv.2
    exact h.read r _ t0 t1 fun x hx => hr x (List.mem_cons_of_mem _ hx)
theorem MacOk.answer {m : Mac} {wd : Nat} (h : MacOk m wd) {row : List Int} (hr : ∀ x ∈ row, 0 ≤ x ∧ x < (wd : Int)) : 0 ≤ ansM m row ∧ ansM m row ≤ 99 := by
  obtain ⟨t0, t1⟩ := h.read row m.start h.st0 h.st1 hr
  exact h.told _ (getD_mem (by rw [h.ans]; omega))
/-- the parts of a machine in memory -/
theorem Rp.mac {H : Hp} {v : V} {m : Mac} (h : Rp H v (macD m)) : ∃ a b c xs, v = .ref a ∧ H a = some (.tup [.int m.start, .ref b, .ref c]) ∧ H b = some (.tup xs) ∧ RpAll H xs (m.steps.map intsD) ∧ H c = some (.tup (m.answers.map V.int)) := by
  obtain ⟨a, xs, rfl, e, r⟩ := h.tup_inv
  cases r with
  | cons r1 r =>
    cases r with
    | cons r2 r =>
      cases r with
      | cons r3 r =>
        cases r
        have := r1.int_inv
        subst this
        obtain ⟨b, ys, rfl, e2, r2'⟩ := r2.tup_inv
        obtain ⟨c, rfl, e3⟩ := r3.ints_inv
        exact ⟨a, b, c, ys, rfl, e, e2, r2', e3⟩
theorem RpAll.rowAt {H : Hp} {xs : List V} {rows : List (List Int)} (r : RpAll H xs (rows.map intsD)) {i : Nat} (h : i < rows.length) : ∃ a, xs[i]? = some (.ref a) ∧ H a = some (.tup ((rows.getD i []).map V.int)) := by
  obtain ⟨v, hv, rv⟩ := r.atD (i := i) (d := intsD (rows.getD i [])) (by
    rw [List.getElem?_map, List.getElem?_eq_getElem h, List.getD_eq_getElem?_getD, List.getElem?_eq_getElem h]
    rfl)
  obtain ⟨a, rfl, e⟩ := rv.ints_inv
  exact ⟨a, hv, e⟩
theorem atI_ints {ns : List Int} {i : Int} (h0 : 0 ≤ i) (h1 : i < (ns.length : Int)) : atI (ns.map V.int) i = some (.int (ns.getD i.toNat 0)) := by
  have hi : i.toNat < ns.length := by omega
  have e : i = ((i.toNat : Nat) : Int) := by omega
  have g : (ns.map V.int)[i.toNat]? = some (.int (ns.getD i.toNat 0)) := by
    rw [List.getElem?_map, List.getD_eq_getElem?_getD, List.getElem?_eq_getElem hi]
    rfl
  have := atI_nat g
  rw [← e] at this
  exact this
theorem atI_of {xs : List V} {i : Int} {v : V} (h0 : 0 ≤ i) (h : xs[i.toNat]? = some v) : atI xs i = some v := by
  have e : i = ((i.toNat : Nat) : Int) := by omega
  have := atI_nat h
  rw [← e] at this
  exact this
theorem readM_take {m : Mac} {s : Int} {row : List Int} {i : Nat} (h : i < row.length) : readM m s (row.take (i + 1)) = (m.steps.getD (readM m s (row.take i)).toNat []).getD (row.getD i 0).toNat 0 := by
  unfold readM
  rw [List.take_add_one, List.getElem?_eq_getElem h, List.foldl_append, List.getD_eq_getElem?_getD (l := row), List.getElem?_eq_getElem h]
  rfl
/-! ## the draws of a law -/
def spMixed : Sp := fun vs H Q _ => ∃ c k : Int, vs = [.int c, .int k] ∧ 0 ≤ c ∧ c < 2147483647 ∧ 0 ≤ k ∧ k ≤ 1000000000001 ∧ ∀ r, 0 ≤ r → r < 1000000000 → Q (.int r) H
def spDraw : Sp := fun vs H Q _ => ∃ (p : Addr) (n : Int) (N : Nat), vs = [.ref p, .int n] ∧ 0 < n ∧ n < 1073741824 ∧ Pu N H p ∧ N ≤ 1000000000000 ∧
  ∀ (d : Int) (H' : Hp), 0 ≤ d → d < n → Fx [p] H H' → Pu (N + 1) H' p → Q (.int d) H'
def spPurse (K : PySem.W.Frag) : Sp := fun vs H Q _ => ∃ (a : Addr) (ns : List Int) (i : Nat), vs = [.ref a, .int i] ∧ SqL K H a (ns.map V.int) ∧ i ≤ 100 ∧
  ∀ (p : Addr) (H' : Hp), H p = none → Fx [] H H' → Pu (1000 * i) H' p → Q (.ref p) H'
/-- a row of values below wide, at most most of them -/
def spRow : Sp := fun vs H Q _ => ∃ (p : Addr) (wide : Int) (most N : Nat), vs = [.ref p, .int wide, .int most] ∧ 0 < wide ∧ wide ≤ 4 ∧ most ≤ 100 ∧ Pu N H p ∧ N ≤ 900000000000 ∧
  ∀ (v : V) (H' : Hp) (row : List Int), row.length ≤ most → (∀ x ∈ row, 0 ≤ x ∧ x < wide) → Fx [p] H H' → Pu (N + 101) H' p → Rp H' v (intsD row) → Q v H'
def spMachine : Sp := fun vs H Q _ => ∃ (p : Addr) (wide most N : Nat), vs = [.ref p, .int wide, .int most] ∧ 0 < wide ∧ wide ≤ 4 ∧ 0 < most ∧ most ≤ 30 ∧ Pu N H p ∧ N ≤ 900000000000 ∧
  ∀ (v : V) (H' : Hp) (m : Mac), MacOk m wide → m.steps.length ≤ most → Fx [p] H H' → Pu (N + 200) H' p → Rp H' v (macD m) → Q v H'
theorem lc_draws {p D : Addr} {n N : Nat} {u : Int} {H1 : Hp} {g : TG} {tt : TT} {te : TE} {vs : List Nat} {σ : L2.St} {Qd : Hp → Prop} (hn : n ≤ 1000) (u0 : 0 < u) (u1 : u < 1073741824) (pu : Pu N H1 p) (hN : N + n ≤ 1000000000000) (hD : H1 D = none)
    (hb : ∀ x H (N1 : V → Hp → Prop) (N2 : Hp → Prop), spDraw [.ref p, .int u] H N1 E0 → g x (wipe σ vs) H fun σ2 H2 => wipe σ2 vs = wipe σ vs ∧ tt σ2 H2 fun b H3 => if b = true then te σ2 H3 N1 else N2 H3)
    (hd : ∀ H (ns : List Int), ns.length = n → (∀ x ∈ ns, 0 ≤ x ∧ x < u) → Fx [p] H1 H → Pu (N + n) H p → H D = some (.lst (ns.map V.int)) → Qd H) : LcGo (Itr 0 n) g tt te vs σ H1 D Qd := by
  refine lc_new (M := [p]) walk_range (by omega) hD (by simp; exact pu.at) (fun i H ys => Pu (N + i) H p ∧ ∃ ns : List Int, ys = ns.map V.int ∧ ns.length = i ∧ ∀ x ∈ ns, 0 ≤ x ∧ x < u) ?_ ?_ ?_ ?_ ?_
  · rintro i H2 H3 ys _ f ⟨pu2, r⟩
    refine ⟨pu2.fx f ?_, r⟩
    rintro z2
    rw [List.mem_singleton] at z2
    subst z2
    exact pu.at hD
  · exact ⟨pu, [], rfl, rfl, fun x hx => nomatch hx⟩
  · intros; trivial
  · rintro i x H2 H3 ys N1 N2 hi f ⟨pu2, ns, rfl, hl, hx⟩ ⟨rfl, rfl⟩ hN1 hN2
    refine hb _ _ _ _ ⟨p, u, _, rfl, u0, u1, pu2, by omega, fun d H4 d0 d1 f4 pu4 => hN1 _ _ f4 ⟨pu4, ns ++ [d], ?_, ?_, ?_⟩⟩
    · rw [List.map_append]; rfl
    · rw [List.length_append, hl]; rfl
    · intro x hx2
      rcases List.mem_append.mp hx2 with hx2 | hx2
      · exact hx x hx2
      · rw [List.mem_singleton.mp hx2]; exact ⟨d0, d1⟩
  · rintro H2 ys f ⟨pu2, ns, rfl, hl, hx⟩ hys
    exact hd H2 ns hl hx f pu2 hys
/-! ## checks -/
def isInteger (d : D) (lo hi : Int) : Bool := match d with
  | .int i => decide (lo ≤ i) && decide (i ≤ hi)
  | _ => false
def isRow (d : D) (n : Int) : Bool := match d with
  | .tup ds => ds.all fun x => isInteger x 0 (n - 1)
  | _ => false
/-- no tuple longer than that at the first level -/
def short (d : D) : Prop := match d with
  | .tup ds => ds.length ≤ 1000000
  | _ => True
def spIsInteger : Sp := fun vs H Q _ => ∃ v d lo hi, vs = [v, .int lo, .int hi] ∧ Rp H v d ∧ Q (.bl (isInteger d lo hi)) H
def spIsSize : Sp := fun vs H Q _ => ∃ v d, vs = [v] ∧ Rp H v d ∧ Q (.bl (isInteger d 1 4)) H
def spIsRow : Sp := fun vs H Q _ => ∃ v d n, vs = [v, .int n] ∧ Rp H v d ∧ short d ∧ ∀ H', Fx [] H H' → Q (.bl (isRow d n)) H'
theorem isTy_ne {n : String} {d : D} (h : isTy n d = true) (n' : String) (hn : n = n') : isTy n' d = true := hn ▸ h
theorem isTy_int (d : D) : isTy "int" d = match d with | .int _ => true | .bl _ => true | _ => false := by
  cases d <;> rfl
theorem isTy_bool (d : D) : isTy "bool" d = match d with | .bl _ => true | _ => false := by
  cases d <;> rfl
theorem isTy_tuple (d : D) : isTy "tuple" d = match d with | .tup _ => true | _ => false := by
  cases d <;> rfl
/-- all([test(x) for x in t]) over a tuple: bools, the heap but grows -/
theorem lc_bools {K : PySem.W.Frag} {a D0 : Addr} {xs : List V} {ds : List D} {H1 : Hp} {g : TG} {tt : TT} {te : TE} {vs : List Nat} {σ : L2.St} {Qd : Hp → Prop} (f : D → Bool) (ha : H1 a = some (.tup xs)) (hr : RpAll H1 xs ds) (hn : xs.length ≤ 1000000) (hD : H1 D0 = none)
    (hb : ∀ x d H (N1 : V → Hp → Prop) (N2 : Hp → Prop), d ∈ ds → Rp H x d → (∀ H4, Fx [] H H4 → N1 (.bl (f d)) H4) → g x (wipe σ vs) H fun σ2 H2 => wipe σ2 vs = wipe σ vs ∧ tt σ2 H2 fun b H3 => if b = true then te σ2 H3 N1 else N2 H3)
    (hd : ∀ H, Fx [] H1 H → H D0 = some (.lst ((ds.map f).map V.bl)) → Qd H) : LcGo (Itt K a) g tt te vs σ H1 D0 Qd := by
  have hl := hr.len
  refine lc_new (M := []) (walk_tup (xs := xs)) hn hD (fun b z => nomatch z) (fun i H ys => ys = ((ds.take i).map f).map V.bl) ?_ ?_ ?_ ?_ ?_
  · intro i H H' ys _ _ e
    exact e
  · rfl
  · rintro i H ys _ fx _
    exact SqT.of (fx.tup ha)
  · rintro i x H H' ys N1 N2 hi fx rfl ⟨rfl, hx⟩ hN1 hN2
    obtain ⟨d, hd1, rd1⟩ := hr.at hx
    refine hb x d _ N1 N2 (List.mem_of_getElem? hd1) (fx.rp rd1) fun H4 f4 => hN1 _ _ f4 ?_
    rw [List.take_add_one, hd1, List.map_append, List.map_append]
    rfl
  · intro H ys fx e hy
    refine hd H fx ?_
    rw [hy, e, hl, List.take_length]
end LT
namespace LT
open PySem PySem.Spec PyProof.Rows L2
/-! ## own errors with one field -/
/-- what __init__ does of an error that is being made -/
def spInit (K : PySem.W.Frag) (C : Addr) (f : Str) : Sp := fun vs H Q _ => ∃ (a : Addr) (v : V), vs = [.ref a, v] ∧ H a = some (exo a C none) ∧
  ∀ dx, H dx = none → dx ≠ a → Q .non (upd (upd H dx (exd dx [(f, v)])) a (exo a C (some dx)))
structure ErrC (P : Program) (w : World) (K : PySem.W.Frag) (mg : Str → Option Value) (base : Heap) (x f : Str) (C : Addr) : Prop where
  T : OexC K C
  gl : mg x = some (.ref C)
  nf : PySem.W.findIn K (.ref C) f = some none
  xf : XfC K C
  ex : ExcC K C
  ini : ∃ fI fd, PySem.W.findIn K (.ref C) "__init__" = some (some (.ref fI)) ∧ PySem.W.typeIn K (.ref fI) = some (.type "function") ∧ FnOk P w K mg base CX0 1 fI fd ["self", f] (spInit K C f) ∧ Binds K fd ["self", f] []
theorem del_upd2 {H : Hp} {a d : Addr} {o o' : HO} {u : HO} (h : H a = none) (ne : d ≠ a) : upd (del (upd (upd H d o) a o') a) d u = upd H d u := by
  funext b
  unfold upd del
  by_cases h1 : b = d
  · simp [h1]
  · by_cases h2 : b = a
    · subst h2
      simp [h1, h]
    · simp [h1, h2]
theorem upd_upd3 {H : Hp} {a d : Addr} {o o1 o2 : HO} (ne : d ≠ a) : upd (upd (upd H a o) d o1) a o2 = upd (upd H d o1) a o2 := by
  funext b
  unfold upd
  by_cases h1 : b = a
  · simp [h1]
  · simp [h1]
section
variable {X : Cx} {x f : Str} {C : Addr} {e : Expr} {te : TE} {p pos pos2 : Pos} {j : Nat} {W : WX}
/-- raise C(e) -/
def RaiseOk (K : PySem.W.Frag) (C : Addr) (f : Str) (W : XK) (v : V) (H1 : Hp) : Prop :=
  [v].length ≤ 1000 ∧ ∀ a, H1 a = none → spInit K C f (.ref a :: ([v] ++ [])) (upd H1 a (exo a C none))
    (fun u H2 => u = .non ∧ ∃ (d : Addr) (fs : List (Str × V)), H2 a = some (exo a C (some d)) ∧ H2 d = some (exd d fs) ∧ H1 d = none ∧ W (.ref C) (some d) (upd (del H2 a) d (.xd fs))) (fun _ _ _ => False)
theorem RaiseOk.of {K : PySem.W.Frag} {W : XK} {v : V} {H1 : Hp} (h : ∀ d, H1 d = none → W (.ref C) (some d) (upd H1 d (.xd [(f, v)]))) : RaiseOk K C f W v H1 := by
  refine ⟨by show 1 ≤ 1000; decide, fun a ha => ⟨a, v, rfl, upd_same, fun dx hdx ne => ⟨rfl, dx, [(f, v)], upd_same, ?_, ?_, ?_⟩⟩⟩
  · rw [upd_ne ne, upd_same]
  · rw [upd_ne ne] at hdx
    exact hdx
  · rw [upd_ne ne] at hdx
    rw [upd_upd3 ne, del_upd2 ha ne]
    exact h dx hdx
def tRaiseC (K : PySem.W.Frag) (C : Addr) (f : Str) (W : WX) (te : TE) : TS := fun _ σ H => te σ H fun v H1 => RaiseOk K C f (fun cls d H2 => W cls d σ H2) v H1
theorem ps_raiseC (c : ErrC X.prog X.w X.K X.mg X.base x f C) (hc : X.calm = true) (hr : Room j X.A) (tk : Takes X W) (hg : Gl X x) (he : PE X e te) (hj : 2 ≤ j := by decide) (hdb : (x == ("__debug__" : Str)) = false := by decide)
    (hst : starEach [e] X.env = (false, eval e X.env) :: starEach [] X.env := by rfl) (hpl : (backTo pos (starEach [] X.env)).any (·.1) = false := by rfl) :
    PS X (.Raise (some (.Call (.Name x p) [e] [] pos)) none pos2) (tRaiseC X.K C f W te) := by
  obtain ⟨fI, fd, iC, tI, F, hb⟩ := c.ini
  have pm : PMk X (.Call (.Name x p) [e] [] pos) (tMkO C (spInit X.K C f) [] (tCons te tNil)) :=
    pmk_oex c.T iC tI F (hr.mono hj) hb .nil pass0 hg c.gl (pa_cons he pa_nil hst) hdb hst hpl
  exact ps_raise (pos := pos2) hc tk pm
end
/-! ## try: .. except C as n: y = n, the error held on -/
/-- an error at a, of the class cls, its own dict (if any) at d -/
def ExV (a : Addr) (cls : Value) (d : Option Addr) : HO := .ext fun h => ∃ (oe : Obj) (vs : Array Value), h.get? a = some oe ∧ Zc cls d oe ∧ oe.data = .fields vs
theorem exV_ok {P : Program} {w : World} {H : Hp} {h : Heap} {a : Addr} {cls : Value} {d : Option Addr} {oe : Obj} {vs : Array Value} (e : h.get? a = some oe) (z : Zc cls d oe) (g : oe.data = .fields vs) : ObjOk P w H h a (ExV a cls d) := by
  refine ⟨⟨oe, vs, e, z, g⟩, ⟨oe, e⟩, ?_⟩
  rintro h1 h2 ⟨o1, v1, e1, r⟩ k
  exact ⟨o1, v1, k o1 e1, r⟩
section
variable {X : Cx} {pins : List (Addr × Obj)} {σ : L2.St} {H : Hp} {s : Shared}
/-- an object that stands and is not told is told from now on -/
theorem Inv.told {a : Addr} {cls : Value} {d : Option Addr} {oe : Obj} {vs : Array Value} (I : Inv X (pins ++ [(a, oe)]) σ H s) (hn : X.s_0.heap.get? a = none) (hx : X.ex = []) (hpa : ∀ p, p ∈ X.pn ++ pins → p.1 ≠ a) (z : Zc cls d oe) (g : oe.data = .fields vs) : Inv X pins σ (upd H a (ExV a cls d)) s := by
  obtain ⟨e, na, nL, nF, nc⟩ := I.pin (a, oe) (List.mem_append_right _ (List.mem_append_right _ (List.mem_singleton.mpr rfl)))
  have keepS : ∀ b o, H b = some o → upd H a (ExV a cls d) b = some o := fun b o q => by
    rw [upd_ne (ne_of_none q na)]
    exact q
  have J : Inv X pins σ H s := I.unpinned
  exact {
    ok := J.ok, os := J.os, bare := J.bare
    base := {
      keep := fun b o q n hb hx => J.base.keep b o q n hb hx
      slot := fun b o q n hb hx => J.base.slot b o q n hb hx
      free := fun b o q n hx => by
        have ne : b ≠ a := fun z => by rw [z, hn] at q; cases q
        rw [upd_ne ne]
        exact J.base.free b o q n hx
      there := fun b o q hx => J.base.there b o q hx
      tups := fun b xs q => keepS _ _ (J.base.tups b xs q)
      frzs := fun b o u q => keepS _ _ (J.base.frzs b o u q)
      tbls := fun b ps q => let ⟨m, e⟩ := J.base.tbls b ps q; ⟨m, keepS _ _ e⟩ }
    loc := J.loc, cell := J.cell
    free := by rw [upd_ne (Ne.symm nL)]; exact J.free
    freeC := fun x c hc => by
      have ne : c ≠ a := fun z => by
        obtain ⟨v, hv⟩ := J.cell x c hc
        rw [z] at hv
        obtain ⟨o1, h1, h2⟩ := hv
        rw [e] at h1
        cases h1
        exact nc _ h2
      rw [upd_ne ne]
      exact J.freeC x c hc
    pin := fun p hp => by
      obtain ⟨p1, p2, p3⟩ := J.pin p hp
      refine ⟨p1, ?_, p3⟩
      rw [upd_ne (hpa p hp)]
      exact p2
    hok := by
      intro b u q
      by_cases hb : b = a
      · subst hb
        rw [upd_same] at q
        cases q
        exact exV_ok e z g
      · rw [upd_ne hb] at q
        exact (J.hok b u q).stay (fun _ _ _ r => r) (fun c r => keepS c _ r) fun c xs r => keepS c _ r
    len := J.len }
end
/-- what the clause 'except c as n: y = n' wishes of an error of the body: slot i is n's, slot k is y's -/
def wKeep (K : PySem.W.Frag) (c : Value) (i k : Nat) (Wout : WX) (D : Ends) : WX := fun cls d σ H =>
  ∃ b, PySem.W.exmOne K cls c = some b ∧ (b = true → ∀ a, H a = none → D.nx (((σ.set i (some (.ref a))).set k (some (.ref a))).set i none) (upd H a (ExV a cls d))) ∧ (b = false → Wout cls d σ H)
section
variable {X : Cx} {x n y : Str} {c : Value} {i k : Nat} {body : List Stmt} {np np2 np3 pos pos' pos3 : Pos} {tb : WX → TS} {Wout : WX}
theorem ps_try_keep (hs : X.stack = X.env :: X.outer) (hf : X.env.frame = some X.env.locals) (hN : X.N.Nodup) (hi : X.N[i]? = some n) (hln : X.env.kindOf n = some .local) (hk : X.N[k]? = some y) (hly : X.env.kindOf y = some .local) (hik : i ≠ k) (hex : X.ex = [])
    (hc : Names X x c) (tk : Takes X Wout)
    (hb : ∀ (W : WX) (pn : List (Addr × Obj)) (xe : Value → Shared → Prop), Takes (X.tr pn xe) W → PassesOwn (model X.prog X.w) X.A X.env xe → PSs (X.tr pn xe) body (tb W))
    (hdn : (n == ("__debug__" : Str)) = false := by decide) (hcn : (n == ("__classdict__" : Str)) = false := by decide)
    (hsw : ∀ l, swapsWith (.Name n np2) (some (.Name y np3)) l X.env = pure false := by intro _; rfl) :
    PS X (.Try body [.ExceptHandler (some (.Name x np)) (some n) [.Assign [.Name y np3] (.Name n np2) pos3] pos'] [] [] pos) (fun D σ H => tb (wKeep X.K c i k Wout D) D σ H) := by
  constructor
  intro pins s σ H D I h
  have ok := I.ok
  have hfr : X.A.frames = some (X.env :: X.outer) := by rw [ok.frames, hs]
  refine wpAny_Try_except ?_
  refine wpAny_mono ((hb (wKeep X.K c i k Wout D) (X.pn ++ pins) (fun e s₁ => wpAny (model X.prog X.w) X.A (noteFrame e X.env) (fun _ s₂ => wpAny (model X.prog X.w) X.A (setFlight e none) (fun _ s₃ =>
    wpAny (model X.prog X.w) X.A (handleBy e X.env [.ExceptHandler (some (.Name x np)) (some n) [.Assign [.Name y np3] (.Name n np2) pos3] pos']) (SP X pins D) X.xe s₃) X.xe s₂) X.xe s₁) (fun u s' xx => ?_) PassesOwn.looking).run [] s σ H D (I.toTry _) h) (fun f s1 hsp => ?_) (fun e s1 he => he)
  · obtain ⟨a, B, sI, pins', σ', H', cls, d, rfl, J', nb, up, sky, na, os, ag, b, hb1, hyes, hno⟩ := xx
    have J : Inv X pins σ' H' sI := J'.ofTry ok
    have stk : Sky B (X.env :: X.outer) a (Zc cls d) X.env.locals s'.heap := hs ▸ sky
    show wpAny (model X.prog X.w) X.A (noteFrame (.ref a) X.env) _ _ _
    apply Sky.land Zc.steady hfr hf stk
    intro h3 fl3 up3
    have J3 : Inv X pins σ' H' { s' with heap := h3 } := Inv.landed J nb fl3.1 (up.trans up3) os ag
    obtain ⟨oe3, vs3, he3, hz3, hd3⟩ := fl3.there
    have nfr : a ∉ frs (X.env :: X.outer) := by
      intro hm
      obtain ⟨_, o', e', hnf⟩ := fl3.2.2.1.mem hm
      rw [he3] at e'
      cases e'
      exact hnf _ hd3
    have nS : a ∉ frs X.stack := hs ▸ nfr
    have nL : a ≠ X.env.locals := by
      intro z
      apply nfr
      exact List.mem_filterMap.mpr ⟨X.env, List.mem_cons_self, by rw [hf, z]⟩
    have nF : a ∉ X.fs := by
      intro hm
      obtain ⟨e1, he1, q1⟩ := List.mem_filterMap.mp hm
      apply nfr
      exact List.mem_filterMap.mpr ⟨e1, List.mem_cons_of_mem _ he1, q1⟩
    have hnI : sI.heap.get? a = none := by
      cases q : sI.heap.get? a with
      | none => rfl
      | some o =>
        have := nb a o q nS
        rw [fl3.2.1] at this
        cases this
    have hnS : X.s_0.heap.get? a = none := by
      cases q : X.s_0.heap.get? a with
      | none => rfl
      | some o =>
        obtain ⟨o', e'⟩ := J.base.there a o q (by rw [hex]; exact fun z => nomatch z)
        rw [hnI] at e'
        cases e'
    have hpa : ∀ p, p ∈ X.pn ++ pins → p.1 ≠ a := by
      intro p hp z
      obtain ⟨p1, _⟩ := J.pin p hp
      rw [z, hnI] at p1
      cases p1
    have S3 := J3.suite he3 hd3 na nL nF
    refine wpAny_handleBy_cons (codeAny_handlers_test ?_) (by intro q; cases q)
    have LTy : PySem.W.Looks (model X.prog X.w) h3 (typeOf (.ref a)) cls := by
      intro A Q E s k q
      refine wpAny_typeOf_ref (k _ _ he3) ?_
      rw [hz3.1]
      exact q
    have LM := PySem.W.exm_one (M := model X.prog X.w) (J3.kIn) LTy hb1
    have test : ∀ {Q : Value → Shared → Prop} {E : Value → Shared → Prop}, Q c { s' with heap := h3 } → wpAny (model X.prog X.w) (X.A.mark (some (.ref a))) (eval (.Name x np) X.env) Q E { s' with heap := h3 } := by
      intro Q E q
      obtain ⟨hg, hdbg, hm⟩ := hc
      rcases hm with hm | ⟨hm, hv, hnn⟩
      · exact ld_glob (X := X.suite a ((a, oe3) :: (X.pn ++ pins))) S3 hg hm q hdbg
      · exact ld_blt (X := X.suite a ((a, oe3) :: (X.pn ++ pins))) S3 hg hm hv q hnn hdbg
    refine test (LM.here ?_)
    cases b with
    | true =>
      apply codeAny_handlers_suite_as
      apply HandSPX.lands_againZ fl3
      intro h4 fl4 up4
      have J4 : Inv X pins σ' H' { s' with heap := h4 } := Inv.landed J nb fl4.1 ((up.trans up3).trans up4) os ag
      obtain ⟨oe4, vs4, he4, hz4, hd4⟩ := fl4.there
      have S4 := J4.suite he4 hd4 na nL nF
      refine store_ok (X := X.suite a ((a, oe4) :: (X.pn ++ pins))) (v := .ref a) S4 hN hi (.inl hln) rfl ?_ (.inr hln)
      intro s5 S5
      have st : PSs (X.suite a ((a, oe4) :: (X.pn ++ pins))) [.Assign [.Name y np3] (.Name n np2) pos3] (tAsg (tVar i) (gName k)) :=
        pss_one (ps_set (i := k) hN hk (.inl hly) (pe_var hi (.inl hln) hdn hcn) (hsw _) (.inr hly))
      have len : i < σ'.length := by
        rw [J4.len]
        exact (List.getElem?_eq_some_iff.mp hi).1
      refine wpAny_mono (st.run [] s5 _ H' { nx := fun σ6 H6 => σ6 = (σ'.set i (some (.ref a))).set k (some (.ref a)) ∧ H6 = H', rt := fun _ _ => False } S5 ⟨.ref a, by rw [List.getElem?_set_self len], rfl, rfl⟩) ?_ (fun _ _ z => False.elim z)
      intro f s6 hsp
      cases f with
      | next =>
        obtain ⟨σ6, H6, S6, rfl, rfl⟩ := hsp
        obtain ⟨q1, q2, q3, q4, q5⟩ := S6.pin (a, oe4) (List.mem_append_left _ List.mem_cons_self)
        have J6 := S6.unsuite ok
        have P6 : Inv X (pins ++ [(a, oe4)]) _ H6 s6 := J6.pins_of (by
          intro p hp
          rcases List.mem_append.mp hp with hp | hp
          · exact J6.pin p (List.mem_append_right _ hp)
          · rw [List.mem_singleton.mp hp]
            exact ⟨q1, q2, nL, nF, q5⟩)
        refine gone_ok P6 hN hi hln ?_
        intro s7 J7
        exact ⟨_, _, Inv.told J7 hnS hex hpa hz4 hd4, hyes rfl a na⟩
      | brk =>
        obtain ⟨_, _, _, z⟩ := hsp
        exact z.elim
      | cont =>
        obtain ⟨_, _, _, z⟩ := hsp
        exact z.elim
      | ret u =>
        obtain ⟨_, _, _, _, _, z⟩ := hsp
        exact z.elim
    | false =>
      show wpAny _ X.A (handleBy (.ref a) X.env []) _ _ _
      apply wpAny_handleBy_nil
      obtain ⟨k1, k2, k3, oe, vs, T, oT, ts', he, hz, hd, h1, hr⟩ := id fl3
      have fin : wpAny (model X.prog X.w) X.A (setFlight (.ref a) X.env.frame) (fun _ s4 => wpAny (model X.prog X.w) X.A (throw (.ref a) : Sem Flow) (SP X pins D) X.xe s4) X.xe { s' with heap := h3 } := by
        rw [hf]
        apply HandSPX.setFlight_upZ fl3
        intro h4 hh4 up4
        apply wpAny_throw
        apply tk
        exact ⟨a, B, sI, pins, σ', H', cls, d, rfl, J, nb, (up.trans up3).trans up4, .inr (.inr (hs ▸ hh4)), na, os, ag, hno rfl⟩
      unfold PySem.passOn
      refine wpAny_bind (wpAny_field he hd h1 ?_)
      rw [if_neg (show ¬ ((Value.ref T == Value.none) = true) by simp)]
      first
        | exact wpAny_bind (wpAny_pure (wpAny_bind fin))
        | exact wpAny_bind fin
  · cases f with
    | next =>
      obtain ⟨σ1, H1, J1, q⟩ := hsp
      exact wpAny_execs_nil ⟨σ1, H1, J1.ofTry ok, q⟩
    | brk =>
      obtain ⟨σ1, H1, J1, q⟩ := hsp
      exact ⟨σ1, H1, J1.ofTry ok, q⟩
    | cont =>
      obtain ⟨σ1, H1, J1, q⟩ := hsp
      exact ⟨σ1, H1, J1.ofTry ok, q⟩
    | ret u =>
      obtain ⟨v, σ1, H1, J1, r, q⟩ := hsp
      exact ⟨v, σ1, H1, J1.ofTry ok, r, q⟩
end
end LT
namespace LT
open PySem PySem.Spec PyProof.Rows L2
/-! ## what is the same, or equal item by item -/
def EqT (K : PySem.W.Frag) (H : Hp) : Nat → V → V → Prop
  | 0 => fun _ _ => False
  | n + 1 => fun x y => (x = y ∧ (flatB x = true ∨ ∃ a, x = .ref a)) ∨ (∃ a b xs ys, x = .ref a ∧ y = .ref b ∧ SqL K H a xs ∧ SqL K H b ys ∧ Paired (EqT K H n) xs ys) ∨
      (∃ a b xs ys, x = .ref a ∧ y = .ref b ∧ SqT K H a xs ∧ SqT K H b ys ∧ Paired (EqT K H n) xs ys)
theorem EqT.refl {K : PySem.W.Frag} {H : Hp} {n : Nat} (x : V) (h : flatB x = true ∨ ∃ a, x = .ref a) : EqT K H (n + 1) x x := .inl ⟨rfl, h⟩
theorem paired_refl {K : PySem.W.Frag} {H : Hp} {n : Nat} : ∀ {xs : List V}, (∀ x ∈ xs, flatB x = true ∨ ∃ a, x = .ref a) → Paired (EqT K H (n + 1)) xs xs
  | [], _ => .nil
  | x :: xs, h => .cons (EqT.refl x (h x List.mem_cons_self)) (paired_refl fun y hy => h y (List.mem_cons_of_mem _ hy))
theorem all_range {n : Nat} : ((List.range n).all fun _ => true) = true := List.all_eq_true.mpr fun _ _ => rfl
theorem eqItems {A : Around} {s : Shared} {F : V → V → Prop} (ih : ∀ x y v u, F x y → RelV x v → RelV y u → SeqAt.EqAt A s v u true) : ∀ {xs ys : List V}, Paired F xs ys → ∀ {us ws : List Value}, Vals xs us → Vals ys ws →
    ∀ j (h1 : j < us.length) (h2 : j < ws.length), SeqAt.EqAt A s us[j] ws[j] true
  | _, _, .nil, _, _, .nil, .nil, j, h1, _ => absurd h1 (Nat.not_lt_zero j)
  | _, _, .cons f _, _, _, .cons a _, .cons b _, 0, _, _ => ih _ _ _ _ f a b
  | _, _, .cons _ k, _, _, .cons _ r, .cons _ q, j + 1, h1, h2 => eqItems ih k r q j (Nat.lt_of_succ_lt_succ h1) (Nat.lt_of_succ_lt_succ h2)
section
variable {X : Cx} {pins : List (Addr × Obj)} {σ : L2.St} {H : Hp} {s : Shared}
theorem eqT_run (I : Inv X pins σ H s) : ∀ (n : Nat) (A : Around), A.units + n < cLine → ∀ (x y : V) (v u : Value), EqT X.K H n x y → RelV x v → RelV y u → SeqAt.EqAt A s v u true
  | 0, _, _, _, _, _, _, h, _, _ => (show False from h).elim
  | n + 1, A, hu, x, y, v, u, h, rx, ry => by
    have ih := eqT_run I n A.in1 (by show A.units + 1 + n < cLine; omega)
    rcases h with ⟨rfl, f⟩ | ⟨a, b, xs, ys, rfl, rfl, ha, hb, hp⟩ | ⟨a, b, xs, ys, rfl, rfl, ha, hb, hp⟩
    · rcases f with f | ⟨a, rfl⟩
      · exact eqAt_same rx ry f
      · cases (show v = Value.ref a from rx)
        cases (show u = Value.ref a from ry)
        exact SeqAt.EqAt.same _
    · cases (show v = Value.ref a from rx)
      cases (show u = Value.ref b from ry)
      by_cases e : a = b
      · subst e
        exact SeqAt.EqAt.same _
      obtain ⟨us, r1, p1, _⟩ := I.list ha
      obtain ⟨ws, r2, p2, _⟩ := I.list hb
      have hsz : us.toArray.size = ws.toArray.size := by
        rw [List.size_toArray, List.size_toArray, ← r1.length, ← r2.length]
        exact Paired.length hp
      have k := SeqAt.RcAt.lists (A := A) (e := fun _ => true) p1.isList p2.isList hsz (by omega) fun j h1 h2 => by
        have k := eqItems ih hp r1 r2 j (by simpa using h1) (by simpa using h2)
        simpa using k
      rw [all_range] at k
      exact SeqAt.EqAt.of_refs e k
    · cases (show v = Value.ref a from rx)
      cases (show u = Value.ref b from ry)
      by_cases e : a = b
      · subst e
        exact SeqAt.EqAt.same _
      obtain ⟨us, r1, p1, _⟩ := I.tuple ha
      obtain ⟨ws, r2, p2, _⟩ := I.tuple hb
      have hsz : us.toArray.size = ws.toArray.size := by
        rw [List.size_toArray, List.size_toArray, ← r1.length, ← r2.length]
        exact Paired.length hp
      have k := SeqAt.RcAt.tuples (A := A) (e := fun _ => true) p1 p2 (by omega) fun j h1 h2 => by
        have k := eqItems ih hp r1 r2 j (by simpa using h1) (by simpa using h2)
        simpa using k
      rw [all_range, hsz] at k
      simp only [Bool.true_and, beq_self_eq_true] at k
      exact SeqAt.EqAt.of_refs e k
/-- two lists, equal item by item: != is False, == is True -/
def rLsT (K : PySem.W.Frag) (b : Bool) : R2 := fun x y H Q => ∃ p q xs ys n, x = .ref p ∧ y = .ref q ∧ SqL K H p xs ∧ SqL K H q ys ∧ n ≤ 60 ∧ Paired (EqT K H n) xs ys ∧ Q (.bl b) H
theorem op_neT (hu : X.A.units + 64 < cLine) : OpR X (compareOp .NotEq) (rLsT X.K false) := by
  rintro pins s σ H x y v u Q I rx ry ⟨p, q, xs, ys, n, rfl, rfl, ha, hb, hn, hp, hQ⟩
  cases (show v = Value.ref p from rx)
  cases (show u = Value.ref q from ry)
  obtain ⟨us, r1, p1, _⟩ := I.list ha
  obtain ⟨ws, r2, p2, _⟩ := I.list hb
  have hsz : us.toArray.size = ws.toArray.size := by
    rw [List.size_toArray, List.size_toArray, ← r1.length, ← r2.length]
    exact Paired.length hp
  have ih := eqT_run I n X.A.in1 (by show X.A.units + 1 + n < cLine; omega)
  have k := SeqAt.RcNeAt.lists (A := X.A) (e := fun _ => true) p1.isList p2.isList hsz (by omega) fun j h1 h2 => by
    have k := eqItems ih hp r1 r2 j (by simpa using h1) (by simpa using h2)
    simpa using k
  rw [all_range] at k
  exact k _ _ _ _ ⟨.bl false, H, I, rfl, hQ⟩
theorem op_eqT (hu : X.A.units + 64 < cLine) : OpR X (compareOp .Eq) (rLsT X.K true) := by
  rintro pins s σ H x y v u Q I rx ry ⟨p, q, xs, ys, n, rfl, rfl, ha, hb, hn, hp, hQ⟩
  cases (show v = Value.ref p from rx)
  cases (show u = Value.ref q from ry)
  obtain ⟨us, r1, p1, _⟩ := I.list ha
  obtain ⟨ws, r2, p2, _⟩ := I.list hb
  have hsz : us.toArray.size = ws.toArray.size := by
    rw [List.size_toArray, List.size_toArray, ← r1.length, ← r2.length]
    exact Paired.length hp
  have ih := eqT_run I n X.A.in1 (by show X.A.units + 1 + n < cLine; omega)
  have k := SeqAt.RcAt.lists (A := X.A) (e := fun _ => true) p1.isList p2.isList hsz (by omega) fun j h1 h2 => by
    have k := eqItems ih hp r1 r2 j (by simpa using h1) (by simpa using h2)
    simpa using k
  rw [all_range] at k
  exact k _ _ _ _ ⟨.bl true, H, I, rfl, hQ⟩
end
/-! ## errors as values -/
/-- an error of the class at C (made here, or caught), its own dict holding f (where it has one) -/
inductive IsEx (H : Hp) (C : Addr) : Addr → List (Str × V) → Prop
  | made {a dx : Addr} {fs : List (Str × V)} : H a = some (exo a C (some dx)) → H dx = some (exd dx fs) → IsEx H C a fs
  | bare {a : Addr} : H a = some (exo a C none) → IsEx H C a []
  | kept {a dx : Addr} {fs : List (Str × V)} : H a = some (ExV a (.ref C) (some dx)) → H dx = some (.xd fs) → IsEx H C a fs
  | kept0 {a : Addr} : H a = some (ExV a (.ref C) none) → IsEx H C a []
theorem Fx.isEx {H H1 : Hp} {C a : Addr} {fs : List (Str × V)} (h : Fx [] H H1) (e : IsEx H C a fs) : IsEx H1 C a fs := by
  cases e with
  | made e1 e2 => exact .made (h.all e1) (h.all e2)
  | bare e1 => exact .bare (h.all e1)
  | kept e1 e2 => exact .kept (h.all e1) (h.all e2)
  | kept0 e1 => exact .kept0 (h.all e1)
section
variable {X : Cx} {pins : List (Addr × Obj)} {σ : L2.St} {H : Hp} {s : Shared} {C a : Addr} {fs : List (Str × V)}
theorem notCls_fields {oe : Obj} {vs : Array Value} (h : oe.data = .fields vs) : PySem.W.notCls oe = true := by
  unfold PySem.W.notCls
  rw [h]
/-- the object and its dict in the heap -/
theorem IsEx.inst (e : IsEx H C a fs) (I : Inv X pins σ H s) : ∃ oe od, PySem.W.InstAt s.heap a oe C od ∧ (od = none ∧ fs = [] ∨ ∃ o, od = some o ∧ ∃ mA : Str → Option Value, (∀ f, RelO (fs.lookup f) (mA f)) ∧ ∀ name, PySem.W.lookIn name o = some (mA name)) := by
  cases e with
  | made e1 e2 =>
    obtain ⟨t1, h1⟩ := exo_at I.hok e1
    obtain ⟨mA, hns, rel⟩ := exd_at I.hok e2
    obtain ⟨od, ho, hl⟩ := lookIn_ns hns
    exact ⟨_, some od, ⟨h1, rfl, notCls_fields rfl, ho⟩, .inr ⟨od, rfl, mA, rel, hl⟩⟩
  | bare e1 =>
    obtain ⟨t1, h1⟩ := exo_at I.hok e1
    exact ⟨_, none, ⟨h1, rfl, notCls_fields rfl, trivial⟩, .inl ⟨rfl, rfl⟩⟩
  | kept e1 e2 =>
    obtain ⟨⟨oe, vs, h1, z, g⟩, _⟩ := I.hok a _ e1
    have hx : ObjOk X.prog X.w H s.heap _ (.xd fs) := I.hok _ _ e2
    obtain ⟨mA, hns, rel⟩ := hx
    obtain ⟨od, ho, hl⟩ := lookIn_ns hns
    refine ⟨oe, some od, ⟨h1, z.1, notCls_fields g, ?_⟩, .inr ⟨od, rfl, mA, rel, hl⟩⟩
    rw [z.2]
    exact ho
  | kept0 e1 =>
    obtain ⟨⟨oe, vs, h1, z, g⟩, _⟩ := I.hok a _ e1
    refine ⟨oe, none, ⟨h1, z.1, notCls_fields g, ?_⟩, .inl ⟨rfl, rfl⟩⟩
    rw [z.2]
    trivial
/-- e.f -/
def tExf (K : PySem.W.Frag) (f : Str) (te : TE) : TE := fun σ H Q => te σ H fun x H1 => ∃ C a fs v, x = .ref a ∧ IsEx H1 C a fs ∧ fs.lookup f = some v ∧ XfC K C ∧ PySem.W.findIn K (.ref C) f = some none ∧ Q v H1
theorem pe_exf {e : Expr} {te : TE} {pos : Pos} {n : Str} (he : PE X e te) (hb : attributeBase e n X.env (eval e X.env) = eval e X.env := by rfl) : PE X (.Attribute e n pos) (tExf X.K n te) := by
  constructor
  intro pins s σ H Q I h
  refine attr_of hb (thn (he.run pins s σ H _ I h) ?_)
  rintro u s1 ⟨x, H1, I1, rx, C, a, fs, v, rfl, ie, l, T, hno, q⟩
  cases (show u = Value.ref a from rx)
  obtain ⟨oe, od, J, r⟩ := ie.inst I1
  rcases r with ⟨_, rfl⟩ | ⟨o, rfl, mA, rel, hl⟩
  · cases l
  · obtain ⟨u, hu, ru⟩ := RelO.some_of (v := v) (o := mA n) (by rw [← l]; exact rel n)
    exact HandSPX.exc_get I1.kIn J T.ga T.gg T.exC (PySem.W.findObj_own T.hdC hno rfl (by rw [hl, hu])) (handed_of ru) ⟨v, H1, I1.tok _, ru, q⟩
/-- isinstance(e, c) of an error, of None, or of data -/
inductive TyE (K : PySem.W.Frag) (H : Hp) : V → Value → Prop
  | dat {x : V} {t : Value} : TyX K H x t → TyE K H x t
  | exc {C a : Addr} {fs : List (Str × V)} : IsEx H C a fs → ExcC K C → TyE K H (.ref a) (.ref C)
def rIsE (K : PySem.W.Frag) : List V → Hp → VK → Prop := fun xs H Q => ∃ (x c : V) (t u : Value) (b : Bool), xs = [x, c] ∧ ClsV c u ∧ TyE K H x t ∧ PySem.W.kitOne K t u = some b ∧ Q (.bl b) H
theorem call_isV (K : PySem.W.Frag) (h : X.K = K) : CallR X (.builtin "isinstance") (rIsE K) := by
  subst h
  rintro pins s σ H xs us Q I r ⟨x, c, t, u, b, rfl, k, ty, e, q⟩
  cases ty with
  | dat ty => exact call_isi pins s σ H [x, c] us Q I r ⟨x, c, t, u, b, rfl, k, ty, e, q⟩
  | @exc C a fs ie ec =>
    obtain ⟨u1, u2, rfl, r1, r2⟩ := vals2 r
    have e2 := k.eq r2
    subst e2
    cases (show u1 = Value.ref a from r1)
    obtain ⟨oe, od, J, _⟩ := ie.inst I
    refine PySem.W.kia_one (PySem.W.kitx_exc ?_ ec.hg ec.hk ec.hs ec.ha ec.hn ec.ht ec.hm) I.kIn J e (fun z => nomatch z) fun tk => ⟨.bl b, H, I.tok tk, rfl, q⟩
    obtain ⟨cd, hc, _⟩ := PySem.W.any_some ec.hd
    rw [hc]
    rfl
end
end LT
/-! an own error made by keywords -/
namespace PySem
namespace LTK
open Builtin Builtin.ObjectAttr HandSPX
section
variable {M : Model} {A : Around} {E : Value → Shared → Prop} {h : Heap} {g : Array GenState} {d : Drawn} {t : Nat} {os : OsState}
variable {nm q : Str} {C N : Addr} {bs bm bmB : List Value} {hdct : Bool} {sn : List Str} {sub : List Value} {ab : Bool} {col : Option Bool} {dd : Option Addr} {k0 k1 k2 k3 k5 : Option Value} {B newId initId : String}
theorem check_new_kw (F : ExcBaseFacts B newId initId bmB) (hT : ∀ X : String, bm.contains (.type X) = bmB.contains (.type X)) {rest : List Value} {f : Str} {v : Value} {Q : Unit → Shared → Prop}
    (hC : h.get? C = some (excClassObj nm q C N bs bm hdct sn sub ab col dd k0 k1 k2 k3 k5 newId)) (hq : Q () ⟨h, g, d, t, os⟩) :
    wpAny M A (checkBuiltinCall newId ⟨.ref C :: rest, [(f, v)]⟩) Q E ⟨h, g, d, t, os⟩ := by
  have hcont : (Value.ref C :: bm).contains (.type B) = true := by
    rw [List.contains_cons, hT, F.hasB]
    exact Bool.or_true _
  have hs := F.noStar
  simp only [checkBuiltinCall, F.newKind, F.newSplit, F.newRow]
  repeat (first | refine wpAny_loadPart_at hC ?_ | (refine wpAny_isSubtype_exc hC ?_; rw [hcont]) | refine wpAny_staticBase_exc hC ?_ | refine wpAny_madeBy_exc hC ?_ | simp only [bne_self_eq_false, Bool.false_eq_true, if_false] | wp_step)
  exact hq
end
section
variable {prog : Program} {w : World} {A : Around} {E : Value → Shared → Prop} {R : Result → Shared → Prop} {h : Heap} {g : Array GenState} {d : Drawn} {t : Nat} {os : OsState}
variable {nm q : Str} {C N : Addr} {bs bm bmB : List Value} {hdct : Bool} {sn : List Str} {sub : List Value} {ab : Bool} {col : Option Bool} {dd : Option Addr} {k0 k1 k2 k3 k5 : Option Value} {B newId initId : String}
theorem new_kw (F : ExcBaseFacts B newId initId bmB) (hT : ∀ X : String, bm.contains (.type X) = bmB.contains (.type X)) {rest : List Value} {f : Str} {v : Value}
    (hC : h.get? C = some (excClassObj nm q C N bs bm hdct sn sub ab col dd k0 k1 k2 k3 k5 newId))
    (hq : R (.ok (.ret (.ref (h.objs.size + 1)))) ⟨(h.push { cls := .type "tuple", data := .seq rest.toArray }).push { cls := .ref C, data := .fields #[.ref h.objs.size, .none, .none, .none, .bool false, .none] }, g, d, t, os⟩)
    (hrest : rest.length ≤ sizeLine) : codeAny (model prog w) A (.builtin newId ⟨.ref C :: rest, [(f, v)]⟩) R ⟨h, g, d, t, os⟩ := by
  have he := F.ends
  have c1 : (Value.ref C :: bm).contains (.type B) = true := by
    rw [List.contains_cons, hT, F.hasB]
    exact Bool.or_true _
  have c2 : (Value.ref C :: bm).contains (.type "AttributeError") = false := by
    rw [List.contains_cons, hT, F.noAttr]
    rfl
  have c3 : (Value.ref C :: bm).contains (.type "NameError") = false := by
    rw [List.contains_cons, hT, F.noName]
    rfl
  apply codeAny_builtinAt F.entry
  unfold Builtin.«BaseException.__new__»
  apply wpAt_bind
  show wpAt _ _ _ (stack >>= _) _ _ _
  refine wpAt_bind (wpAt_stack fun p below => ?_)
  apply wpAt_of_wpAny
  wp_walk
  apply wpAt_of_wpAny
  rw [F.owner]
  repeat (first | with_reducible refine wpAny_madeHere_exc F.canon hC ?_ | with_reducible refine wpAny_loadPart_at hC ?_ | (with_reducible refine wpAny_isSubtype_exc hC ?_; first | rw [c1] | rw [c2] | rw [c3]) | wp_step)
  show R _ _
  rw [Heap.size_push]
  exact hq
theorem type_call_kw (F : ExcBaseFacts B newId initId bmB) (hT : ∀ X : String, bm.contains (.type X) = bmB.contains (.type X)) {rest : List Value} {f : Str} {v : Value} {fI : Addr} {Q : Fin → Shared → Prop}
    (hC : h.get? C = some (excClassObj nm q C N bs bm hdct sn sub ab col dd k0 k1 k2 k3 k5 newId))
    (hi : W.Looks (model prog w) h (typeLookup (.ref C) "__init__") (some (.ref fI))) (hb : ∀ self, W.Looks (model prog w) h (bindSpecial (.ref fI) self) (.ref fI, [self])) (hrest : rest.length ≤ sizeLine)
    (hq : codeAny (model prog w) A (.call (.ref fI) ⟨.ref (h.objs.size + 1) :: rest, [(f, v)]⟩)
      (fun r s' => match r with | .ok (.ret v) => v = .none ∧ Q (.done (.ret (.ref (h.objs.size + 1)))) s' | .ok _ => False | .error e => E e s') ⟨(h.push (W.kdv_tup rest)).push (excO C h.objs.size), g, d, t, os⟩) :
    wpAny (model prog w) A (Builtin.«type.__call__» ⟨.ref C :: rest, [(f, v)]⟩) Q E ⟨h, g, d, t, os⟩ := by
  repeat (first | with_reducible refine wpAny_loadPart_at hC ?_ | with_reducible refine wpAny_madeBy_exc hC ?_ | wp_step)
  apply codeAny_call_builtin_code (Code.quiet_builtin _ F.quiet) (check_new_kw F hT hC _)
  apply new_kw F hT hC _ hrest
  show wpAny _ _ _ _ _ _
  have k : ∀ b o, h.get? b = some o → ((h.push (W.kdv_tup rest)).push (excO C h.objs.size)).get? b = some o := by
    intro b o e
    exact Heap.get?_push_of_some _ (Heap.get?_push_of_some _ e)
  have hC1 := k _ _ hC
  have hget : ((h.push (W.kdv_tup rest)).push (excO C h.objs.size)).get? (h.objs.size + 1) = some (excO C h.objs.size) := by
    heap_get
  have hcC : (Value.ref C :: bm).contains (.ref C) = true := by
    simp
  have i1 := hi.keeps k
  have b1 := (hb (.ref (h.objs.size + 1))).keeps k
  unfold isInstance
  repeat (first | with_reducible refine wpAny_loadPart_at hget ?_ | (with_reducible refine wpAny_isSubtype_exc hC1 ?_; rw [hcC]) | wp_step)
  show wpAny _ _ (typeLookup (.ref C) _) _ _ _
  apply i1.at
  refine wpAny_holding (wpAny_bind (b1.at ?_))
  apply wpAny_bind
  refine wpAny_call (codeAny_mono hq ?_)
  intro r s' z
  rcases r with e | (v | _ | _ | _) <;> first | exact z | exact z.elim | skip
  obtain ⟨rfl, z⟩ := z
  first
    | exact wpAny_pure (wpAny_pure z)
    | (wp_walk; exact z)
theorem call_kw (F : ExcBaseFacts B newId initId bmB) (hT : ∀ X : String, bm.contains (.type X) = bmB.contains (.type X)) {rest : List Value} {f : Str} {v : Value} {fI : Addr}
    (hC : h.get? C = some (excClassObj nm q C N bs bm hdct sn sub ab col dd k0 k1 k2 k3 k5 newId))
    (hi : W.Looks (model prog w) h (typeLookup (.ref C) "__init__") (some (.ref fI))) (hb : ∀ self, W.Looks (model prog w) h (bindSpecial (.ref fI) self) (.ref fI, [self])) (hrest : rest.length ≤ sizeLine)
    (hq : codeAny (model prog w) (A.under (.builtin "type.__call__" ⟨.ref C :: rest, [(f, v)]⟩)) (.call (.ref fI) ⟨.ref (h.objs.size + 1) :: rest, [(f, v)]⟩) (W.InitBack (h.objs.size + 1) R) ⟨(h.push (W.kdv_tup rest)).push (excO C h.objs.size), g, d, t, os⟩) :
    codeAny (model prog w) A (.call (.ref C) ⟨rest, [(f, v)]⟩) R ⟨h, g, d, t, os⟩ := by
  have l1 := tc_lookup
  have l2 := tc_bind (.ref C)
  have hTy : (⟨h, g, d, t, os⟩ : Shared).TypeIs (.ref C) "type" := ⟨_, hC, rfl⟩
  apply codeAny_of_tree
  show wpAny _ _ (callAny (.ref C) _) _ _ _
  repeat (any_goals (first | assumption | with_reducible refine wpAny_loadPart_at hC ?_ | wp_step))
  refine ⟨rfl, ?_⟩
  refine codeAny_call_builtin_at (Code.quiet_builtin _ (by decide +kernel)) entry_typeCall (wpAny_check_type_call_sub hC (type_call_kw F hT hC hi hb hrest ?_))
  refine codeAny_mono hq ?_
  intro r s' z
  rcases r with e | (v | _ | _ | _) <;> exact z
end
end LTK
end PySem
namespace LT
open PySem PySem.Spec PyProof.Rows L2
/-! ## own errors made as values -/
/-- an own error class with one field, None where it is left out -/
structure ErrV (P : Program) (w : World) (K : PySem.W.Frag) (mg : Str → Option Value) (base : Heap) (x f : Str) (C : Addr) : Prop where
  T : OexC K C
  gl : mg x = some (.ref C)
  nf : PySem.W.findIn K (.ref C) f = some none
  xf : XfC K C
  ex : ExcC K C
  ini : ∃ fI fd, PySem.W.findIn K (.ref C) "__init__" = some (some (.ref fI)) ∧ PySem.W.typeIn K (.ref fI) = some (.type "function") ∧ FnOk P w K mg base CX0 1 fI fd ["self", f] (spInit K C f) ∧
    (∀ (s : Shared) (e u : Value), K.In s.heap → BindsTo s fd ⟨[e, u], []⟩ [("self", e), (f, u)]) ∧ (∀ (s : Shared) (e : Value), K.In s.heap → BindsTo s fd ⟨[e], []⟩ [("self", e), (f, .none)]) ∧
    (∀ (s : Shared) (e u : Value), K.In s.heap → BindsTo s fd ⟨[e], [(f, u)]⟩ [("self", e), (f, u)])
theorem ErrV.errC {P : Program} {w : World} {K : PySem.W.Frag} {mg : Str → Option Value} {base : Heap} {x f : Str} {C : Addr} (c : ErrV P w K mg base x f C) : ErrC P w K mg base x f C := by
  obtain ⟨fI, fd, iC, tI, F, b1, _⟩ := c.ini
  refine ⟨c.T, c.gl, c.nf, c.xf, c.ex, fI, fd, iC, tI, F, fun s us X hl => ?_⟩
  match us, hl with
  | [e, u], _ => exact b1 s e u X
/-- the error made, its dict at dx -/
def mkH (C a dx : Addr) (f : Str) (v : V) (H : Hp) : Hp := upd (upd H dx (exd dx [(f, v)])) a (exo a C (some dx))
def mkQ (C : Addr) (f : Str) (v : V) (H : Hp) (Q : VK) : Prop := ∀ a dx, H a = none → H dx = none → dx ≠ a → Q (.ref a) (mkH C a dx f v H)
section
variable {X : Cx} {pins : List (Addr × Obj)} {σ : L2.St} {H : Hp} {x f : Str} {C : Addr} {e : Expr} {te : TE} {p pos : Pos} {j : Nat} {hp : Heap} {g : Array GenState} {dr : Drawn} {tk : Nat} {os : OsState}
theorem mk_run {us : List Value} {kw : List (Str × Value)} {v : V} {u : Value} {Q : VK} (T : OexC X.K C) (hus : us.length ≤ 1) (hkw : kw = [] ∨ ∃ u0, kw = [(f, u0)]) {fI : Addr} {fd : FuncData} (iC : PySem.W.findIn X.K (.ref C) "__init__" = some (some (.ref fI)))
    (tI : PySem.W.typeIn X.K (.ref fI) = some (.type "function")) (F1 : FnOk X.prog X.w X.K X.mg X.base CX0 1 fI fd ["self", f] (spInit X.K C f)) (hr : Room 2 X.A) (I1 : Inv X pins σ H ⟨hp, g, dr, tk, os⟩)
    (hb : ∀ (s : Shared) (e : Value), X.K.In s.heap → BindsTo s fd ⟨e :: us, kw⟩ [("self", e), (f, u)]) (r : RelV v u) (q : mkQ C f v H Q) :
    wpAny (model X.prog X.w) X.A (call (.ref C) us kw) (EP X pins σ Q) X.xe ⟨hp, g, dr, tk, os⟩ := by
  obtain ⟨nm, qn, N, bs, bm, sn, sub, ab, col, dd, k0, k1, k2, k3, k5, hC, hbm⟩ := T.cls
  have hsz : hp.objs.size ≤ hp.objs.size + 1 := Nat.le_succ _
  have hn : H (hp.objs.size + 1) = none := I1.hok.fresh hsz
  have kk : ∀ b o, hp.get? b = some o → ((hp.push (PySem.W.kdv_tup us)).push (PySem.HandSPX.excO C hp.objs.size)).get? b = some o := fun b o e => Heap.get?_push_of_some _ (Heap.get?_push_of_some _ e)
  have hget : ((hp.push (PySem.W.kdv_tup us)).push (PySem.HandSPX.excO C hp.objs.size)).get? (hp.objs.size + 1) = some (PySem.HandSPX.excO C hp.objs.size) := by heap_get
  have I2 : Inv X pins σ (upd H (hp.objs.size + 1) (exo (hp.objs.size + 1) C none)) ⟨(hp.push (PySem.W.kdv_tup us)).push (PySem.HandSPX.excO C hp.objs.size), g, dr, tk, os⟩ :=
    I1.laid (t' := tk) (a := hp.objs.size + 1) (o := exo (hp.objs.size + 1) C none) (h' := (hp.push (PySem.W.kdv_tup us)).push (PySem.HandSPX.excO C hp.objs.size)) kk hsz (exo_ok hget)
  have hus' : us.length ≤ sizeLine := by
    rw [sizeLine_eq]
    omega
  have sp : spInit X.K C f [V.ref (hp.objs.size + 1), v] (upd H (hp.objs.size + 1) (exo (hp.objs.size + 1) C none)) (fun z H2 => z = .non ∧ Q (.ref (hp.objs.size + 1)) H2) (fun _ _ _ => False) := by
    refine ⟨_, v, rfl, upd_same, fun dx hdx ne => ⟨rfl, ?_⟩⟩
    rw [upd_ne ne] at hdx
    rw [upd_upd3 ne]
    exact q _ dx hn hdx ne
  have core : codeAny (model X.prog X.w) (X.A.under (.builtin "type.__call__" ⟨.ref C :: us, kw⟩)) (.call (.ref fI) ⟨.ref (hp.objs.size + 1) :: us, kw⟩)
      (PySem.W.InitBack (hp.objs.size + 1) fun r s' => match r with | .ok (.ret v) => EP X pins σ Q v s' | .ok _ => False | .error e => X.xe e s') ⟨(hp.push (PySem.W.kdv_tup us)).push (PySem.HandSPX.excO C hp.objs.size), g, dr, tk, os⟩ := by
    refine codeAny_mono (F1.run _ X.stack _ _ ⟨Value.ref (hp.objs.size + 1) :: us, kw⟩ [.ref (hp.objs.size + 1), u] _ _ (fun _ _ _ => False) (hr.make C us kw) (I2.env0.make C us kw) (hb _ (Value.ref (hp.objs.size + 1)) I2.kIn) (Paired.cons (show RelV (V.ref (hp.objs.size + 1)) (Value.ref (hp.objs.size + 1)) from rfl) (.cons r .nil)) sp) fun r s' hq' => ?_
    cases r with
    | error er => exact hq'.elim
    | ok fl =>
      cases fl with
      | ret u =>
        obtain ⟨z, H2, J, rv, ev, q2⟩ := I2.after hq'
        subst ev
        cases rv
        exact ⟨rfl, .ref (hp.objs.size + 1), H2, J, rfl, q2⟩
      | next => exact hq'.elim
      | brk => exact hq'.elim
      | cont => exact hq'.elim
  rcases hkw with rfl | ⟨u0, rfl⟩
  · exact wpAny_call (PySem.HandSPX.call_own F.excBase_ValueError (fun Y => PySem.HandSPX.refsVE_contains Y bm hbm) (I1.kIn _ _ hC) (PySem.W.looks_findIn I1.kIn iC) (fun self => PySem.W.bind_fn I1.kIn self tI) hus' core)
  · exact wpAny_call (PySem.LTK.call_kw F.excBase_ValueError (fun Y => PySem.HandSPX.refsVE_contains Y bm hbm) (I1.kIn _ _ hC) (PySem.W.looks_findIn I1.kIn iC) (fun self => PySem.W.bind_fn I1.kIn self tI) hus' core)
def tMkP (C : Addr) (f : Str) (te : TE) : TE := fun σ H Q => te σ H fun v H1 => mkQ C f v H1 Q
def tMk0 (C : Addr) (f : Str) : TE := fun σ H Q => mkQ C f .non H Q
def tMkK (C : Addr) (f : Str) (tk : TA) : TE := fun σ H Q => tk σ H fun zs H1 => ∃ v, zs = [v] ∧ mkQ C f v H1 Q
/-- C(e) -/
theorem pe_mkP (c : ErrV X.prog X.w X.K X.mg X.base x f C) (hr : Room j X.A) (hg : Gl X x) (he : PE X e te) (hj : 2 ≤ j := by decide) (hdb : (x == ("__debug__" : Str)) = false := by decide)
    (hst : starEach [e] X.env = (false, eval e X.env) :: starEach [] X.env := by rfl) (hpl : (backTo pos (starEach [] X.env)).any (·.1) = false := by rfl) :
    PE X (.Call (.Name x p) [e] [] pos) (tMkP C f te) := by
  obtain ⟨fI, fd, iC, tI, F1, b1, b2, b3⟩ := c.ini
  constructor
  intro pins s σ H Q I h
  apply wpAny_Call_Name_kw
  apply ld_glob I hg c.gl _ hdb
  apply PySem.W.callWith_K (h₀ := X.base) I.ok.mod.kin c.T.kC _ hst hpl
  rw [hst]
  show wpAny _ _ (spliced ((false, eval e X.env) :: backTo pos (starEach [] X.env))) _ _ s
  apply Calls.spliced_cons
  refine thn (he.run pins s σ H _ I h) ?_
  rintro u s1 ⟨v, H1, I1, r1, q1⟩
  refine Calls.spliced_nil ⟨I1.kIn, ?_⟩
  obtain ⟨hp, g, dr, tk, os⟩ := s1
  exact mk_run (us := [u]) (kw := []) c.T (Nat.le_refl _) (.inl rfl) iC tI F1 (hr.mono hj) I1 (fun s e X => b1 s e u X) r1 q1
/-- C() -/
theorem pe_mk0 (c : ErrV X.prog X.w X.K X.mg X.base x f C) (hr : Room j X.A) (hg : Gl X x) (hj : 2 ≤ j := by decide) (hdb : (x == ("__debug__" : Str)) = false := by decide) :
    PE X (.Call (.Name x p) [] [] pos) (tMk0 C f) := by
  obtain ⟨fI, fd, iC, tI, F1, b1, b2, b3⟩ := c.ini
  constructor
  intro pins s σ H Q I h
  apply wpAny_Call_Name_kw
  apply ld_glob I hg c.gl _ hdb
  apply PySem.W.callWith_K0 I.kIn c.T.kC
  obtain ⟨hp, g, dr, tk, os⟩ := s
  exact mk_run (us := []) (kw := []) c.T (Nat.zero_le _) (.inl rfl) iC tI F1 (hr.mono hj) I (fun s e X => b2 s e X) (show RelV .non .none from rfl) h
/-- C(f = e) -/
theorem pe_mkK {kws : List Keyword} {tk : TA} (c : ErrV X.prog X.w X.K X.mg X.base x f C) (hr : Room j X.A) (hg : Gl X x) (hkw : PK X kws tk) (hj : 2 ≤ j := by decide)
    (hall : (backToKw pos (keywordEach kws X.env)).all (·.1.isSome) = true := by rfl) (hks : (backToKw pos (keywordEach kws X.env)).filterMap (·.1) = [f] := by rfl)
    (hdb : (x == ("__debug__" : Str)) = false := by decide)
    (hpl : ((backTo pos (starEach [] X.env)).any (·.1) || (backToKw pos (keywordEach kws X.env)).any (·.1.isNone)) = false := by rfl) :
    PE X (.Call (.Name x p) [] kws pos) (tMkK C f tk) := by
  obtain ⟨fI, fd, iC, tI, F1, b1, b2, b3⟩ := c.ini
  constructor
  intro pins s σ H Q I h
  apply wpAny_Call_Name_kw
  apply ld_glob I hg c.gl _ hdb
  apply PySem.W.callWith_KW0 (h₀ := X.base) I.ok.mod.kin c.T.kC hall _ hpl
  refine thn (hkw.run pos pins s σ H _ I h) ?_
  rintro ws s2 ⟨zs, H2, I2, rz, v, rfl, q2⟩
  refine And.intro I2.kIn ?_
  rw [hks]
  cases rz with
  | cons r rn =>
    rename_i u us
    cases rn
    obtain ⟨hp, g, dr, tk, os⟩ := s2
    exact mk_run (us := []) (kw := [(f, u)]) c.T (Nat.zero_le _) (.inr ⟨u, rfl⟩) iC tI F1 (hr.mono hj) I2 (fun s e X => b3 s e u X) r q2
/-- C(), an own class without own __init__ -/
def tMkE (cls : Value) : TE := fun _ H Q => ∀ a, H a = none → Q (.ref a) (upd H a (ExV a cls none))
theorem pe_exc0 {bmB : List Value} {B newId initId : String} (F : ExcBaseFacts B newId initId bmB) (q : PySem.W.excIn X.K C bmB newId = true) (gC : X.mg x = some (.ref C)) (kC : PySem.W.keepIn X.K (.ref C) = true) (hg : Gl X x) (hdb : (x == ("__debug__" : Str)) = false := by decide) :
    PE X (.Call (.Name x p) [] [] pos) (tMkE (.ref C)) := by
  constructor
  intro pins s σ H Q I h
  apply wpAny_Call_Name_kw
  apply ld_glob I hg gC _ hdb
  apply PySem.W.callWith_K0 I.kIn kC
  show wpAny _ _ (call (.ref C) []) _ _ _
  obtain ⟨bm, N, nm, qn, bs, hdct, sn, sub, ab, col, dd, k0, k1, k2, k3, k5, mN, hC, hN, hni, T⟩ := exc_obj I.kIn q
  obtain ⟨hp, g, dr, tk, os⟩ := s
  refine wpAny_call_exc_subT F T hC hN hni (fun h' a hm => ?_) (by show 0 ≤ sizeLine; exact Nat.zero_le _)
  have hn : H a = none := I.hok.gone hm.new
  obtain ⟨t, ht, _, _⟩ := hm.there
  exact ⟨.ref a, upd H a (ExV a (.ref C) none), I.laidN hm.keeps hm.new hn (exV_ok ht ⟨rfl, rfl⟩ rfl), rfl, h a hn⟩
/-- ValueError() -/
def rMkB : List V → Hp → VK → Prop := fun xs H Q => xs = [] ∧ ∀ a, H a = none → Q (.ref a) (upd H a (ExV a (.type "ValueError") none))
theorem call_mkB : CallR X (.type "ValueError") rMkB := by
  rintro pins s σ H xs us Q I r ⟨rfl, h⟩
  cases r
  obtain ⟨hp, g, dr, tk, os⟩ := s
  refine wpAny_call_exc PySem.F.excCall_ValueError (fun h' a hm => ?_) (by show 0 ≤ sizeLine; exact Nat.zero_le _)
  have hn : H a = none := I.hok.gone hm.new
  obtain ⟨t, ht, _, _⟩ := hm.there
  exact ⟨.ref a, upd H a (ExV a (.type "ValueError") none), I.laidN hm.keeps hm.new hn (exV_ok ht ⟨rfl, rfl⟩ rfl), rfl, h a hn⟩
/-- isinstance of what stands as an error of ValueError's own -/
inductive TyF (K : PySem.W.Frag) (H : Hp) : V → Value → Prop
  | own {x : V} {t : Value} : TyE K H x t → TyF K H x t
  | blt {a : Addr} : H a = some (ExV a (.type "ValueError") none) → TyF K H (.ref a) (.type "ValueError")
def rIsF (K : PySem.W.Frag) : List V → Hp → VK → Prop := fun xs H Q => ∃ (x c : V) (t u : Value) (b : Bool), xs = [x, c] ∧ ClsV c u ∧ TyF K H x t ∧ PySem.W.kitOne K t u = some b ∧ Q (.bl b) H
theorem call_isF (K : PySem.W.Frag) (h : X.K = K) : CallR X (.builtin "isinstance") (rIsF K) := by
  subst h
  rintro pins s σ H xs us Q I r ⟨x, c, t, u, b, rfl, k, ty, e, q⟩
  cases ty with
  | own ty => exact call_isV X.K rfl pins s σ H [x, c] us Q I r ⟨x, c, t, u, b, rfl, k, ty, e, q⟩
  | @blt a ha =>
    obtain ⟨u1, u2, rfl, r1, r2⟩ := vals2 r
    have e2 := k.eq r2
    subst e2
    cases (show u1 = Value.ref a from r1)
    obtain ⟨⟨oe, vs, h1, z, _⟩, _⟩ := I.hok a _ ha
    refine PySem.W.kia_one (PySem.W.kitx_bexc PySem.F.excAttr_ValueError (by kernel_rfl) (by kernel_rfl) (by decide)) I.kIn ⟨oe, h1, z.1⟩ e (fun z => nomatch z) fun tk => ⟨.bl b, H, I.tok tk, rfl, q⟩
end
end LT
namespace LT
open PySem PySem.Spec PyProof.Rows L2
/-! ## displays of many items, put together piece by piece -/
section
variable {A : Type} {R : Hp → A → V → Prop} {H H0 H1 H' : Hp} {σ : L2.St} {t te : TE} {ts : TA} {p : A} {ps qs : List A} {k : Nat} {Dn : Ends} {xs : List V} {a : Addr}
def MonoR (R : Hp → A → V → Prop) : Prop := ∀ H H' p x, Fx [] H H' → R H p x → R H' p x
/-- the reading t leads to an item that stands for p, and changes nothing that stood -/
def El (R : Hp → A → V → Prop) (H0 : Hp) (σ : L2.St) (t : TE) (p : A) : Prop := ∀ H Q, Fx [] H0 H → (∀ x H', Fx [] H H' → R H' p x → Q x H') → t σ H Q
def Els (R : Hp → A → V → Prop) (H0 : Hp) (σ : L2.St) (ts : TA) (ps : List A) : Prop := ∀ H Q, Fx [] H0 H → (∀ xs H', Fx [] H H' → Paired (R H') ps xs → Q xs H') → ts σ H Q
theorem els_nil : Els R H0 σ tNil ([] : List A) := fun H Q _ q => q [] H (Fx.refl _ _) .nil
theorem els_cons (m : MonoR R) (e : El R H0 σ t p) (es : Els R H0 σ ts ps) : Els R H0 σ (tCons t ts) (p :: ps) := fun H Q f q =>
  e H _ f fun x H1 f1 r => es H1 _ (f.trans f1) fun xs H2 f2 rs => q (x :: xs) H2 (f1.trans f2) (.cons (m _ _ _ _ f2 r) rs)
theorem paired_len (h : Paired (R H) ps xs) : xs.length = ps.length := (Paired.length h).symm
theorem paired_app {ys : List V} : ∀ {ps : List A} {zs : List V}, Paired (R H) ps zs → Paired (R H) qs ys → Paired (R H) (ps ++ qs) (zs ++ ys)
  | _, _, .nil, b => b
  | _, _, .cons x r, b => .cons x (paired_app r b)
theorem paired_fx (m : MonoR R) (f : Fx [] H H') (h : Paired (R H) ps xs) : Paired (R H') ps xs := h.mono fun a b r => m _ _ _ _ f r
/-- slot k holds a list of such items -/
def AtL (R : Hp → A → V → Prop) (H : Hp) (σ : L2.St) (k : Nat) (ps : List A) : Prop := ∃ a xs, σ[k]? = some (some (.ref a)) ∧ H a = some (.lst xs) ∧ Paired (R H) ps xs
def IsL (R : Hp → A → V → Prop) (H : Hp) (ps : List A) (v : V) : Prop := ∃ a xs, v = .ref a ∧ H a = some (.lst xs) ∧ Paired (R H) ps xs
theorem el_lst (m : MonoR R) (es : Els R H0 σ ts ps) (sz : ps.length ≤ 1000) : El (IsL R) H0 σ (tLst ts) ps := fun H Q f q =>
  es H _ f fun xs H1 f1 pr => ⟨by rw [paired_len pr, sizeLine_eq]; omega, fun a ha => q _ _ (f1.trans (Fx.new _ ha)) ⟨a, xs, rfl, upd_same, paired_fx m (Fx.new _ ha) pr⟩⟩
theorem st_lst (m : MonoR R) (es : Els R H σ ts ps) (sz : ps.length ≤ 1000) (h : ∀ a xs H', Fx [] H H' → H' a = some (.lst xs) → Paired (R H') ps xs → Dn.nx (σ.set k (some (.ref a))) H') : tAsg (tLst ts) (gName k) Dn σ H :=
  es H _ (Fx.refl _ _) fun xs H1 f1 pr => ⟨by rw [paired_len pr, sizeLine_eq]; omega, fun a ha => h a xs _ (f1.trans (Fx.new _ ha)) upd_same (paired_fx m (Fx.new _ ha) pr)⟩
theorem op_cat_el (m : MonoR R) {j : Nat} (hs : σ[j]? = some (some (.ref a))) (ha : H a = some (.lst xs)) (hp : Paired (R H) ps xs) (es : Els R H σ ts qs) (sz : ps.length + qs.length ≤ 1000) {Q : VK}
    (h : ∀ a xs H', Fx [] H H' → H' a = some (.lst xs) → Paired (R H') (ps ++ qs) xs → Q (.ref a) H') : tOp rCat (tVar j) (tLst ts) σ H Q :=
  ⟨_, hs, es H _ (Fx.refl _ _) fun ys H1 f1 pr => ⟨by rw [paired_len pr, sizeLine_eq]; omega, fun b hb => by
    have f2 := f1.trans (Fx.new (o := .lst ys) [] hb)
    refine ⟨a, b, xs, ys, rfl, rfl, f2.all ha, upd_same, by rw [paired_len pr, paired_len hp, sizeLine_eq]; omega, fun c hc => ?_⟩
    have f3 := Fx.new (o := HO.lst (xs ++ ys)) [] hc
    exact h c _ _ (f2.trans f3) upd_same (paired_app (paired_fx m (f2.trans f3) hp) (paired_fx m ((Fx.new (o := .lst ys) [] hb).trans f3) pr))⟩⟩
theorem st_cat (m : MonoR R) (hs : σ[k]? = some (some (.ref a))) (ha : H a = some (.lst xs)) (hp : Paired (R H) ps xs) (es : Els R H σ ts qs) (sz : ps.length + qs.length ≤ 1000)
    (h : ∀ a xs H', Fx [] H H' → H' a = some (.lst xs) → Paired (R H') (ps ++ qs) xs → Dn.nx (σ.set k (some (.ref a))) H') : tAsg (tOp rCat (tVar k) (tLst ts)) (gName k) Dn σ H :=
  op_cat_el m hs ha hp es sz fun a xs H' f e pr => h a xs H' f e pr
theorem rt_cat (m : MonoR R) (hs : σ[k]? = some (some (.ref a))) (ha : H a = some (.lst xs)) (hp : Paired (R H) ps xs) (es : Els R H σ ts qs) (sz : ps.length + qs.length ≤ 1000)
    (h : ∀ a xs H', Fx [] H H' → H' a = some (.lst xs) → Paired (R H') (ps ++ qs) xs → Dn.rt (.ref a) H') : tRet (tOp rCat (tVar k) (tLst ts)) Dn σ H :=
  op_cat_el m hs ha hp es sz fun a xs H' f e pr => h a xs H' f e pr
end
/-! ### kinds of items -/
/-- the item itself -/
def RV (_ : Hp) (p x : V) : Prop := x = p
theorem mono_RV : MonoR RV := fun _ _ _ _ _ h => h
theorem rv_eq {H : Hp} : ∀ {ps xs : List V}, Paired (RV H) ps xs → xs = ps
  | _, _, .nil => rfl
  | _, _, .cons a r => by
    cases (show _ = _ from a)
    rw [rv_eq r]
/-- an error -/
def RE (H : Hp) (p : Addr × List (Str × V)) (x : V) : Prop := ∃ a, x = .ref a ∧ IsEx H p.1 a p.2
theorem mono_RE : MonoR RE := fun _ _ _ _ f ⟨a, e, h⟩ => ⟨a, e, f.isEx h⟩
section
variable {H H0 : Hp} {σ : L2.St} {C a dx : Addr} {f : Str} {v : V} {fs : List (Str × V)} {K : PySem.W.Frag}
theorem mkH_fx (ha : H a = none) (hd : H dx = none) (ne : dx ≠ a) : Fx [] H (mkH C a dx f v H) := (Fx.new [] hd).trans (Fx.new [] (by rw [upd_ne (Ne.symm ne)]; exact ha))
theorem mkQ_of {Q : VK} (h : ∀ x H', Fx [] H H' → RE H' (C, [(f, v)]) x → Q x H') : mkQ C f v H Q := fun a dx ha hd ne =>
  h _ _ (mkH_fx ha hd ne) ⟨a, rfl, .made upd_same (by show mkH C a dx f v H dx = _; unfold mkH; rw [upd_ne ne, upd_same])⟩
theorem el_mkP {i : Nat} (hs : σ[i]? = some (some v)) : El RE H0 σ (tMkP C f (tVar i)) (C, [(f, v)]) := fun H Q _ q => ⟨v, hs, mkQ_of q⟩
theorem el_mkK {i : Nat} (hs : σ[i]? = some (some v)) : El RE H0 σ (tMkK C f (tCons (tVar i) tNil)) (C, [(f, v)]) := fun H Q _ q => ⟨v, hs, v, rfl, mkQ_of q⟩
theorem el_mk0 : El RE H0 σ (tMk0 C f) (C, [(f, .non)]) := fun H Q _ q => mkQ_of q
theorem el_mkE : El RE H0 σ (tMkE (.ref C)) (C, []) := fun H Q _ q a ha => q _ _ (Fx.new [] ha) ⟨a, rfl, .kept0 upd_same⟩
end
section
variable {P : Program} {w : World} {K : PySem.W.Frag} {mg : Str → Option Value} {base : Heap} {x f qual : Str} {params : Arguments} {body : List Stmt} {scope : Scope} {C fI : Addr} {fd : FuncData}
/-- an own error class by the text of its __init__ -/
theorem errV_of (F : FunD K "__init__" qual params body scope [.non] [] fI fd) (S : FnScope ["self", f] ["self", f] scope) (T : OexC K C) (nf : PySem.W.findIn K (.ref C) f = some none) (gl : mg x = some (.ref C)) (xf : XfC K C) (ex : ExcC K C)
    (iC : PySem.W.findIn K (.ref C) "__init__" = some (some (.ref fI))) (tI : PySem.W.typeIn K (.ref fI) = some (.type "function"))
    (hb : ∀ (cdv : Value) (A : Around) (outer : List Env) (s : Shared) (H : Hp) (E : XK), PSs (cxOf CX0 P w K mg base ["self", f] qual scope fI cdv A outer s H E).nox body (tOst K f (tVar 0) (tVar 1)))
    (bP : ∀ (T : Addr) (kV doc pm : Value) (an : Option Addr) (cdv ct e u : Value) (its : List Value), its.length = 1 →
      ∃ k, bindArgs (PySem.W.fnOf "__init__" qual params body scope (.ref T) kV doc pm an cdv ct) ⟨[e, u], []⟩ = seqItems? (.ref T) >>= k ∧ k (some its.toArray) = pure [(("self" : Str), e), (f, u)])
    (bK : ∀ (T : Addr) (kV doc pm : Value) (an : Option Addr) (cdv ct e u : Value) (its : List Value), its.length = 1 →
      ∃ k, bindArgs (PySem.W.fnOf "__init__" qual params body scope (.ref T) kV doc pm an cdv ct) ⟨[e], [(f, u)]⟩ = seqItems? (.ref T) >>= k ∧ k (some its.toArray) = pure [(("self" : Str), e), (f, u)])
    (bD : ∀ (T : Addr) (kV doc pm : Value) (an : Option Addr) (cdv ct : Value) (us its : List Value), us.length = 1 → its.length = 1 →
      ∃ k, bindArgs (PySem.W.fnOf "__init__" qual params body scope (.ref T) kV doc pm an cdv ct) ⟨us, []⟩ = seqItems? (.ref T) >>= k ∧ k (some its.toArray) = pure ((["self", f] : List Str).zip (us ++ its.drop 0))) : ErrV P w K mg base x f C := by
  refine ⟨T, gl, nf, xf, ex, fI, fd, iC, tI, F.ok S (fun vs H Q E h => ?_) (fun cdv A outer s H vs Q E hr h => ⟨_, (hb cdv A outer s H E).nox, ?_⟩), ?_, ?_, ?_⟩
  · obtain ⟨a, v, rfl, _⟩ := h
    rfl
  · obtain ⟨a, v, rfl, ha, q⟩ := h
    exact ⟨_, rfl, _, rfl, a, C, rfl, T, nf, .inl ⟨ha, q⟩⟩
  · obtain ⟨oc, od, dV, kV, doc, pm, an, cdv, ct, osl, rfl, lk, hcd, hD, hK⟩ := F.ex
    rcases hD with ⟨e, _⟩ | ⟨_, D, o, its, m, rfl, lT, oT, rT⟩
    · cases e
    · intro s e u X
      obtain ⟨k, e1, e2⟩ := bP D kV doc pm an cdv ct e u its rT.length.symm
      refine BindsTo.of_looks fun M => ?_
      rw [e1]
      exact looks_items X lT oT (.of_pure e2)
  · obtain ⟨ds, r, b⟩ := F.binds1 (ps := ["self", f]) 1 0 (fun z => nomatch z) rfl bD
    intro s e X
    have z : ds = [.none] := by
      cases r with
      | cons r1 r2 =>
        cases r2
        cases r1
        rfl
    subst z
    exact b s [e] X rfl
  · obtain ⟨oc, od, dV, kV, doc, pm, an, cdv, ct, osl, rfl, lk, hcd, hD, hK⟩ := F.ex
    rcases hD with ⟨e, _⟩ | ⟨_, D, o, its, m, rfl, lT, oT, rT⟩
    · cases e
    · intro s e u X
      obtain ⟨k, e1, e2⟩ := bK D kV doc pm an cdv ct e u its rT.length.symm
      refine BindsTo.of_looks fun M => ?_
      rw [e1]
      exact looks_items X lT oT (.of_pure e2)
end
end LT
namespace LT
open PySem PySem.Spec PyProof.Rows L2
section
variable {H H0 : Hp} {σ : L2.St} {C D a dx : Addr} {f : Str} {v : V} {fs : List (Str × V)} {K : PySem.W.Frag} {j : Nat} {b : Bool} {xs : List V} {ps : List (Addr × List (Str × V))}
theorem paired_nth {A B : Type} {F : A → B → Prop} : ∀ {ps : List A} {xs : List B} {i : Nat} {p : A}, Paired F ps xs → ps[i]? = some p → ∃ x, xs[i]? = some x ∧ F p x
  | _, _, 0, _, .cons h _, e => by
    cases e
    exact ⟨_, rfl, h⟩
  | _, _, i + 1, _, .cons _ r, e => paired_nth (i := i) r e
/-- errors[i].f -/
theorem el_fld (i : Nat) (n : Int) (hn : n = i) (hs : σ[j]? = some (some (.ref a))) (ha : H0 a = some (.lst xs)) (pr : Paired (RE H0) ps xs) (hp : ps[i]? = some (C, [(f, v)])) (xf : XfC K C) (nf : PySem.W.findIn K (.ref C) f = some none) :
    El RV H0 σ (tExf K f (tOp rIxl (tVar j) (tC (.int n)))) v := by
  intro H Q fx q
  obtain ⟨x, hx, b, rfl, ie⟩ := paired_nth pr hp
  subst hn
  exact ⟨_, hs, a, xs, _, .ref b, rfl, rfl, fx.all ha, atI_nat hx, C, b, [(f, v)], v, rfl, fx.isEx ie, by simp [List.lookup], xf, nf, q v H (Fx.refl _ _) rfl⟩
/-- isinstance(error, D) -/
theorem el_is (hs : σ[j]? = some (some (.ref a))) (ie : IsEx H0 C a fs) (ec : ExcC K C) (hk : PySem.W.kitOne K (.ref C) (.ref D) = some b) : El RV H0 σ (tCB (rIsF K) (tCons (tVar j) (tCons (tC (.ref D)) tNil))) (.bl b) :=
  fun H Q fx q => ⟨_, hs, .ref a, .ref D, .ref C, .ref D, b, rfl, .own D, .own (.exc (fx.isEx ie) ec), hk, q _ H (Fx.refl _ _) rfl⟩
end
end LT
namespace LT
open PySem PySem.Spec PyProof.Rows L2
/-- what is equal to itself -/
def RF (_ : Hp) (_ : Unit) (x : V) : Prop := flatB x = true ∨ ∃ a, x = .ref a
theorem mono_RF : MonoR RF := fun _ _ _ _ _ h => h
def IsV (H : Hp) (vs : List V) (x : V) : Prop := ∃ a, x = .ref a ∧ H a = some (.lst vs)
theorem mono_IsV : MonoR IsV := fun _ _ _ _ f ⟨a, e, h⟩ => ⟨a, e, f.all h⟩
theorem mono_IsL {A : Type} {R : Hp → A → V → Prop} (m : MonoR R) : MonoR (IsL R) := fun _ _ _ _ f ⟨a, xs, e, h, p⟩ => ⟨a, xs, e, f.all h, paired_fx m f p⟩
section
variable {H H0 : Hp} {σ : L2.St} {v : V} {ts : TA} {us : List Unit} {K : PySem.W.Frag} {j : Nat}
theorem el_cF (h : flatB v = true) : El RF H0 σ (tC v) () := fun H Q _ q => q v H (Fx.refl _ _) (.inl h)
theorem el_tupF (es : Els RF H0 σ ts us) (sz : us.length ≤ 1000) : El RF H0 σ (tTup ts) () := fun H Q f q =>
  es H _ f fun xs H1 f1 pr => ⟨by rw [paired_len pr, sizeLine_eq]; omega, fun a ha => q _ _ (f1.trans (Fx.new _ ha)) (.inr ⟨a, rfl⟩)⟩
theorem el_lstF (es : Els RF H0 σ ts us) (sz : us.length ≤ 1000) : El RF H0 σ (tLst ts) () := fun H Q f q =>
  es H _ f fun xs H1 f1 pr => ⟨by rw [paired_len pr, sizeLine_eq]; omega, fun a ha => q _ _ (f1.trans (Fx.new _ ha)) (.inr ⟨a, rfl⟩)⟩
theorem el_negF {i : Int} : El RF H0 σ (tUn (rU fun i => .int (-i)) (tC (.int i))) () := fun H Q _ q => ⟨i, rfl, q _ _ (Fx.refl _ _) (.inl rfl)⟩
theorem el_powF {i k : Int} (h : CPowB i k) : El RF H0 σ (tOp (rI CPowB fun i j => .int (i ^ j.toNat)) (tC (.int i)) (tC (.int k))) () := fun H Q _ q => ⟨i, k, rfl, rfl, h, q _ _ (Fx.refl _ _) (.inl rfl)⟩
/-- {s: i} -/
theorem el_disF {s : Str} {i : Int} : El RF H0 σ (tDisp [(tC (.str s), tC (.int i))]) () := fun H Q _ q p hp =>
  ⟨upd_same, [(.inr s, .int i)], rfl, (show 1 ≤ 15 by decide), by
    rw [upd_upd]
    exact q _ _ (Fx.new _ hp) (.inr ⟨p, rfl⟩)⟩
theorem el_rep (n : Nat) (hn : n ≤ 1000) (hs : σ[j]? = some (some v)) (k : Int) (hk : k = n) : El IsV H0 σ (tOp rRep (tLst (tCons (tVar j) tNil)) (tC (.int k))) (List.replicate n v) := by
  intro H Q f q
  subst hk
  refine ⟨v, hs, Nat.le_trans (show 1 ≤ 1000 by decide) (by rw [sizeLine_eq]; decide), fun p hp => ⟨p, n, [v], rfl, rfl, upd_same, by omega, by omega, ?_, fun a ha => ?_⟩⟩
  · rw [sizeLine_eq]
    show 1 * n ≤ _
    omega
  · refine q _ _ ((Fx.new (o := .lst [v]) [] hp).trans (Fx.new _ ha)) ⟨a, rfl, ?_⟩
    rw [upd_same]
    have e : ∀ n, (List.replicate n [v]).flatten = List.replicate n v := by
      intro n
      induction n with
      | zero => rfl
      | succ n ih =>
        rw [List.replicate_succ, List.flatten_cons, ih]
        rfl
    show some (HO.lst (List.replicate n [v]).flatten) = _
    rw [e]
/-- two lists of equal lists -/
theorem isV_eq {ls : List (List V)} : ∀ {xs ys : List V}, Paired (IsV H) ls xs → Paired (IsV H) ls ys → (∀ l ∈ ls, ∀ x ∈ l, flatB x = true ∨ ∃ a, x = .ref a) → Paired (EqT K H 2) xs ys := by
  induction ls with
  | nil =>
    intro xs ys a b _
    cases a
    cases b
    exact .nil
  | cons l ls ih =>
    intro xs ys a b h
    cases a with
    | cons a1 a2 =>
      cases b with
      | cons b1 b2 =>
        obtain ⟨p, rfl, hp⟩ := a1
        obtain ⟨q, rfl, hq⟩ := b1
        exact .cons (.inr (.inl ⟨p, q, l, l, rfl, rfl, SqL.of hp, SqL.of hq, paired_refl (h l List.mem_cons_self)⟩)) (ih a2 b2 fun m hm => h m (List.mem_cons_of_mem _ hm))
end
end LT
namespace LT
open PySem PySem.Spec PyProof.Rows L2
/-! ### what the top has written of an own error class, as one word -/
def clsB (K : PySem.W.Frag) (C : Addr) : Bool :=
  decide (PySem.W.findIn K (.ref C) "__setattr__" = some (some (.builtin "object.__setattr__"))) && (xfB K C && (decide (PySem.W.typeIn K (.ref C) = some (.type "type")) && (PySem.W.keepIn K (.ref C) &&
    (decide (PySem.W.findIn K (.ref C) "__class__" = some (some (.builtin "object.__class__"))) && (decide (PySem.W.specialIn K (.builtin "object.__class__") "__get__" = some (some (.builtin "getset_descriptor.__get__"))) &&
      (decide (PySem.W.takesIn K (.builtin "object.__class__") = some true) && decide (PySem.W.mroIn K C (.type "object") = some true)))))))
def iniB (K : PySem.W.Frag) (C fI : Addr) (f : Str) : Bool := clsB K C && (decide (PySem.W.findIn K (.ref C) f = some none) && decide (PySem.W.typeIn K (.ref fI) = some (.type "function")))
section
variable {K : PySem.W.Frag} {C fI : Addr} {f : Str}
theorem clsB_ok (h : clsB K C = true) : PySem.W.findIn K (.ref C) "__setattr__" = some (some (.builtin "object.__setattr__")) ∧ XfC K C ∧ PySem.W.typeIn K (.ref C) = some (.type "type") ∧ PySem.W.keepIn K (.ref C) = true ∧ ExcC K C := by
  obtain ⟨h1, h⟩ := Bool.and_eq_true_iff.mp h
  obtain ⟨h2, h⟩ := Bool.and_eq_true_iff.mp h
  obtain ⟨h3, h⟩ := Bool.and_eq_true_iff.mp h
  obtain ⟨h4, h⟩ := Bool.and_eq_true_iff.mp h
  obtain ⟨h5, h⟩ := Bool.and_eq_true_iff.mp h
  obtain ⟨h6, h⟩ := Bool.and_eq_true_iff.mp h
  obtain ⟨h7, h8⟩ := Bool.and_eq_true_iff.mp h
  have x := xfB_ok h2
  exact ⟨of_decide_eq_true h1, x, of_decide_eq_true h3, h4, x.ga, x.gg, x.exC, x.hdC, of_decide_eq_true h5, of_decide_eq_true h6, of_decide_eq_true h7, of_decide_eq_true h8⟩
theorem iniB_ok {nm q : Str} {N : Addr} {bs bm : List Value} {sn : List Str} {sub : List Value} {ab : Bool} {col : Option Bool} {dd : Option Addr} {k0 k1 k2 k3 k5 : Option Value} (hC : K.lookup C = some (excClassObj nm q C N bs bm true sn sub ab col dd k0 k1 k2 k3 k5 "ValueError.__new__"))
    (hbm : PySem.HandSPX.refsVE bm = true) (h : iniB K C fI f = true) : OexC K C ∧ XfC K C ∧ ExcC K C ∧ PySem.W.findIn K (.ref C) f = some none ∧ PySem.W.typeIn K (.ref fI) = some (.type "function") := by
  obtain ⟨h1, h⟩ := Bool.and_eq_true_iff.mp h
  obtain ⟨h2, h3⟩ := Bool.and_eq_true_iff.mp h
  obtain ⟨sa, x, t, k, e⟩ := clsB_ok h1
  exact ⟨⟨⟨nm, q, N, bs, bm, sn, sub, ab, col, dd, k0, k1, k2, k3, k5, hC, hbm⟩, sa, x.exC, t, k⟩, x, e, of_decide_eq_true h2, of_decide_eq_true h3⟩
def csOf (l : List Addr) (i : Nat) : Addr := l.getD i 0
def tabB (K : PySem.W.Frag) (l : List Addr) (n : Nat) : Bool := (List.range n).all fun i => (List.range n).all fun k => decide (PySem.W.kitOne K (.ref (csOf l i)) (.ref (csOf l k)) = some (decide (i = k)))
theorem tabB_ok {l : List Addr} {n : Nat} (h : tabB K l n = true) : ∀ i k, i < n → k < n → PySem.W.kitOne K (.ref (csOf l i)) (.ref (csOf l k)) = some (decide (i = k)) := fun i k hi hk =>
  of_decide_eq_true (List.all_eq_true.mp (List.all_eq_true.mp h i (List.mem_range.mpr hi)) k (List.mem_range.mpr hk))
def belowB (K : PySem.W.Frag) (l : List Addr) (n m : Nat) : Bool := (List.range n).all fun i => decide (PySem.W.kitOne K (.ref (csOf l i)) (.ref (csOf l m)) = some true) && decide (PySem.W.kitOne K (.ref (csOf l i)) (.type "ValueError") = some true)
theorem belowB_ok {l : List Addr} {n m : Nat} (h : belowB K l n m = true) (i : Nat) (hi : i < n) : PySem.W.kitOne K (.ref (csOf l i)) (.ref (csOf l m)) = some true ∧ PySem.W.kitOne K (.ref (csOf l i)) (.type "ValueError") = some true := by
  obtain ⟨a, b⟩ := Bool.and_eq_true_iff.mp (List.all_eq_true.mp h i (List.mem_range.mpr hi))
  exact ⟨of_decide_eq_true a, of_decide_eq_true b⟩
def excB (K : PySem.W.Frag) (l : List Addr) (n : Nat) : Bool := (List.range n).all fun i => clsB K (csOf l i)
theorem excB_ok {l : List Addr} {n : Nat} (h : excB K l n = true) (i : Nat) (hi : i < n) : ExcC K (csOf l i) := (clsB_ok (List.all_eq_true.mp h i (List.mem_range.mpr hi))).2.2.2.2
end
end LT
namespace LT
open PySem PySem.Spec PyProof.Rows L2
/-! ## calls that may raise, and what is never come to -/
section
variable {X : Cx} {CX : CXT} {x : Str} {k j : Nat} {ps ks : List Str} {sp : Sp} {gV : List V → List V} {E : L2.St → XK} {e : Expr} {es : List Expr} {kws : List Keyword} {t tk : TA} {p pos : Pos} {st : Stmt}
/-- what is never come to -/
theorem ps_dead : PS X st (fun _ _ _ => False) := ⟨fun _ _ _ _ _ _ h => h.elim⟩
/-- f(e, ..) in the body of a try -/
theorem pe_calS (c : Cal X.prog X.w X.K X.mg X.base CX x k ps sp) (hr : Room j X.A) (hg : Gl X x) (hx : ∀ σ, PassesAt CX X σ (E σ)) (ha : PA X (e :: es) t) (hj : k ≤ j := by decide)
    (hdb : (x == ("__debug__" : Str)) = false := by decide) (he : starEach (e :: es) X.env = (false, eval e X.env) :: starEach es X.env := by rfl) (hpl : (backTo pos (starEach es X.env)).any (·.1) = false := by rfl) :
    PE X (.Call (.Name x p) (e :: es) [] pos) (tCallS sp E t) := by
  obtain ⟨f, fd, F, hm, hk, hb⟩ := c.ex
  exact pe_callS F (hr.mono hj) hg hm hk hb hx ha hdb he hpl
def tCalKS (sp : Sp) (gV : List V → List V) (E : L2.St → XK) (tk : TA) : TE := fun σ H Q => tk σ H fun zs H2 => sp (gV zs) H2 Q (E σ)
theorem run_fnkS {pins : List (Addr × Obj)} {σ : L2.St} {H : Hp} {s : Shared} {Q : VK} {fd : FuncData} {f : Addr} {us ws : List Value} {vs zs : List V} {g : List Value → List Value → List Value} {gV : List V → List V → List V} {E : XK}
    (F : FnOk X.prog X.w X.K X.mg X.base CX k f fd ps sp) (hr : Room k X.A) (hb : KBinds X.K fd ps ks g gV) (hx : PassesAt CX X σ E) (I : Inv X pins σ H s) (r : Vals vs us) (rz : Vals zs ws) (h : sp (gV vs zs) H Q E) :
    wpAny (model X.prog X.w) X.A (call (.ref f) us (ks.zip ws)) (EP X pins σ Q) X.xe s := by
  have r2 := hb.rel r rz
  have hl : (g us ws).length = ps.length := by rw [← r2.length]; exact F.len _ _ _ _ h
  refine wpAny_call (codeAny_mono (F.run X.A X.stack s H ⟨us, ks.zip ws⟩ (g us ws) (gV vs zs) Q E hr I.env0 (hb.to s us ws I.kIn hl) r2 h) fun r s' hq => ?_)
  cases r with
  | error e => exact hx pins H s e s' I hq
  | ok fl =>
    cases fl with
    | ret u => exact I.after hq
    | next => exact False.elim hq
    | brk => exact False.elim hq
    | cont => exact False.elim hq
theorem pe_calKS (c : CalK X.prog X.w X.K X.mg X.base CX x k ps ks gV sp) (hr : Room j X.A) (hg : Gl X x) (hx : ∀ σ, PassesAt CX X σ (E σ)) (hkw : PK X kws tk) (hj : k ≤ j := by decide)
    (hall : (backToKw pos (keywordEach kws X.env)).all (·.1.isSome) = true := by rfl) (hks : (backToKw pos (keywordEach kws X.env)).filterMap (·.1) = ks := by rfl)
    (hdb : (x == ("__debug__" : Str)) = false := by decide)
    (hpl : ((backTo pos (starEach [] X.env)).any (·.1) || (backToKw pos (keywordEach kws X.env)).any (·.1.isNone)) = false := by rfl) :
    PE X (.Call (.Name x p) [] kws pos) (tCalKS sp gV E tk) := by
  obtain ⟨f, fd, g, gW, F, hm, hk, hb, he⟩ := c.ex
  constructor
  intro pins s σ H Q I h
  apply wpAny_Call_Name_kw
  apply ld_glob I hg hm _ hdb
  apply PySem.W.callWith_KW0 (h₀ := X.base) I.ok.mod.kin hk hall _ hpl
  refine thn (hkw.run pos pins s σ H _ I h) ?_
  rintro ws s2 ⟨zs, H2, I2, rz, q2⟩
  refine And.intro I2.kIn ?_
  rw [hks]
  exact run_fnkS (us := []) (vs := []) F (hr.mono hj) hb (hx σ) I2 .nil rz (by rw [he]; exact q2)
end
/-! ### what «except» and isinstance say of the classes -/
section
variable {K : PySem.W.Frag} {l : List Addr} {n m : Nat}
def exmB (K : PySem.W.Frag) (l : List Addr) (n m : Nat) : Bool := (List.range n).all fun i => decide (PySem.W.exmOne K (.ref (csOf l i)) (.ref (csOf l m)) = some true)
theorem exmB_ok (h : exmB K l n m = true) (i : Nat) (hi : i < n) : PySem.W.exmOne K (.ref (csOf l i)) (.ref (csOf l m)) = some true := of_decide_eq_true (List.all_eq_true.mp h i (List.mem_range.mpr hi))
def noneB (K : PySem.W.Frag) (l : List Addr) (n : Nat) : Bool := (List.range n).all fun i => decide (PySem.W.kitOne K (.type "NoneType") (.ref (csOf l i)) = some false)
theorem noneB_ok (h : noneB K l n = true) (i : Nat) (hi : i < n) : PySem.W.kitOne K (.type "NoneType") (.ref (csOf l i)) = some false := of_decide_eq_true (List.all_eq_true.mp h i (List.mem_range.mpr hi))
end
end LT
namespace LT
open PySem PySem.Spec PyProof.Rows L2
theorem is_err {K : PySem.W.Frag} {H : Hp} {C a : Addr} {fs : List (Str × V)} {c : V} {u : Value} {b : Bool} {Q : VK} (ie : IsEx H C a fs) (ec : ExcC K C) (k : ClsV c u) (hk : PySem.W.kitOne K (.ref C) u = some b) (q : Q (.bl b) H) : rIsF K [.ref a, c] H Q :=
  ⟨.ref a, c, .ref C, u, b, rfl, k, .own (.exc ie ec), hk, q⟩
end LT
namespace LT
open PySem PySem.Spec PyProof.Rows L2
/-! ## told apart from what is empty -/
section
variable {X : Cx}
/-- a list == [] -/
def rEqNil (K : PySem.W.Frag) : R2 := fun x y H Q => ∃ p q xs, x = .ref p ∧ y = .ref q ∧ SqL K H p xs ∧ SqL K H q [] ∧ Q (.bl (decide (xs = []))) H
/-- a tuple != () -/
def rNeNil (K : PySem.W.Frag) : R2 := fun x y H Q => ∃ p q xs, x = .ref p ∧ y = .ref q ∧ SqT K H p xs ∧ SqT K H q [] ∧ Q (.bl (!decide (xs = []))) H
theorem op_eqNil (hu : X.A.units + 64 < cLine) : OpR X (compareOp .Eq) (rEqNil X.K) := by
  rintro pins s σ H x y v u Q I rx ry ⟨p, q, xs, rfl, rfl, ha, hb, hQ⟩
  cases (show v = Value.ref p from rx)
  cases (show u = Value.ref q from ry)
  obtain ⟨us, r1, p1, _⟩ := I.list ha
  obtain ⟨ws, r2, p2, _⟩ := I.list hb
  cases r2
  cases xs with
  | nil =>
    cases r1
    have k := SeqAt.RcAt.lists (A := X.A) (e := fun _ => true) p1.isList p2.isList rfl (by omega) fun j h1 h2 => absurd h1 (Nat.not_lt_zero j)
    exact k _ _ _ _ ⟨.bl true, H, I, rfl, hQ⟩
  | cons x xs =>
    have hsz : (us.toArray.size != ([] : List Value).toArray.size) = true := by
      rw [List.size_toArray, ← r1.length]
      rfl
    exact SeqAt.RcAt.lists_lengths (A := X.A) p1.isList p2.isList hsz (by omega) _ _ _ _ ⟨.bl false, H, I, rfl, hQ⟩
theorem op_neNil (hu : X.A.units + 64 < cLine) : OpR X (compareOp .NotEq) (rNeNil X.K) := by
  rintro pins s σ H x y v u Q I rx ry ⟨p, q, xs, rfl, rfl, ha, hb, hQ⟩
  cases (show v = Value.ref p from rx)
  cases (show u = Value.ref q from ry)
  obtain ⟨us, r1, p1, _⟩ := I.tuple ha
  obtain ⟨ws, r2, p2, _⟩ := I.tuple hb
  cases r2
  have k := SeqAt.RcNeAt.tuples (A := X.A) (e := fun _ => true) p1 p2 (by omega) fun j h1 h2 => absurd h2 (Nat.not_lt_zero j)
  rw [all_range] at k
  cases xs with
  | nil =>
    cases r1
    exact k _ _ _ _ ⟨.bl false, H, I, rfl, hQ⟩
  | cons x xs =>
    have hsz : (us.toArray.size == ([] : List Value).toArray.size) = false := by
      rw [List.size_toArray, ← r1.length]
      rfl
    rw [hsz] at k
    exact k _ _ _ _ ⟨.bl true, H, I, rfl, hQ⟩
end
/-! ## data that is flat, or tuples of it -/
mutual
def toP : D → PyData
  | .non => .none
  | .bl b => .bool b
  | .int i => .int i
  | .str x => .str x
  | .tup ds => .tuple (toPs ds)
  | .lst _ => .none
  | .dct _ => .none
def toPs : List D → List PyData
  | [] => []
  | d :: ds => toP d :: toPs ds
end
mutual
def plainD : D → Bool
  | .non => true
  | .bl _ => true
  | .int _ => true
  | .str _ => true
  | .tup ds => plainDs ds
  | .lst _ => false
  | .dct _ => false
def plainDs : List D → Bool
  | [] => true
  | d :: ds => plainD d && plainDs ds
end
mutual
theorem Rp.dp {K : PySem.W.Frag} {H : Hp} : ∀ {v : V} {d : D}, Rp H v d → plainD d = true → Dp K H v (toP d)
  | _, _, .non, _ => .non
  | _, _, .bl b, _ => .bl b
  | _, _, .int i, _ => .int i
  | _, _, .str x, _ => .str x
  | _, _, .tup e r, h => .tup (SqT.of e) (r.dps h)
theorem RpAll.dps {K : PySem.W.Frag} {H : Hp} : ∀ {vs : List V} {ds : List D}, RpAll H vs ds → plainDs ds = true → DpAll K H vs (toPs ds)
  | _, _, .nil, _ => .nil
  | _, _, .cons a b, h => .cons (a.dp (Bool.and_eq_true_iff.mp h).1) (b.dps (Bool.and_eq_true_iff.mp h).2)
end
end LT
namespace LT
open PySem PySem.Spec PyProof.Rows L2
theorem call_intB {X : Cx} : CallR X (.type "int") (fun xs H Q => ∃ k, xs = [V.bl k] ∧ Q (.int (if k = true then 1 else 0)) H) := fun pins s σ H xs us Q I r h => call_int1 pins s σ H xs us Q I r (Or.inr h)
end LT
/-! t * k, t empty or not -/
namespace LT
open PySem PySem.Spec PyProof.Rows L2
open AutoSeq1 (wpAny_loadPart')
theorem tuple_mul0 (l : Addr) (n : Nat) (dd : Option Addr) (sl : Array (Option Value)) (x : Int) (u : Tok) (c0 : (decide (x < -(2 ^ 63)) || decide (x ≥ 2 ^ 63)) = false) :
    Meets (Builtin.«tuple.__mul__» ⟨[.ref l, .int x u], []⟩) (fun _ R s => s.heap.get? l = some { cls := .type "tuple", dict := dd, data := .seq (#[] : Array Value) n, slots := sl } ∧ R (.ok (.ret (Value.ref l))) s) :=
  .of_wp fun prog w A R s h => by
    obtain ⟨hp, g, d, tk, os⟩ := s
    obtain ⟨hl, h⟩ := h
    have f1 := AutoSeq1.idx_int
    have c1 : ((#[] : Array Value).isEmpty || x == 1) = true := rfl
    wp_walk using wpAny_loadPart' hl
    repeat (first
      | (refine wpAny_ite_false (decide_eq_false (by rw [c0]; exact Bool.false_ne_true)) ?_; wp_walk using wpAny_loadPart' hl)
      | (refine wpAny_ite_true (decide_eq_true c1) ?_; wp_walk using wpAny_loadPart' hl))
    exact ⟨_, rfl, h⟩
section
variable {X : Cx}
def rRepA (K : PySem.W.Frag) : R2 := fun x y H Q => ∃ l k xs, x = .ref l ∧ y = .int k ∧ SqT K H l xs ∧ 2 ≤ k ∧ k ≤ 1000 ∧ xs.length ≤ 1000 ∧ (xs = [] → Q (.ref l) H) ∧ (xs ≠ [] → ∀ p, H p = none → Q (.ref p) (upd H p (.tup (List.replicate k.toNat xs).flatten)))
theorem op_repA : OpR X (binaryOp .Mult) (rRepA X.K) := by
  intro pins s σ H x y v u Q I rx ry h
  obtain ⟨l, k, xs, rfl, rfl, hT, h1, h2, hz, q1, q2⟩ := h
  by_cases hx : xs = []
  · subst hx
    cases (show v = Value.ref l from rx)
    obtain ⟨t, rfl⟩ := (show ∃ t, u = Value.int k t from ry)
    obtain ⟨its, r, ⟨⟨cls, dd, data, sl⟩, ho, hc, n, hd⟩, hs⟩ := I.tuple hT
    simp only at hc hd
    subst hc hd
    cases r
    have c0 : (decide (k < -(2 ^ 63)) || decide (k ≥ 2 ^ 63)) = false := by
      rw [decide_eq_false (by omega), decide_eq_false (by omega)]
      rfl
    exact wpAny_binaryOp_repeat_ref (T := "tuple") (U := "int") (by decide) ⟨_, ho, rfl⟩ (fun s' => typeIs_int s' k t) noFill_tuple_mul F.fills_int_mul F.slot_int_rmul repeat_tuple F.slot_int_index.lookup
      (call_meets F.slot_int_rmul (typeIs_int s k t) F.entry_int_rmul (F.args_int_rmul_2 _ _) (int_rmul_tuple k t l #[] n dd sl)
        ⟨ho, rfl, ⟨_, ho, rfl⟩, call_meets F.slot_tuple_mul ⟨_, ho, rfl⟩ F.entry_tuple_mul (F.args_tuple_mul_2 _ _) (tuple_mul0 l n dd sl k t c0) ⟨ho, ⟨.ref l, H, I, rfl, q1 rfl⟩⟩⟩)
  · exact op_repT pins s σ H _ _ v u Q I rx ry ⟨l, k, xs, rfl, rfl, hT, hx, h1, h2, hz, q2 hx⟩
end
end LT
namespace LT
open PySem PySem.Spec PyProof.Rows L2
/-! ## data of which no tuple is too long, down to a depth -/
def sm : Nat → Nat → D → Prop
  | 0, _, _ => True
  | k + 1, n, .tup ds => ds.length ≤ n ∧ ∀ d ∈ ds, sm k n d
  | _ + 1, _, _ => True
def Gd (k n : Nat) (H : Hp) (v : V) : Prop := ∃ d, Rp H v d ∧ sm k n d
theorem sm_down : ∀ {k n : Nat} {d : D}, sm (k + 1) n d → sm k n d
  | 0, _, _, _ => trivial
  | k + 1, n, .tup ds, h => ⟨h.1, fun d hd => sm_down (h.2 d hd)⟩
  | _ + 1, _, .non, _ => trivial
  | _ + 1, _, .bl _, _ => trivial
  | _ + 1, _, .int _, _ => trivial
  | _ + 1, _, .str _, _ => trivial
  | _ + 1, _, .lst _, _ => trivial
  | _ + 1, _, .dct _, _ => trivial
theorem sm_mono {m : Nat} : ∀ {k n : Nat} {d : D}, n ≤ m → sm k n d → sm k m d
  | 0, _, _, _, _ => trivial
  | k + 1, n, .tup ds, hn, h => ⟨Nat.le_trans h.1 hn, fun d hd => sm_mono hn (h.2 d hd)⟩
  | _ + 1, _, .non, _, _ => trivial
  | _ + 1, _, .bl _, _, _ => trivial
  | _ + 1, _, .int _, _, _ => trivial
  | _ + 1, _, .str _, _, _ => trivial
  | _ + 1, _, .lst _, _, _ => trivial
  | _ + 1, _, .dct _, _, _ => trivial
section
variable {k n m : Nat} {M : List Addr} {H H1 H2 : Hp} {v : V} {a p : Addr} {xs ys : List V} {ds : List D}
theorem Gd.fx (f : Fx M H H1) (h : Gd k n H v) : Gd k n H1 v := let ⟨d, r, s⟩ := h; ⟨d, f.rp r, s⟩
theorem Gd.mono (h : Gd k n H v) (hn : n ≤ m) : Gd k m H v := let ⟨d, r, s⟩ := h; ⟨d, r, sm_mono hn s⟩
theorem Gd.down (h : Gd (k + 1) n H v) : Gd k n H v := let ⟨d, r, s⟩ := h; ⟨d, r, sm_down s⟩
theorem gd_list : ∀ {xs : List V}, (∀ x ∈ xs, Gd k n H x) → ∃ ds, RpAll H xs ds ∧ ∀ d ∈ ds, sm k n d
  | [], _ => ⟨[], .nil, fun _ z => nomatch z⟩
  | x :: xs, h => by
    obtain ⟨d, r, s⟩ := h x List.mem_cons_self
    obtain ⟨ds, rs, ss⟩ := gd_list fun y hy => h y (List.mem_cons_of_mem _ hy)
    refine ⟨d :: ds, .cons r rs, fun e he => ?_⟩
    rcases List.mem_cons.mp he with rfl | he
    · exact s
    · exact ss e he
theorem Gd.tup (e : H a = some (.tup xs)) (hl : xs.length ≤ n) (h : ∀ x ∈ xs, Gd k n H x) : Gd (k + 1) n H (.ref a) := by
  obtain ⟨ds, rs, ss⟩ := gd_list h
  exact ⟨.tup ds, .tup e rs, by rw [← rs.len]; exact hl, ss⟩
theorem Gd.lst (e : H a = some (.lst xs)) : Gd k n H (.ref a) := ⟨.lst a, .lst e, by cases k <;> trivial⟩
theorem Gd.dct {kvs : List (Key × V)} (e : H a = some (.dK kvs)) : Gd k n H (.ref a) := ⟨.dct a, .dct e, by cases k <;> trivial⟩
theorem rp_items : ∀ {xs : List V} {ds : List D}, RpAll H xs ds → (∀ d ∈ ds, sm k n d) → ∀ x ∈ xs, Gd k n H x
  | _, _, .nil, _, _, h => nomatch h
  | _, _, .cons r rs, s, x, h => by
    rcases List.mem_cons.mp h with rfl | h
    · exact ⟨_, r, s _ List.mem_cons_self⟩
    · exact rp_items rs (fun d hd => s d (List.mem_cons_of_mem _ hd)) x h
/-- what is a tuple, and what is none -/
theorem Gd.is (h : Gd (k + 1) n H v) : (∃ a xs, v = .ref a ∧ H a = some (.tup xs) ∧ xs.length ≤ n ∧ (∀ x ∈ xs, Gd k n H x) ∧ ∃ d, Rp H v d ∧ isTy "tuple" d = true) ∨ ∃ d, Rp H v d ∧ isTy "tuple" d = false := by
  obtain ⟨d, r, s⟩ := h
  cases d with
  | tup ds =>
    obtain ⟨a, xs, rfl, e, rs⟩ := r.tup_inv
    exact .inl ⟨a, xs, rfl, e, by rw [rs.len]; exact s.1, rp_items rs s.2, _, r, rfl⟩
  | _ => exact .inr ⟨_, r, rfl⟩
theorem gd_flat (h : flatB v = true) (hd : ∃ d, Rp H v d ∧ ∀ k n, sm k n d) : Gd k n H v := let ⟨d, r, s⟩ := hd; ⟨d, r, s k n⟩
theorem Gd.non : Gd k n H .non := ⟨.non, .non, by cases k <;> trivial⟩
theorem Gd.bl (b : Bool) : Gd k n H (.bl b) := ⟨.bl b, .bl b, by cases k <;> trivial⟩
theorem Gd.int (i : Int) : Gd k n H (.int i) := ⟨.int i, .int i, by cases k <;> trivial⟩
theorem Gd.str (x : Str) : Gd k n H (.str x) := ⟨.str x, .str x, by cases k <;> trivial⟩
theorem Fx.dropL {L : Addr} (a : Fx M H H1) (b : Fx (L :: M) H1 H2) (h : H L = none) : Fx M H H2 := by
  constructor
  · intro x o hx e
    have ne : x ≠ L := ne_of_none e h
    exact b.keep x o (fun z => by rcases List.mem_cons.mp z with z | z; exact ne z; exact hx z) (a.keep x o hx e)
  · intro x o e
    obtain ⟨o1, h1, k1⟩ := a.kind x o e
    obtain ⟨o2, h2, k2⟩ := b.kind x o1 h1
    exact ⟨o2, h2, alike_trans k1 k2⟩
end
/-- the items of a display that are fit -/
def RG (k n : Nat) (H : Hp) (_ : Unit) (x : V) : Prop := Gd k n H x
theorem mono_RG {k n : Nat} : MonoR (RG k n) := fun _ _ _ _ f h => h.fx f
section
variable {H H0 : Hp} {σ : L2.St} {v : V} {ts : TA} {us : List Unit} {k n : Nat}
theorem el_G (h : ∀ H, Gd k n H v) : El (RG k n) H0 σ (tC v) () := fun H Q _ q => q v H (Fx.refl _ _) (h H)
theorem el_tupG (es : Els (RG k n) H0 σ ts us) (sz : us.length ≤ n) (hn : n ≤ 1000) : El (RG (k + 1) n) H0 σ (tTup ts) () := fun H Q f q =>
  es H _ f fun xs H1 f1 pr => ⟨by rw [paired_len pr, sizeLine_eq]; omega, fun a ha => q _ _ (f1.trans (Fx.new _ ha)) (.tup upd_same (by rw [paired_len pr]; exact sz) fun x hx => by
    obtain ⟨u, r⟩ := Paired.right pr x hx
    exact Gd.fx (Fx.new [] ha) r)⟩
theorem el_lstG {k' n' : Nat} (es : Els (RG k' n') H0 σ ts us) (sz : us.length ≤ 1000) : El (RG k n) H0 σ (tLst ts) () := fun H Q f q =>
  es H _ f fun xs H1 f1 pr => ⟨by rw [paired_len pr, sizeLine_eq]; omega, fun a ha => q _ _ (f1.trans (Fx.new _ ha)) (.lst upd_same)⟩
theorem el_dctG : El (RG k n) H0 σ tDNewK () := fun H Q f q a ha => q _ _ (Fx.new _ ha) (.dct upd_same)
theorem el_negG {i : Int} : El (RG k n) H0 σ (tUn (rU fun i => .int (-i)) (tC (.int i))) () := fun H Q _ q => ⟨i, rfl, q _ _ (Fx.refl _ _) (.int _)⟩
theorem el_powG {i j : Int} (h : CPowB i j) : El (RG k n) H0 σ (tOp (rI CPowB fun i j => .int (i ^ j.toNat)) (tC (.int i)) (tC (.int j))) () := fun H Q _ q => ⟨i, j, rfl, rfl, h, q _ _ (Fx.refl _ _) (.int _)⟩
theorem el_varG {j : Nat} (hs : σ[j]? = some (some v)) (h : ∀ H, Gd k n H v) : El (RG k n) H0 σ (tVar j) () := fun H Q _ q => ⟨v, hs, q v H (Fx.refl _ _) (h H)⟩
theorem el_subG {j : Nat} {i m : Int} (hs : σ[j]? = some (some (.int m))) : El (RG k n) H0 σ (tOp (rI0 fun i j => .int (i - j)) (tVar j) (tC (.int i))) () := fun H Q _ q => ⟨_, hs, m, i, rfl, rfl, q _ _ (Fx.refl _ _) (.int _)⟩
end
end LT
namespace LT
open PySem PySem.Spec PyProof.Rows L2
section
variable {K : PySem.W.Frag} {H : Hp} {a b : Addr} {xs ys : List V} {lo hi : Option Int} {Q : VK}
theorem cutV_mem {y : V} (h : y ∈ cutV xs lo hi) : y ∈ xs := List.mem_of_mem_drop (List.mem_of_mem_take h)
theorem slt_go (e : H a = some (.tup xs)) (h : ∀ c H' ws, Fx [] H H' → H' c = some (.tup ws) → ws.length ≤ xs.length → (∀ y ∈ ws, y ∈ xs) → Q (.ref c) H') : rSlt (.ref a) lo hi H Q :=
  ⟨a, xs, rfl, e, fun _ => h a H xs (Fx.refl _ _) e (Nat.le_refl _) fun _ z => z, fun _ p hp => h p _ _ (Fx.new _ hp) upd_same (cutV_length xs lo hi) fun _ z => cutV_mem z⟩
theorem cat_go (e1 : H a = some (.tup xs)) (e2 : H b = some (.tup ys)) (sz : xs.length + ys.length ≤ 1000) (h : ∀ c H', Fx [] H H' → H' c = some (.tup (xs ++ ys)) → Q (.ref c) H') : rCatA K (.ref a) (.ref b) H Q := by
  refine ⟨a, b, xs, ys, rfl, rfl, SqT.of e1, SqT.of e2, by rw [sizeLine_eq]; omega, fun hx => ?_, fun hx hy => ?_, fun hx hy p hp => ?_⟩
  · subst hx
    exact h b H (Fx.refl _ _) e2
  · subst hy
    refine h a H (Fx.refl _ _) ?_
    rw [List.append_nil]
    exact e1
  · exact h p _ (Fx.new _ hp) upd_same
theorem rep_go (e : H a = some (.tup xs)) (sz : xs.length ≤ 400) (h : ∀ c H', Fx [] H H' → H' c = some (.tup (xs ++ xs)) → Q (.ref c) H') : rRepA K (.ref a) (.int 2) H Q := by
  refine ⟨a, 2, xs, rfl, rfl, SqT.of e, by omega, by omega, by omega, fun hx => ?_, fun hx p hp => ?_⟩
  · subst hx
    exact h a H (Fx.refl _ _) e
  · refine h p _ (Fx.new _ hp) ?_
    rw [upd_same]
    show some (HO.tup (xs ++ (xs ++ []))) = _
    rw [List.append_nil]
end
end LT
namespace LT
open PySem PySem.Spec PyProof.Rows L2
section
variable {H H0 : Hp} {σ : L2.St} {K : PySem.W.Frag} {tl tr te : TE} {ls : List (List V)} {l : List V} {v : V} {d : D}
theorem Rp.flat (h : Rp H v d) : flatB v = true ∨ ∃ a, v = .ref a := by
  cases h <;> first | exact .inl rfl | exact .inr ⟨_, rfl⟩
/-- two lists of lists, equal: != -/
theorem el_neL {Q : VK} (a : El (IsL IsV) H0 σ tl ls) (b : El (IsL IsV) H0 σ tr ls) (ok : ∀ l ∈ ls, ∀ x ∈ l, flatB x = true ∨ ∃ a, x = .ref a) (q : ∀ H', Fx [] H0 H' → Q (.bl false) H') : tOp (rLsT K false) tl tr σ H0 Q :=
  a H0 _ (Fx.refl _ _) fun x H1 f1 ⟨a, xs, ex, e, p⟩ => b H1 _ f1 fun y H2 f2 ⟨b, ys, ey, e', p'⟩ =>
    ⟨a, b, xs, ys, 2, ex, ey, SqL.of (f2.all e), SqL.of e', by decide, isV_eq (paired_fx mono_IsV f2 p) p' ok, q _ (f1.trans f2)⟩
theorem paired_rep {F : List V → V → Prop} {x : V} (h : F l x) : ∀ n, Paired F (List.replicate n l) (List.replicate n x)
  | 0 => .nil
  | n + 1 => .cons h (paired_rep h n)
/-- [t] * n, t a list -/
theorem el_repL (n : Nat) (hn : n ≤ 1000) (e : El IsV H0 σ te l) (k : Int) (hk : k = n) : El (IsL IsV) H0 σ (tOp rRep (tLst (tCons te tNil)) (tC (.int k))) (List.replicate n l) := by
  intro H Q f q
  subst hk
  refine e H _ f fun x H1 f1 hx => ?_
  refine ⟨Nat.le_trans (show 1 ≤ 1000 by decide) (by rw [sizeLine_eq]; decide), fun p hp => ⟨p, n, [x], rfl, rfl, upd_same, by omega, by omega, ?_, fun a ha => ?_⟩⟩
  · rw [sizeLine_eq]
    show 1 * n ≤ _
    omega
  · have g := (Fx.new (o := .lst [x]) [] hp).trans (Fx.new (o := .lst (List.replicate n [x]).flatten) [] ha)
    have e2 : ∀ n, (List.replicate n [x]).flatten = List.replicate n x := by
      intro n
      induction n with
      | zero => rfl
      | succ n ih =>
        rw [List.replicate_succ, List.flatten_cons, ih]
        rfl
    refine q _ _ (f1.trans g) ⟨a, List.replicate n x, rfl, ?_, paired_rep (mono_IsV _ _ _ _ g hx) n⟩
    rw [upd_same]
    show some (HO.lst (List.replicate n [x]).flatten) = _
    rw [e2]
end
theorem sm_short2 {n : Nat} (hn : n ≤ 1000000) {ds : List D} (h : sm 3 n (.tup ds)) : ∀ x ∈ ds, (match x with | .tup es => es.length ≤ 1000000 ∧ ∀ y ∈ es, short y | _ => True) := by
  intro x hx
  have h2 := h.2 x hx
  cases x with
  | tup es =>
    refine ⟨Nat.le_trans h2.1 hn, fun y hy => ?_⟩
    have h3 := h2.2 y hy
    cases y with
    | tup fs => exact Nat.le_trans h3.1 hn
    | _ => trivial
  | _ => trivial
theorem sm_short {n k : Nat} (hn : n ≤ 1000000) {d : D} (h : sm (k + 1) n d) : short d := by
  cases d with
  | tup ds => exact Nat.le_trans h.1 hn
  | _ => trivial
end LT
namespace LT
open PySem PySem.Spec PyProof.Rows L2
/-! ## displays that stand for data -/
/-- what a display holds, one of it drawn -/
theorem pick {A : Type} {R : Hp → A → V → Prop} {H : Hp} {σ : L2.St} {ts : TA} {ps : List A} {p : Addr} {N : Nat} {Q : VK} (m : MonoR R) (m' : ∀ H H' q x, Fx [p] H H' → R H q x → R H' q x) (es : Els R H σ ts ps) (hσ : σ[0]? = some (some (.ref p))) (pu : Pu N H p) (hN : N ≤ 900000000000)
    (n : Int) (hn : n = ps.length) (h3 : decide (ps.length ≠ 3 ∧ 0 < ps.length ∧ ps.length ≤ 1000) = true) (h : ∀ q v H', q ∈ ps → Fx [p] H H' → Pu (N + 1) H' p → R H' q v → Q v H') :
    tOp rIxl (tLst ts) (tCall spDraw [] E0 (tCons (tVar 0) (tCons (tC (.int n)) tNil))) σ H Q := by
  obtain ⟨k3, k0, k1⟩ := of_decide_eq_true h3
  refine es H _ (Fx.refl _ _) fun xs H1 f1 pr => ⟨by rw [paired_len pr, sizeLine_eq]; omega, fun a ha => ?_⟩
  have hl : xs.length = ps.length := paired_len pr
  have fa := Fx.new (o := .lst xs) [] ha
  have ea : upd H1 a (.lst xs) a = some (.lst xs) := upd_same
  have pr2 := paired_fx m fa pr
  generalize upd H1 a (.lst xs) = H2 at *
  have pu2 := (pu.fx f1 (fun z => nomatch z)).fx fa (fun z => nomatch z)
  have ne : a ∉ [p] := by
    intro z
    rw [List.mem_singleton] at z
    subst z
    obtain ⟨c1, c2, c3, e, _⟩ := pu2
    rw [ea] at e
    have e' := HO.lst.inj (Option.some.inj e)
    rw [e'] at hl
    exact k3 hl.symm
  refine ⟨_, hσ, p, n, N, rfl, by omega, by omega, pu2, by omega, fun d H3 d0 d1 f3 pu3 => ?_⟩
  have hd : d.toNat < xs.length := by omega
  have hx : xs[d.toNat]? = some xs[d.toNat] := List.getElem?_eq_getElem hd
  have key : ∀ {ps : List A} {xs : List V} {i : Nat} {x : V}, Paired (R H2) ps xs → xs[i]? = some x → ∃ q, q ∈ ps ∧ R H2 q x := by
    intro ps xs i x h
    induction h generalizing i with
    | nil => intro e; simp at e
    | cons a r ih =>
      intro e
      cases i with
      | zero =>
        cases e
        exact ⟨_, List.mem_cons_self, a⟩
      | succ i =>
        obtain ⟨q, hq, r⟩ := ih e
        exact ⟨q, List.mem_cons_of_mem _ hq, r⟩
  obtain ⟨q, hq, r⟩ := key pr2 hx
  exact ⟨a, xs, d, _, rfl, rfl, f3.keep a _ ne ea, atI_of d0 hx, h q _ _ hq ((f1.trans fa).any.trans f3) pu3 (m' _ _ _ _ f3 r)⟩
def RpR (H : Hp) (d : D) (x : V) : Prop := Rp H x d
theorem mono_RpR : MonoR RpR := fun _ _ _ _ f h => f.rp h
theorem rpR_all {H : Hp} : ∀ {ds : List D} {xs : List V}, Paired (RpR H) ds xs → RpAll H xs ds
  | _, _, .nil => .nil
  | _, _, .cons a r => .cons a (rpR_all r)
section
variable {H H0 : Hp} {σ : L2.St} {v : V} {t t1 t2 : TE} {ts : TA} {d : D} {ds es : List D} {j : Nat} {K : PySem.W.Frag}
theorem el_rpC (h : ∀ H, Rp H v d) : El RpR H0 σ (tC v) d := fun H Q _ q => q v H (Fx.refl _ _) (h H)
theorem el_rpV (hs : σ[j]? = some (some v)) (h : Rp H0 v d) : El RpR H0 σ (tVar j) d := fun H Q f q => ⟨v, hs, q v H (Fx.refl _ _) (f.rp h)⟩
theorem el_rpN {i : Int} : El RpR H0 σ (tUn (rU fun i => .int (-i)) (tC (.int i))) (.int (-i)) := fun H Q _ q => ⟨i, rfl, q _ _ (Fx.refl _ _) (.int _)⟩
theorem el_rpT (es : Els RpR H0 σ ts ds) (sz : ds.length ≤ 1000) : El RpR H0 σ (tTup ts) (.tup ds) := fun H Q f q =>
  es H _ f fun xs H1 f1 pr => ⟨by rw [paired_len pr, sizeLine_eq]; omega, fun a ha => q _ _ (f1.trans (Fx.new _ ha)) (.tup upd_same ((Fx.new [] ha).rpAll (rpR_all pr)))⟩
theorem el_rpCat (a : El RpR H0 σ t1 (.tup ds)) (b : El RpR H0 σ t2 (.tup es)) (sz : ds.length + es.length ≤ 1000) : El RpR H0 σ (tOp (rCatA K) t1 t2) (.tup (ds ++ es)) := fun H Q f q =>
  a H _ f fun x H1 f1 rx => b H1 _ (f.trans f1) fun y H2 f2 ry => by
    obtain ⟨p, xs, rfl, e1, r1⟩ := (f2.rp rx).tup_inv
    obtain ⟨p', ys, rfl, e2, r2⟩ := Rp.tup_inv ry
    refine cat_go e1 e2 (by rw [r1.len, r2.len]; exact sz) fun c H3 f3 e3 => q _ _ (f1.trans (f2.trans f3)) (.tup e3 ?_)
    have app : ∀ {as : List V} {ds : List D}, RpAll H3 as ds → RpAll H3 (as ++ ys) (ds ++ es) := by
      intro as
      induction as with
      | nil =>
        intro ds h
        cases h
        exact f3.rpAll r2
      | cons x as ih =>
        intro ds h
        cases h with
        | cons h1 h2 => exact .cons h1 (ih h2)
    exact app (f3.rpAll r1)
/-- (d,) * n -/
theorem el_rpRep (n : Nat) (h2 : 2 ≤ n) (hn : n ≤ 1000) (a : El RpR H0 σ t (.tup [d])) (k : Int) (hk : k = n) : El RpR H0 σ (tOp (rRepT K) t (tC (.int k))) (.tup (List.replicate n d)) := fun H Q f q =>
  a H _ f fun x H1 f1 rx => by
    subst hk
    obtain ⟨p, xs, rfl, e1, r1⟩ := Rp.tup_inv rx
    cases r1 with
    | @cons y _ _ _ hy r2 =>
      cases r2
      refine ⟨p, n, [y], rfl, rfl, SqT.of e1, (fun z => nomatch z), by omega, by omega, (show 1 ≤ 1000 by decide), fun c hc => q _ _ (f1.trans (Fx.new _ hc)) (.tup upd_same ?_)⟩
      have e2 : ∀ n, (List.replicate n [y]).flatten = List.replicate n y := by
        intro n
        induction n with
        | zero => rfl
        | succ n ih =>
          rw [List.replicate_succ, List.flatten_cons, ih]
          rfl
      show RpAll (upd H1 c (.tup (List.replicate n [y]).flatten)) (List.replicate n [y]).flatten _
      rw [e2]
      generalize hH : upd H1 c (.tup (List.replicate n y)) = H2
      have hy2 : Rp H2 y d := hH ▸ (Fx.new [] hc).rp hy
      have all : ∀ n, RpAll H2 (List.replicate n y) (List.replicate n d) := by
        intro n
        induction n with
        | zero => exact .nil
        | succ n ih => exact .cons hy2 ih
      exact all n
end
end LT
namespace LT
open PySem PySem.Spec PyProof.Rows L2
section
variable {J : It} {n : Nat} {G : Hp → Prop} {Y : Nat → Hp → V → Hp → Prop} {g : TG} {tt : TT} {te : TE} {tb : TS} {vs : List Nat} {σ : L2.St} {H1 H : Hp} {D : Addr} {Qd : Hp → Prop} {Q : VK} {wi : TI} {Dn : Ends} {M : List Addr}
/-- a comprehension, the list that is being made told at each turn -/
theorem lc_newD (w : Walk J n G Y) (hn : n ≤ 1000000) (hD : H1 D = none) (hM : ∀ b, b ∈ M → H1 b ≠ none) (R : Nat → Hp → List V → Prop)
    (hR : ∀ i H H' ys, Fx M H1 H → Fx [D] H H' → R i H ys → R i H' ys) (h0 : R 0 H1 [])
    (hG : ∀ i H ys, i ≤ n → Fx M H1 H → R i H ys → G H)
    (hs : ∀ i x H H' ys (N : V → Hp → Prop) (N' : Hp → Prop), i < n → Fx M H1 H → R i H ys → H D = some (.lst ys) → Y i H x H' →
      (∀ y H4, Fx M H H4 → R (i + 1) H4 (ys ++ [y]) → N y H4) → (∀ H4, Fx M H H4 → R (i + 1) H4 ys → N' H4) →
      g x (wipe σ vs) H' fun σ2 H2 => wipe σ2 vs = wipe σ vs ∧ tt σ2 H2 fun b H3 => if b = true then te σ2 H3 N else N' H3)
    (hd : ∀ H ys, Fx M H1 H → R n H ys → H D = some (.lst ys) → Qd H) : LcGo J g tt te vs σ H1 D Qd := by
  have hDM : D ∉ M := fun z => hM D z hD
  refine lc_it w (fun i H => ∃ ys, ys.length ≤ i ∧ H D = some (.lst ys) ∧ Fx M H1 H ∧ R i H ys) ?_ ?_ ?_ ?_
  · refine ⟨[], Nat.le_refl _, upd_same, Fx.new M hD, ?_⟩
    have f : Fx [D] (upd H1 D (.lst [])) (upd H1 D (.lst [])) := Fx.refl _ _
    refine hR 0 H1 _ [] (Fx.refl _ _) ?_ h0
    exact Fx.new [D] hD
  · rintro i H hi ⟨ys, _, _, f, r⟩
    exact hG i H ys hi f r
  · rintro i x H H' hi ⟨ys, hl, hy, f, r⟩ hY
    refine hs i x H H' ys _ _ hi f r hy hY ?_ ?_
    · intro y H4 f4 r4
      have e4 : H4 D = some (.lst ys) := f4.keep D _ hDM hy
      refine ⟨ys, e4, small_line (by omega), ys ++ [y], ?_, upd_same, (f.trans f4).putNew hD e4, ?_⟩
      · rw [List.length_append, List.length_singleton]
        omega
      · exact hR _ H4 _ _ (f.trans f4) (Fx.put List.mem_cons_self e4) r4
    · intro H4 f4 r4
      exact ⟨ys, Nat.le_succ_of_le hl, f4.keep D _ hDM hy, f.trans f4, r4⟩
  · rintro H ⟨ys, _, hy, f, r⟩
    exact hd H ys f r hy
end
end LT
namespace VL
open PySem PySem.Spec PyProof.Rows L2
/-! ## data by value -/
/-- data; a dict by its keys and values in their order; an instance by its class's name, its attributes' names and values -/
inductive D where
  | non | bl (b : Bool) | int (i : Int) | str (s : Str) | tup (ds : List D) | lst (ds : List D) | dct (ks vs : List D) | ins (c : Str) (fs : List Str) (vs : List D)
  /-- a list of the outside, a built-in class, an own class -/
  | frl (ds : List D) | ty (n : String) | cls (c : Str)
/-- a result: a value, an error of an own class with its fields, or stuck -/
inductive Res (α : Type) where
  | ok (a : α) | er (c : Str) (fs : List Str) (vs : List D) | st
def Res.bind {α β : Type} (r : Res α) (f : α → Res β) : Res β := match r with
  | .ok a => f a
  | .er c fs vs => .er c fs vs
  | .st => .st
instance : Monad Res where
  pure := .ok
  bind := Res.bind
/-- what is known of the surroundings: the written part, the module's names -/
structure Cf where
  K : PySem.W.Frag
  mg : Str → Option Value
abbrev Hs := Addr → Prop
/-- behind it all stands as it was, but what is at M -/
structure Ex (M : Hs) (H H' : Hp) : Prop where
  keep : ∀ b o, H b = some o → ¬ M b → H' b = some o
  tup : ∀ b xs, H b = some (.tup xs) → H' b = some (.tup xs)
theorem Ex.refl {M : Hs} {H : Hp} : Ex M H H := ⟨fun _ _ e _ => e, fun _ _ e => e⟩
theorem Ex.trans {M : Hs} {H H1 H2 : Hp} (a : Ex M H H1) (b : Ex M H1 H2) : Ex M H H2 := ⟨fun x o e n => b.keep x o (a.keep x o e n) n, fun x xs e => b.tup x xs (a.tup x xs e)⟩
theorem Ex.mono {M M' : Hs} {H H' : Hp} (a : Ex M H H') (h : ∀ b, M b → M' b) : Ex M' H H' := ⟨fun x o e n => a.keep x o e fun z => n (h x z), a.tup⟩
theorem Ex.new {M : Hs} {H : Hp} {p : Addr} {o : HO} (h : H p = none) : Ex M H (upd H p o) := ⟨fun b u e _ => (upd_ne (ne_of_none e h)).trans e, fun b xs e => (upd_ne (ne_of_none e h)).trans e⟩
theorem Ex.put {M : Hs} {H : Hp} {p : Addr} {o u : HO} (hm : M p) (h : H p = some u) (hu : ∀ xs, u ≠ .tup xs) : Ex M H (upd H p o) := ⟨fun b v e n => (upd_ne (by rintro rfl; exact n hm)).trans e, fun b xs e => by
  have ne : b ≠ p := by
    rintro rfl
    rw [h] at e; cases e; exact hu xs rfl
  exact (upd_ne ne).trans e⟩
/-- what was not there when it began may change -/
theorem Ex.fresh {M N : Hs} {H H1 H2 : Hp} (a : Ex M H H1) (b : Ex N H1 H2) (h : ∀ x, N x → M x ∨ H x = none) : Ex M H H2 := ⟨fun x o e n => b.keep x o (a.keep x o e n) fun z => (h x z).elim n fun q => (by rw [q] at e; cases e), fun x xs e => b.tup x xs (a.tup x xs e)⟩
theorem Ex.there {M : Hs} {H H' : Hp} {b : Addr} (a : Ex M H H') (hn : H' b = none) (m : ¬ M b) : H b = none := by
  cases e : H b with
  | none => rfl
  | some o => have := a.keep b o e m; rw [hn] at this; cases this
theorem Ex.rd {M : Hs} {H H' : Hp} {b : Addr} {u : HO} (a : Ex M H H') (n : ¬ M b) (h : Rd H b u) : Rd H' b u := h.imp (fun e => a.keep b _ e n) fun ⟨x, e⟩ => ⟨x, a.keep b _ e n⟩
/-- a tuple: tracked, or of the written part -/
def KTp (K : PySem.W.Frag) (a : Addr) (xs : List V) : Prop := ∃ (o : Obj) (its : Array Value) (n : Nat), K.lookup a = some o ∧ o.cls = .type "tuple" ∧ o.data = .seq its n ∧ its.size ≤ sizeLine ∧ Vals xs its.toList
def TpAt (K : PySem.W.Frag) (H : Hp) (a : Addr) (xs : List V) : Prop := H a = some (.tup xs) ∨ KTp K a xs
theorem TpAt.sqt {K : PySem.W.Frag} {H : Hp} {a : Addr} {xs : List V} (h : TpAt K H a xs) : SqT K H a xs := h.imp .inl id
theorem Ex.tpt {M : Hs} {K : PySem.W.Frag} {H H' : Hp} {b : Addr} {xs : List V} (a : Ex M H H') (h : TpAt K H b xs) : TpAt K H' b xs := h.imp (a.tup b xs) id
/-- a list that is read: tracked and not open, or of the written part -/
def KLs (K : PySem.W.Frag) (a : Addr) (xs : List V) : Prop := ∃ (o : Obj) (its : Array Value) (n : Nat), K.lookup a = some o ∧ o.cls = .type "list" ∧ o.dict = none ∧ o.data = .seq its n ∧ its.size ≤ sizeLine ∧ Vals xs its.toList
def LsAt (K : PySem.W.Frag) (O : Hs) (H : Hp) (a : Addr) (xs : List V) : Prop := (¬ O a ∧ Rd H a (.lst xs)) ∨ KLs K a xs
theorem LsAt.sql {K : PySem.W.Frag} {O : Hs} {H : Hp} {a : Addr} {xs : List V} (h : LsAt K O H a xs) : SqL K H a xs := h.imp (·.2) id
theorem rd_some {H : Hp} {a : Addr} {u : HO} (h : Rd H a u) : H a ≠ none := by
  rcases h with h | ⟨x, h⟩ <;> rw [h] <;> exact fun z => nomatch z
/-- a dict's keys -/
def kD : Key → D
  | .inl i => .int i
  | .inr x => .str x
mutual
/-- v stands for d in H; no list, dict or instance of it is open (at O) -/
inductive Rp (C : Cf) (O : Hs) (H : Hp) : V → D → Prop
  | non : Rp C O H .non .non
  | bl (b : Bool) : Rp C O H (.bl b) (.bl b)
  | int (i : Int) : Rp C O H (.int i) (.int i)
  | str (x : Str) : Rp C O H (.str x) (.str x)
  | tup {a : Addr} {xs : List V} {ds : List D} : TpAt C.K H a xs → RpL C O H xs ds → Rp C O H (.ref a) (.tup ds)
  | lst {a : Addr} {xs : List V} {ds : List D} : ¬ O a → H a = some (.lst xs) → RpL C O H xs ds → Rp C O H (.ref a) (.lst ds)
  | frl {a : Addr} {xs : List V} {ds : List D} : LsAt C.K O H a xs → RpL C O H xs ds → Rp C O H (.ref a) (.frl ds)
  | ty (n : String) : Rp C O H (.ty n) (.ty n)
  | cls {cl : Addr} {c : Str} : C.mg c = some (.ref cl) → Rp C O H (.ref cl) (.cls c)
  | dct {a : Addr} {kvs : List (Key × V)} {ks ds : List D} : ¬ O a → H a = some (.dK kvs) → ks = kvs.map (fun p => kD p.1) → RpL C O H (kvs.map (·.2)) ds → Rp C O H (.ref a) (.dct ks ds)
  | ins {a cl dx : Addr} {fvs : List (Str × V)} {c : Str} {fs : List Str} {ds : List D} : ¬ O a → H a = some (.ins cl dx fvs) → C.mg c = some (.ref cl) → fs = fvs.map (·.1) → RpL C O H (fvs.map (·.2)) ds → Rp C O H (.ref a) (.ins c fs ds)
inductive RpL (C : Cf) (O : Hs) (H : Hp) : List V → List D → Prop
  | nil : RpL C O H [] []
  | cons {v : V} {vs : List V} {d : D} {ds : List D} : Rp C O H v d → RpL C O H vs ds → RpL C O H (v :: vs) (d :: ds)
end
section
variable {C : Cf} {O O' M : Hs} {H H' : Hp}
mutual
theorem Rp.ex (f : Ex M H H') (hm : ∀ b, M b → O b) (ho : ∀ b, O' b → O b ∨ H b = none) : ∀ {v : V} {d : D}, Rp C O H v d → Rp C O' H' v d
  | _, _, .non => .non
  | _, _, .bl b => .bl b
  | _, _, .int i => .int i
  | _, _, .str x => .str x
  | _, _, .tup e r => .tup (f.tpt e) (Rp.exL f hm ho r)
  | _, _, .lst n e r => .lst (fun z => (ho _ z).elim n fun z => by rw [z] at e; cases e) (f.keep _ _ e (fun z => n (hm _ z))) (Rp.exL f hm ho r)
  | _, _, .ty n => .ty n
  | _, _, .cls e => .cls e
  | _, _, .frl e r => .frl (e.imp (fun e => ⟨fun z => (ho _ z).elim e.1 (rd_some e.2), f.rd (fun z => e.1 (hm _ z)) e.2⟩) id) (Rp.exL f hm ho r)
  | _, _, .dct n e k r => .dct (fun z => (ho _ z).elim n fun z => by rw [z] at e; cases e) (f.keep _ _ e (fun z => n (hm _ z))) k (Rp.exL f hm ho r)
  | _, _, .ins n e g k r => .ins (fun z => (ho _ z).elim n fun z => by rw [z] at e; cases e) (f.keep _ _ e (fun z => n (hm _ z))) g k (Rp.exL f hm ho r)
theorem Rp.exL (f : Ex M H H') (hm : ∀ b, M b → O b) (ho : ∀ b, O' b → O b ∨ H b = none) : ∀ {vs : List V} {ds : List D}, RpL C O H vs ds → RpL C O' H' vs ds
  | _, _, .nil => .nil
  | _, _, .cons a b => .cons (Rp.ex f hm ho a) (Rp.exL f hm ho b)
end
end

section
variable {C : Cf} {O O' M : Hs} {H H' : Hp}
theorem RpL.len : ∀ {vs : List V} {ds : List D}, RpL C O H vs ds → vs.length = ds.length
  | _, _, .nil => rfl
  | _, _, .cons _ b => by rw [List.length_cons, List.length_cons, b.len]
theorem RpL.at : ∀ {vs : List V} {ds : List D} {i : Nat} {v : V}, RpL C O H vs ds → vs[i]? = some v → ∃ d, ds[i]? = some d ∧ Rp C O H v d
  | _, _, _, _, .nil, h => by simp at h
  | _, _, 0, _, .cons a _, h => ⟨_, rfl, by cases h; exact a⟩
  | _, _, i + 1, _, .cons _ b, h => RpL.at (i := i) b h
theorem RpL.atD : ∀ {vs : List V} {ds : List D} {i : Nat} {d : D}, RpL C O H vs ds → ds[i]? = some d → ∃ v, vs[i]? = some v ∧ Rp C O H v d
  | _, _, _, _, .nil, h => by simp at h
  | _, _, 0, _, .cons a _, h => ⟨_, rfl, by cases h; exact a⟩
  | _, _, i + 1, _, .cons _ b, h => RpL.atD (i := i) b h
theorem RpL.app : ∀ {vs us : List V} {ds es : List D}, RpL C O H vs ds → RpL C O H us es → RpL C O H (vs ++ us) (ds ++ es)
  | _, _, _, _, .nil, h => h
  | _, _, _, _, .cons a b, h => .cons a (b.app h)
theorem RpL.snoc {vs : List V} {ds : List D} {v : V} {d : D} (h : RpL C O H vs ds) (g : Rp C O H v d) : RpL C O H (vs ++ [v]) (ds ++ [d]) := h.app (.cons g .nil)
theorem RpL.set : ∀ {vs : List V} {ds : List D} {v : V} {d : D} (i : Nat), RpL C O H vs ds → Rp C O H v d → RpL C O H (vs.set i v) (ds.set i d)
  | _, _, _, _, _, .nil, _ => .nil
  | _, _, _, _, 0, .cons _ b, g => .cons g b
  | _, _, _, _, i + 1, .cons a b, g => .cons a (b.set i g)
theorem RpL.take : ∀ {vs : List V} {ds : List D} (n : Nat), RpL C O H vs ds → RpL C O H (vs.take n) (ds.take n)
  | _, _, 0, _ => .nil
  | _, _, _ + 1, .nil => .nil
  | _, _, n + 1, .cons a b => .cons a (b.take n)
theorem RpL.drop : ∀ {vs : List V} {ds : List D} (n : Nat), RpL C O H vs ds → RpL C O H (vs.drop n) (ds.drop n)
  | _, _, 0, h => h
  | _, _, _ + 1, .nil => .nil
  | _, _, n + 1, .cons _ b => RpL.drop n b
theorem RpL.rev {vs : List V} {ds : List D} (h : RpL C O H vs ds) : RpL C O H vs.reverse ds.reverse := by
  induction h using RpL.rec (motive_1 := fun _ _ _ => True) with
  | nil => exact .nil
  | cons a b _ ih => rw [List.reverse_cons, List.reverse_cons]; exact RpL.snoc ih a
  | _ => trivial
/-- what is open grows by what is new; it may shrink -/
theorem Rp.less (h : ∀ b, O' b → O b) {v : V} {d : D} (r : Rp C O H v d) : Rp C O' H v d := r.ex (M := fun _ => False) Ex.refl (fun _ z => z.elim) fun b z => .inl (h b z)
theorem RpL.less (h : ∀ b, O' b → O b) {v : List V} {d : List D} (r : RpL C O H v d) : RpL C O' H v d := Rp.exL (M := fun _ => False) Ex.refl (fun _ z => z.elim) (fun b z => .inl (h b z)) r
theorem Rp.keep (f : Ex M H H') (h : ∀ b, M b → O b) {v : V} {d : D} (r : Rp C O H v d) : Rp C O H' v d := r.ex f h fun b z => .inl z
theorem RpL.keep (f : Ex M H H') (h : ∀ b, M b → O b) {v : List V} {d : List D} (r : RpL C O H v d) : RpL C O H' v d := Rp.exL f h (fun b z => .inl z) r
/-- what stands at an open place -/
inductive Own (C : Cf) (O : Hs) (H : Hp) (p : Addr) : D → Prop
  | lst {xs : List V} {ds : List D} : H p = some (.lst xs) → RpL C O H xs ds → Own C O H p (.lst ds)
  | dct {kvs : List (Key × V)} {ks ds : List D} : H p = some (.dK kvs) → ks = kvs.map (fun p => kD p.1) → RpL C O H (kvs.map (·.2)) ds → Own C O H p (.dct ks ds)
  | ins {cl dx : Addr} {fvs : List (Str × V)} {c : Str} {fs : List Str} {ds : List D} : H p = some (.ins cl dx fvs) → C.mg c = some (.ref cl) → fs = fvs.map (·.1) → RpL C O H (fvs.map (·.2)) ds → Own C O H p (.ins c fs ds)
theorem Own.some {p : Addr} {d : D} (h : Own C O H p d) : H p ≠ none := by
  cases h with
  | lst e _ => rw [e]; exact fun z => nomatch z
  | dct e _ _ => rw [e]; exact fun z => nomatch z
  | ins e _ _ _ => rw [e]; exact fun z => nomatch z
/-- it is no longer open -/
theorem Own.rp {p : Addr} {d : D} (h : Own C O H p d) (hl : ∀ b, O' b → O b) (n : ¬ O' p) : Rp C O' H (.ref p) d := by
  cases h with
  | lst e r => exact .lst n e (r.less hl)
  | dct e k r => exact .dct n e k (r.less hl)
  | ins e g k r => exact .ins n e g k (r.less hl)
/-- it stays: the place itself is not among what may change -/
theorem Own.ex {p : Addr} {d : D} (h : Own C O H p d) (f : Ex M H H') (hm : ∀ b, M b → O b) (ho : ∀ b, O' b → O b ∨ H b = none) (hp : H p = H' p) : Own C O' H' p d := by
  cases h with
  | lst e r => exact .lst (hp.symm.trans e) (Rp.exL f hm ho r)
  | dct e k r => exact .dct (hp.symm.trans e) k (Rp.exL f hm ho r)
  | ins e g k r => exact .ins (hp.symm.trans e) g k (Rp.exL f hm ho r)
/-- .. where nothing of it may change -/
theorem Own.exN {p : Addr} {d : D} (h : Own C O H p d) (f : Ex M H H') (hm : ∀ b, M b → O b) (ho : ∀ b, O' b → O b ∨ H b = none) (hp : ¬ M p) : Own C O' H' p d := by
  cases h with
  | lst e r => exact .lst (f.keep p _ e hp) (Rp.exL f hm ho r)
  | dct e k r => exact .dct (f.keep p _ e hp) k (Rp.exL f hm ho r)
  | ins e g k r => exact .ins (f.keep p _ e hp) g k (Rp.exL f hm ho r)
theorem Own.less {p : Addr} {d : D} (h : Own C O H p d) (hl : ∀ b, O' b → O b) : Own C O' H p d := h.exN (M := fun _ => False) Ex.refl (fun _ z => z.elim) (fun b z => .inl (hl b z)) id
end
end VL
namespace VL
open PySem PySem.Spec PyProof.Rows L2
/-! ## names' values -/
abbrev Env := List (Option D)
/-- what an expression gives: data, or the open thing of a slot -/
inductive W where
  | d (x : D) | o (k : Nat)
abbrev G := Env → Res (W × Env)
inductive Fl where
  | nx (ρ : Env) | rt (d : D) (ρ : Env) | rf (d : D) (ρ : Env) | bk (ρ : Env) | ct (ρ : Env)
abbrev GS := Env → Res Fl
def rs (ρ : Env) : W → Res D
  | .d x => .ok x
  | .o k => match ρ[k]? with
    | some (some x) => .ok x
    | _ => .st
/-- a def's surroundings: the heap at its entry, what is open outside, its inout parameter (slot 0), what was just made, values held on -/
structure Bs where
  H0 : Hp
  O0 : Hs
  m : Option Addr
  T : List (Addr × D)
  px : List (V × D)
def ownA (ow : List Nat) (σ : L2.St) : Hs := fun b => ∃ k, k ∈ ow ∧ σ[k]? = some (some (.ref b))
def Opn (B : Bs) (ow : List Nat) (σ : L2.St) : Hs := fun b => B.O0 b ∨ ownA ow σ b ∨ ∃ d, (b, d) ∈ B.T
structure En (C : Cf) (io : Bool) (B : Bs) (ow : List Nat) (H : Hp) (σ : L2.St) (ρ : Env) : Prop where
  fr : Ex (fun b => B.m = some b) B.H0 H
  o0 : ∀ b, B.O0 b → B.H0 b ≠ none
  iom : if io = true then ∃ p, B.m = some p ∧ B.O0 p ∧ 0 ∈ ow ∧ σ[0]? = some (some (.ref p)) else B.m = none
  len : σ.length = ρ.length
  val : ∀ i d, ρ[i]? = some (some d) → i ∉ ow → ∃ v, σ[i]? = some (some v) ∧ Rp C (Opn B ow σ) H v d
  own : ∀ i, i ∈ ow → ∃ p d, ρ[i]? = some (some d) ∧ σ[i]? = some (some (.ref p)) ∧ Own C (Opn B ow σ) H p d ∧ (B.H0 p = none ∨ (i = 0 ∧ B.m = some p))
  dis : ∀ i j p, i ∈ ow → j ∈ ow → σ[i]? = some (some (.ref p)) → σ[j]? = some (some (.ref p)) → i = j
  tmp : ∀ p d, (p, d) ∈ B.T → B.H0 p = none ∧ ¬ ownA ow σ p ∧ Own C (Opn B ow σ) H p d
  tnd : (B.T.map (·.1)).Nodup
  pin : ∀ q, q ∈ B.px → Rp C (Opn B ow σ) H q.1 q.2
abbrev Nil : Hs := fun _ => False
section
variable {C : Cf} {io : Bool} {B : Bs} {ow ow' : List Nat} {H H' : Hp} {σ : L2.St} {ρ : Env}
theorem En.there (e : En C io B ow H σ ρ) : ∀ b, Opn B ow σ b → H b ≠ none := by
  rintro b (h | ⟨k, hk, h⟩ | ⟨d, h⟩)
  · by_cases hm : B.m = some b
    · have i := e.iom
      cases io with
      | true =>
        obtain ⟨p, e1, _, hk, e2⟩ := i
        rw [hm] at e1; cases e1
        obtain ⟨q, d, _, e3, o, _⟩ := e.own 0 hk
        rw [e2] at e3; cases e3
        exact o.some
      | false => rw [if_neg Bool.false_ne_true, hm] at i; cases i
    · intro z
      exact e.o0 b h (e.fr.there z hm)
  · obtain ⟨q, d, _, e3, o, _⟩ := e.own k hk
    rw [h] at e3; cases e3
    exact o.some
  · exact (e.tmp b d h).2.2.some
theorem En.m0 (e : En C io B ow H σ ρ) {b : Addr} (h : B.m = some b) : ownA ow σ b := by
  have i := e.iom
  cases io with
  | true =>
    obtain ⟨p, e1, _, hk, e2⟩ := i
    rw [h] at e1; cases e1
    exact ⟨0, hk, e2⟩
  | false => rw [if_neg Bool.false_ne_true, h] at i; cases i
/-- the heap grows -/
theorem En.grow (e : En C io B ow H σ ρ) (f : Ex Nil H H') : En C io B ow H' σ ρ where
  fr := e.fr.trans (f.mono fun _ z => z.elim)
  o0 := e.o0
  iom := e.iom
  len := e.len
  val := fun i d h n => let ⟨v, a, r⟩ := e.val i d h n; ⟨v, a, r.keep f fun _ z => z.elim⟩
  own := fun i h => let ⟨p, d, a, b, o, c⟩ := e.own i h; ⟨p, d, a, b, o.exN f (fun _ z => z.elim) (fun _ z => .inl z) id, c⟩
  dis := e.dis
  tmp := fun p d h => let ⟨a, b, o⟩ := e.tmp p d h; ⟨a, b, o.exN f (fun _ z => z.elim) (fun _ z => .inl z) id⟩
  tnd := e.tnd
  pin := fun q h => (e.pin q h).keep f fun _ z => z.elim
/-- what stands in slot k is changed -/
theorem En.put (e : En C io B ow H σ ρ) {k : Nat} {p : Addr} {d : D} (hk : k ∈ ow) (hs : σ[k]? = some (some (.ref p))) (f : Ex (fun b => b = p) H H') (o : Own C (Opn B ow σ) H' p d) : En C io B ow H' σ (ρ.set k (some d)) := by
  have hm : ∀ b, b = p → Opn B ow σ b := fun b z => by subst z; exact .inr (.inl ⟨k, hk, hs⟩)
  have hp0 : B.H0 p = none ∨ (k = 0 ∧ B.m = some p) := by
    obtain ⟨q, d0, _, e3, _, c⟩ := e.own k hk
    rw [hs] at e3; cases e3
    exact c
  have hlt : k < ρ.length := by
    obtain ⟨q, d0, e4, _⟩ := e.own k hk
    exact (List.getElem?_eq_some_iff.mp e4).1
  exact {
    fr := e.fr.fresh f fun x z => by subst z; exact hp0.elim .inr fun z => .inl z.2
    o0 := e.o0
    iom := e.iom
    len := by rw [List.length_set]; exact e.len
    val := fun i c h n => by
      have ne : k ≠ i := fun z => n (z ▸ hk)
      rw [List.getElem?_set_ne ne] at h
      obtain ⟨v, a, r⟩ := e.val i c h n
      exact ⟨v, a, r.keep f hm⟩
    own := fun i h => by
      obtain ⟨q, c, a, b, u, z⟩ := e.own i h
      by_cases hi : k = i
      · subst hi
        rw [hs] at b; cases b
        exact ⟨p, d, List.getElem?_set_self hlt, hs, o, z⟩
      · refine ⟨q, c, by rw [List.getElem?_set_ne hi]; exact a, b, u.exN f hm (fun _ z => .inl z) fun z => hi ?_, z⟩
        subst z
        exact e.dis k i q hk h hs b
    dis := e.dis
    tmp := fun q c h => by
      obtain ⟨a, b, u⟩ := e.tmp q c h
      exact ⟨a, b, u.exN f hm (fun _ z => .inl z) fun z => b (by subst z; exact ⟨k, hk, hs⟩)⟩
    tnd := e.tnd
    pin := fun q h => (e.pin q h).keep f hm }
theorem ownA_set {i : Nat} {v : V} (hi : i ∉ ow) : ownA ow (σ.set i (some v)) = ownA ow σ := by
  funext b
  apply propext
  constructor
  · rintro ⟨k, hk, h⟩
    have ne : i ≠ k := fun z => hi (z ▸ hk)
    rw [List.getElem?_set_ne ne] at h
    exact ⟨k, hk, h⟩
  · rintro ⟨k, hk, h⟩
    have ne : i ≠ k := fun z => hi (z ▸ hk)
    exact ⟨k, hk, by rw [List.getElem?_set_ne ne]; exact h⟩
theorem opn_set {i : Nat} {v : V} (hi : i ∉ ow) : Opn B ow (σ.set i (some v)) = Opn B ow σ := by
  unfold Opn
  rw [ownA_set hi]
/-- a name gets a value -/
theorem En.set (e : En C io B ow H σ ρ) {i : Nat} {v : V} {d : D} (hi : i ∉ ow) (r : Rp C (Opn B ow σ) H v d) : En C io B ow H (σ.set i (some v)) (ρ.set i (some d)) where
  fr := e.fr
  o0 := e.o0
  iom := by
    have q := e.iom
    cases io with
    | true =>
      obtain ⟨p, e1, e2, hk, e3⟩ := q
      exact ⟨p, e1, e2, hk, by rw [List.getElem?_set_ne (fun (z : i = 0) => hi (z ▸ hk))]; exact e3⟩
    | false => exact q
  len := by rw [List.length_set, List.length_set]; exact e.len
  val := fun j c h n => by
    rw [opn_set hi]
    by_cases hj : i = j
    · subst hj
      rw [List.getElem?_set] at h
      split at h
      · split at h
        · cases h
          rename_i h1 h2
          exact ⟨v, List.getElem?_set_self (by rw [e.len]; exact h2), r⟩
        · cases h
      · contradiction
    · rw [List.getElem?_set_ne hj] at h
      obtain ⟨u, a, q⟩ := e.val j c h n
      exact ⟨u, by rw [List.getElem?_set_ne hj]; exact a, q⟩
  own := fun j h => by
    rw [opn_set hi]
    have ne : i ≠ j := fun z => hi (z ▸ h)
    obtain ⟨p, c, a, b, o, z⟩ := e.own j h
    exact ⟨p, c, by rw [List.getElem?_set_ne ne]; exact a, by rw [List.getElem?_set_ne ne]; exact b, o, z⟩
  dis := fun a b p ha hb h1 h2 => by
    rw [List.getElem?_set_ne (fun (z : i = a) => hi (z ▸ ha))] at h1
    rw [List.getElem?_set_ne (fun (z : i = b) => hi (z ▸ hb))] at h2
    exact e.dis a b p ha hb h1 h2
  tmp := fun p c h => by rw [opn_set hi, ownA_set hi]; exact e.tmp p c h
  tnd := e.tnd
  pin := fun q h => by rw [opn_set hi]; exact e.pin q h
/-- a new thing, held aside -/
theorem En.new (e : En C io B ow H σ ρ) {p : Addr} {d : D} (hp : H p = none) (f : Ex Nil H H') (o : Own C (fun b => Opn B ow σ b ∨ b = p) H' p d) : En C io { B with T := (p, d) :: B.T } ow H' σ ρ := by
  have hO : ∀ b, Opn { B with T := (p, d) :: B.T } ow σ b ↔ (Opn B ow σ b ∨ b = p) := by
    intro b
    constructor
    · rintro (h | h | ⟨c, h⟩)
      · exact .inl (.inl h)
      · exact .inl (.inr (.inl h))
      · rcases List.mem_cons.mp h with h | h
        · cases h; exact .inr rfl
        · exact .inl (.inr (.inr ⟨c, h⟩))
    · rintro ((h | h | ⟨c, h⟩) | h)
      · exact .inl h
      · exact .inr (.inl h)
      · exact .inr (.inr ⟨c, List.mem_cons_of_mem _ h⟩)
      · subst h; exact .inr (.inr ⟨d, List.mem_cons_self⟩)
  have ho : ∀ b, Opn { B with T := (p, d) :: B.T } ow σ b → Opn B ow σ b ∨ H b = none := fun b h => ((hO b).mp h).imp id fun z => by rw [z]; exact hp
  have hno : ¬ Opn B ow σ p := fun z => e.there p z hp
  have hm : ∀ b, Nil b → Opn B ow σ b := fun _ z => z.elim
  exact {
    fr := e.fr.trans (f.mono fun _ z => z.elim)
    o0 := e.o0
    iom := e.iom
    len := e.len
    val := fun i c h n => let ⟨v, a, r⟩ := e.val i c h n; ⟨v, a, r.ex f hm ho⟩
    own := fun i h => let ⟨q, c, a, b, u, z⟩ := e.own i h; ⟨q, c, a, b, u.exN f hm ho id, z⟩
    dis := e.dis
    tmp := fun q c h => by
      rcases List.mem_cons.mp h with h | h
      · cases h
        refine ⟨?_, fun z => hno (.inr (.inl z)), o.less fun b z => (hO b).mp z⟩
        by_cases hm : B.m = some p
        · exact absurd (Or.inr (Or.inl (e.m0 hm))) hno
        · exact e.fr.there hp hm
      · obtain ⟨a, b, u⟩ := e.tmp q c h
        exact ⟨a, b, u.exN f hm ho id⟩
    tnd := by
      show (p :: B.T.map (·.1)).Nodup
      refine List.nodup_cons.mpr ⟨fun z => ?_, e.tnd⟩
      obtain ⟨q, hq, rfl⟩ := List.mem_map.mp z
      exact hno (.inr (.inr ⟨q.2, hq⟩))
    pin := fun q h => (e.pin q h).ex f hm ho }
/-- what was held aside is a value from now on -/
theorem En.old {p : Addr} {d : D} (e : En C io { B with T := (p, d) :: B.T } ow H σ ρ) : En C io B ow H σ ρ ∧ Rp C (Opn B ow σ) H (.ref p) d := by
  have hl : ∀ b, Opn B ow σ b → Opn { B with T := (p, d) :: B.T } ow σ b := by
    rintro b (h | h | ⟨c, h⟩)
    · exact .inl h
    · exact .inr (.inl h)
    · exact .inr (.inr ⟨c, List.mem_cons_of_mem _ h⟩)
  obtain ⟨a, b, o⟩ := e.tmp p d List.mem_cons_self
  have nd : (p :: B.T.map (·.1)).Nodup := e.tnd
  refine ⟨⟨e.fr, e.o0, e.iom, e.len, fun i c h n => ?_, fun i h => ?_, e.dis, fun q c h => ?_, (List.nodup_cons.mp nd).2, fun q h => (e.pin q h).less hl⟩, o.rp hl ?_⟩
  · obtain ⟨v, u, r⟩ := e.val i c h n
    exact ⟨v, u, r.less hl⟩
  · obtain ⟨q, c, u, w, r, z⟩ := e.own i h
    exact ⟨q, c, u, w, r.less hl, z⟩
  · obtain ⟨u, w, r⟩ := e.tmp q c (List.mem_cons_of_mem _ h)
    exact ⟨u, w, r.less hl⟩
  · rintro (z | z | ⟨c, z⟩)
    · exact e.o0 p z a
    · exact b z
    · exact (List.nodup_cons.mp nd).1 (List.mem_map.mpr ⟨(p, c), z, rfl⟩)
/-- open slots are closed -/
theorem En.wk (e : En C io B ow H σ ρ) (hs : ∀ i, i ∈ ow' → i ∈ ow) (h0 : io = true → 0 ∈ ow') : En C io B ow' H σ ρ := by
  have hl : ∀ b, Opn B ow' σ b → Opn B ow σ b := by
    rintro b (h | ⟨k, hk, h⟩ | h)
    · exact .inl h
    · exact .inr (.inl ⟨k, hs k hk, h⟩)
    · exact .inr (.inr h)
  refine ⟨e.fr, e.o0, ?_, e.len, fun i c h n => ?_, fun i h => ?_, fun i j p hi hj => e.dis i j p (hs i hi) (hs j hj), fun q c h => ?_, e.tnd, fun q h => (e.pin q h).less hl⟩
  · have q := e.iom
    cases io with
    | true =>
      obtain ⟨p, e1, e2, hk, e3⟩ := q
      exact ⟨p, e1, e2, h0 rfl, e3⟩
    | false => exact q
  · by_cases ho : i ∈ ow
    · obtain ⟨p, d, a, b, o, z⟩ := e.own i ho
      rw [h] at a; cases a
      refine ⟨_, b, o.rp hl ?_⟩
      have hp : B.H0 p = none := by
        rcases z with z | ⟨z, z1⟩
        · exact z
        · exfalso
          subst z
          cases io with
          | true => exact n (h0 rfl)
          | false => have q := e.iom; rw [if_neg Bool.false_ne_true, z1] at q; cases q
      rintro (z | ⟨k, hk, z⟩ | ⟨c, z⟩)
      · exact e.o0 p z hp
      · exact n (e.dis k i p (hs k hk) ho z b ▸ hk)
      · exact (e.tmp p c z).2.1 ⟨i, ho, b⟩
    · obtain ⟨v, u, r⟩ := e.val i c h ho
      exact ⟨v, u, r.less hl⟩
  · obtain ⟨q, c, u, w, r, z⟩ := e.own i (hs i h)
    exact ⟨q, c, u, w, r.less hl, z⟩
  · obtain ⟨u, w, r⟩ := e.tmp q c h
    exact ⟨u, fun ⟨k, hk, z⟩ => w ⟨k, hs k hk, z⟩, r.less hl⟩
/-- a slot gets what was held aside, and is open -/
def addO (i : Nat) (ow : List Nat) : List Nat := if i ∈ ow then ow else i :: ow
theorem mem_addO {i j : Nat} {ow : List Nat} : j ∈ addO i ow ↔ j = i ∨ j ∈ ow := by
  unfold addO
  split
  · constructor
    · exact .inr
    · rintro (rfl | h)
      · assumption
      · exact h
  · exact List.mem_cons
theorem En.setO {p : Addr} {d : D} (e : En C io { B with T := (p, d) :: B.T } ow H σ ρ) {i : Nat} (hi : i < ρ.length) (h0 : io = true → i ≠ 0) : En C io B (addO i ow) H (σ.set i (some (.ref p))) (ρ.set i (some d)) := by
  obtain ⟨tp, tn, to⟩ := e.tmp p d List.mem_cons_self
  have nd : (p :: B.T.map (·.1)).Nodup := e.tnd
  have hi' : i < σ.length := by rw [e.len]; exact hi
  have hl : ∀ b, Opn B (addO i ow) (σ.set i (some (.ref p))) b → Opn { B with T := (p, d) :: B.T } ow σ b := by
    rintro b (h | ⟨k, hk, h⟩ | ⟨c, h⟩)
    · exact .inl h
    · by_cases hki : i = k
      · subst hki
        rw [List.getElem?_set_self hi'] at h
        cases h
        exact .inr (.inr ⟨d, List.mem_cons_self⟩)
      · rw [List.getElem?_set_ne hki] at h
        rcases mem_addO.mp hk with rfl | hk
        · exact absurd rfl hki
        · exact .inr (.inl ⟨k, hk, h⟩)
    · exact .inr (.inr ⟨c, List.mem_cons_of_mem _ h⟩)
  refine ⟨e.fr, e.o0, ?_, by rw [List.length_set, List.length_set]; exact e.len, fun j c h n => ?_, fun j h => ?_, fun a b q ha hb h1 h2 => ?_, fun q c h => ?_, (List.nodup_cons.mp nd).2, fun q h => (e.pin q h).less hl⟩
  · have q := e.iom
    cases io with
    | true =>
      obtain ⟨p, e1, e2, hk, e3⟩ := q
      exact ⟨p, e1, e2, mem_addO.mpr (.inr hk), by rw [List.getElem?_set_ne (h0 rfl)]; exact e3⟩
    | false => exact q
  · have ne : i ≠ j := fun z => n (mem_addO.mpr (.inl z.symm))
    rw [List.getElem?_set_ne ne] at h
    obtain ⟨v, u, r⟩ := e.val j c h fun z => n (mem_addO.mpr (.inr z))
    exact ⟨v, by rw [List.getElem?_set_ne ne]; exact u, r.less hl⟩
  · by_cases hij : i = j
    · subst hij
      exact ⟨p, d, List.getElem?_set_self hi, List.getElem?_set_self hi', to.less hl, .inl tp⟩
    · rcases mem_addO.mp h with rfl | h
      · exact absurd rfl hij
      · obtain ⟨q, c, u, w, r, z⟩ := e.own j h
        exact ⟨q, c, by rw [List.getElem?_set_ne hij]; exact u, by rw [List.getElem?_set_ne hij]; exact w, r.less hl, z⟩
  · have key : ∀ a, a ∈ addO i ow → (σ.set i (some (.ref p)))[a]? = some (some (.ref q)) → (a = i ∧ q = p) ∨ (a ≠ i ∧ a ∈ ow ∧ σ[a]? = some (some (.ref q)) ∧ q ≠ p) := by
      intro a ha h
      by_cases hia : i = a
      · subst hia
        rw [List.getElem?_set_self hi'] at h
        cases h
        exact .inl ⟨rfl, rfl⟩
      · rw [List.getElem?_set_ne hia] at h
        rcases mem_addO.mp ha with rfl | ha
        · exact absurd rfl hia
        · exact .inr ⟨fun z => hia z.symm, ha, h, fun z => tn ⟨a, ha, by rw [← z]; exact h⟩⟩
    rcases key a ha h1 with ⟨a1, a2⟩ | ⟨a1, a2, a3, a4⟩ <;> rcases key b hb h2 with ⟨b1, b2⟩ | ⟨b1, b2, b3, b4⟩
    · rw [a1, b1]
    · exact absurd a2 b4
    · exact absurd b2 a4
    · exact e.dis a b q a2 b2 a3 b3
  · obtain ⟨u, w, r⟩ := e.tmp q c (List.mem_cons_of_mem _ h)
    refine ⟨u, fun ⟨k, hk, z⟩ => ?_, r.less hl⟩
    by_cases hki : i = k
    · subst hki
      rw [List.getElem?_set_self hi'] at z
      cases z
      exact (List.nodup_cons.mp nd).1 (List.mem_map.mpr ⟨(p, c), h, rfl⟩)
    · rw [List.getElem?_set_ne hki] at z
      rcases mem_addO.mp hk with rfl | hk
      · exact absurd rfl hki
      · exact w ⟨k, hk, z⟩
/-- more is held on -/
theorem En.hold (e : En C io B ow H σ ρ) {q : List (V × D)} (h : ∀ x, x ∈ q → Rp C (Opn B ow σ) H x.1 x.2) : En C io { B with px := q ++ B.px } ow H σ ρ :=
  ⟨e.fr, e.o0, e.iom, e.len, e.val, e.own, e.dis, e.tmp, e.tnd, fun x hx => (List.mem_append.mp hx).elim (h x) (e.pin x)⟩
theorem En.unhold {q : List (V × D)} (e : En C io { B with px := q ++ B.px } ow H σ ρ) : En C io B ow H σ ρ :=
  ⟨e.fr, e.o0, e.iom, e.len, e.val, e.own, e.dis, e.tmp, e.tnd, fun x hx => e.pin x (List.mem_append_right _ hx)⟩
end
end VL
namespace VL
open PySem PySem.Spec PyProof.Rows L2
def ofO {α : Type} : Option α → Res α
  | some a => .ok a
  | none => .st
abbrev cf (X : Cx) : Cf := ⟨X.K, X.mg⟩
/-- the wish for an error of an own class -/
def Er (C : Cf) (B : Bs) (E : XK) (c : Str) (fs : List Str) (vs : List D) : Prop := ∀ (cl dx : Addr) (H' : Hp) (fvs : List (Str × V)), C.mg c = some (.ref cl) → Ex (fun b => B.m = some b) B.H0 H' → B.H0 dx = none →
  H' dx = some (.xd fvs) → fs = fvs.map (·.1) → RpL C B.O0 H' (fvs.map (·.2)) vs → E (.ref cl) (some dx) H'
def Out {α : Type} (C : Cf) (B : Bs) (E : XK) (r : Res α) (k : α → Prop) : Prop := match r with
  | .ok a => k a
  | .er c fs vs => Er C B E c fs vs
  | .st => False
theorem Out.bind {α β : Type} {C : Cf} {B : Bs} {E : XK} {r : Res α} {f : α → Res β} {k : β → Prop} (h : Out C B E (r.bind f) k) : Out C B E r fun a => Out C B E (f a) k := by
  cases r <;> exact h
theorem Out.mono {α : Type} {C : Cf} {B : Bs} {E : XK} {r : Res α} {k k' : α → Prop} (h : Out C B E r k) (i : ∀ a, r = .ok a → k a → k' a) : Out C B E r k' := by
  cases r with
  | ok a => exact i a rfl h
  | er => exact h
  | st => exact h
theorem Out.ofO {α : Type} {C : Cf} {B : Bs} {E : XK} {r : Option α} {k : α → Prop} (h : Out C B E (ofO r) k) : ∃ a, r = some a ∧ k a := by
  cases r with
  | some a => exact ⟨a, rfl, h⟩
  | none => exact h.elim
theorem Out.rs {C : Cf} {B : Bs} {E : XK} {ρ : Env} {w : W} {k : D → Prop} (h : Out C B E (rs ρ w) k) : ∃ a, rs ρ w = .ok a ∧ k a := by
  cases w with
  | d x => exact ⟨x, rfl, h⟩
  | o i =>
    unfold VL.rs at h ⊢
    dsimp only at h ⊢
    split at h
    · exact ⟨_, rfl, h⟩
    · exact h.elim
/-- behind an expression -/
def Rw (C : Cf) (B : Bs) (ow : List Nat) (σ : L2.St) (H : Hp) (v : V) : W → Prop
  | .d d => Rp C (Opn B ow σ) H v d
  | .o k => k ∈ ow ∧ σ[k]? = some (some v)
def RwL (C : Cf) (B : Bs) (ow : List Nat) (σ : L2.St) (H : Hp) : List V → List W → Prop
  | [], [] => True
  | v :: vs, w :: ws => Rw C B ow σ H v w ∧ RwL C B ow σ H vs ws
  | _, _ => False
theorem Rw.keep {C : Cf} {B : Bs} {ow : List Nat} {σ : L2.St} {H H' : Hp} {v : V} {w : W} (r : Rw C B ow σ H v w) (f : Ex (ownA ow σ) H H') : Rw C B ow σ H' v w := by
  cases w with
  | d x => exact Rp.keep f (fun b h => .inr (.inl h)) r
  | o k => exact r
/-- what may be read -/
def Rt (C : Cf) (O : Hs) (H : Hp) (v : V) (d : D) : Prop := Rp C O H v d ∨ ∃ p, v = .ref p ∧ Own C O H p d
theorem Rw.rt {C : Cf} {io : Bool} {B : Bs} {ow : List Nat} {σ : L2.St} {ρ : Env} {H : Hp} {v : V} {w : W} {d : D} (e : En C io B ow H σ ρ) (r : Rw C B ow σ H v w) (h : rs ρ w = .ok d) : Rt C (Opn B ow σ) H v d := by
  cases w with
  | d x =>
    cases h
    exact .inl r
  | o k =>
    obtain ⟨p, c, e1, e2, o, _⟩ := e.own k r.1
    unfold rs at h
    dsimp only at h
    rw [e1] at h
    cases h
    have r2 := r.2
    rw [e2] at r2
    cases r2
    exact .inr ⟨p, rfl, o⟩
def tV (C : Cf) (io : Bool) (E : XK) (ow : List Nat) (g : G) : TE := fun σ H Q => ∃ B ρ, En C io B ow H σ ρ ∧ Out C B E (g ρ) fun r => ∀ v H', Ex (ownA ow σ) H H' → En C io B ow H' σ r.2 → Rw C B ow σ H' v r.1 → Q v H'
def tA (C : Cf) (io : Bool) (E : XK) (ow : List Nat) (g : Env → Res (List W × Env)) : TA := fun σ H Q => ∃ B ρ, En C io B ow H σ ρ ∧ Out C B E (g ρ) fun r => ∀ vs H', Ex (ownA ow σ) H H' → En C io B ow H' σ r.2 → RwL C B ow σ H' vs r.1 → Q vs H'
def tT (C : Cf) (io : Bool) (E : XK) (ow : List Nat) (g : Env → Res (Bool × Env)) : TT := fun σ H Q => ∃ B ρ, En C io B ow H σ ρ ∧ Out C B E (g ρ) fun r => ∀ H', Ex (ownA ow σ) H H' → En C io B ow H' σ r.2 → Q r.1 H'
/-- a new thing -/
def tF (C : Cf) (io : Bool) (E : XK) (ow : List Nat) (g : Env → Res (D × Env)) : TE := fun σ H Q => ∃ B ρ, En C io B ow H σ ρ ∧ Out C B E (g ρ) fun r => ∀ p H', Ex (ownA ow σ) H H' → En C io { B with T := (p, r.1) :: B.T } ow H' σ r.2 → Q (.ref p) H'
theorem PE.imp {X : Cx} {e : Expr} {t t' : TE} (h : PE X e t) (i : ∀ σ H Q, t' σ H Q → t σ H Q) : PE X e t' := ⟨fun pins s σ H Q I q => h.run pins s σ H Q I (i σ H Q q)⟩
theorem PT.imp {X : Cx} {e : Expr} {t t' : TT} (h : PT X e t) (i : ∀ σ H Q, t' σ H Q → t σ H Q) : PT X e t' := ⟨fun pins s σ H Q I q => h.run pins s σ H Q I (i σ H Q q)⟩
theorem PW.imp {X : Cx} {e : Expr} {t t' : TT} (h : PW X e t) (i : ∀ σ H Q, t' σ H Q → t σ H Q) : PW X e t' := ⟨fun wh pins s σ H Q I q => h.run wh pins s σ H Q I (i σ H Q q)⟩
theorem PA.imp {X : Cx} {e : List Expr} {t t' : TA} (h : PA X e t) (i : ∀ σ H Q, t' σ H Q → t σ H Q) : PA X e t' := ⟨fun pos pins s σ H Q I q => h.run pos pins s σ H Q I (i σ H Q q)⟩
theorem PS.imp {X : Cx} {e : Stmt} {t t' : TS} (h : PS X e t) (i : ∀ D σ H, t' D σ H → t D σ H) : PS X e t' := ⟨fun pins s σ H D I q => h.run pins s σ H D I (i D σ H q)⟩
theorem PSs.imp {X : Cx} {e : List Stmt} {t t' : TS} (h : PSs X e t) (i : ∀ D σ H, t' D σ H → t D σ H) : PSs X e t' := ⟨fun pins s σ H D I q => h.run pins s σ H D I (i D σ H q)⟩
/-- what an operation hands back: a value, perhaps new -/
def Kv (C : Cf) (O : Hs) (H : Hp) (d : D) (Q : VK) : Prop := ∀ v H', Ex Nil H H' → Rp C O H' v d → Q v H'
/-- .. a new thing -/
def Kf (C : Cf) (O : Hs) (H : Hp) (d : D) (Q : VK) : Prop := ∀ p H', H p = none → Ex Nil H H' → Own C (fun b => O b ∨ b = p) H' p d → Q (.ref p) H'
theorem Kv.f {C : Cf} {O : Hs} {H : Hp} {d : D} {Q : VK} (hO : ∀ b, O b → H b ≠ none) (k : Kv C O H d Q) : Kf C O H d Q := fun p H' hp f o => k _ _ f (o.rp (fun _ h => .inl h) fun z => hO p z hp)
/-- an operation on two, on one, on a list of data; its result a value -/
def rD (C : Cf) (F : D → D → Option D) : R2 := fun x y H Q => ∃ O a b d, (∀ b, O b → H b ≠ none) ∧ Rt C O H x a ∧ Rt C O H y b ∧ F a b = some d ∧ Kv C O H d Q
def rDF (C : Cf) (F : D → D → Option D) : R2 := fun x y H Q => ∃ O a b d, (∀ b, O b → H b ≠ none) ∧ Rt C O H x a ∧ Rt C O H y b ∧ F a b = some d ∧ Kf C O H d Q
def RtL (C : Cf) (O : Hs) (H : Hp) : List V → List D → Prop
  | [], [] => True
  | v :: vs, d :: ds => Rt C O H v d ∧ RtL C O H vs ds
  | _, _ => False
def rDL (C : Cf) (F : List D → Option D) : List V → Hp → VK → Prop := fun vs H Q => ∃ O ds d, (∀ b, O b → H b ≠ none) ∧ RtL C O H vs ds ∧ F ds = some d ∧ Kv C O H d Q
def rDLF (C : Cf) (F : List D → Option D) : List V → Hp → VK → Prop := fun vs H Q => ∃ O ds d, (∀ b, O b → H b ≠ none) ∧ RtL C O H vs ds ∧ F ds = some d ∧ Kf C O H d Q
def rsL (ρ : Env) : List W → Res (List D)
  | [] => .ok []
  | w :: ws => (rs ρ w).bind fun d => (rsL ρ ws).bind fun ds => .ok (d :: ds)
theorem Out.rsL {C : Cf} {B : Bs} {E : XK} {ρ : Env} : ∀ {ws : List W} {k : List D → Prop}, Out C B E (rsL ρ ws) k → ∃ a, rsL ρ ws = .ok a ∧ k a
  | [], k, h => ⟨[], rfl, h⟩
  | w :: ws, k, h => by
    obtain ⟨d, e, h1⟩ := Out.rs (Out.bind h)
    obtain ⟨ds, e2, h2⟩ := Out.rsL (Out.bind h1)
    refine ⟨d :: ds, ?_, h2⟩
    unfold VL.rsL
    rw [e, e2]
    rfl
theorem RwL.rt {C : Cf} {io : Bool} {B : Bs} {ow : List Nat} {σ : L2.St} {ρ : Env} {H : Hp} (e : En C io B ow H σ ρ) : ∀ {vs : List V} {ws : List W} {ds : List D}, RwL C B ow σ H vs ws → rsL ρ ws = .ok ds → RtL C (Opn B ow σ) H vs ds
  | [], [], _, _, h => by cases h; trivial
  | [], _ :: _, _, r, _ => r.elim
  | _ :: _, [], _, r, _ => r.elim
  | v :: vs, w :: ws, ds, r, h => by
    unfold rsL at h
    cases h1 : rs ρ w with
    | ok d =>
      cases h2 : rsL ρ ws with
      | ok ds' =>
        rw [h1, h2] at h
        cases h
        exact ⟨Rw.rt e r.1 h1, RwL.rt e r.2 h2⟩
      | er => rw [h1, h2] at h; cases h
      | st => rw [h1, h2] at h; cases h
    | er => rw [h1] at h; cases h
    | st => rw [h1] at h; cases h
theorem RwL.keep {C : Cf} {B : Bs} {ow : List Nat} {σ : L2.St} {H H' : Hp} (f : Ex (ownA ow σ) H H') : ∀ {vs : List V} {ws : List W}, RwL C B ow σ H vs ws → RwL C B ow σ H' vs ws
  | [], [], r => r
  | [], _ :: _, r => r.elim
  | _ :: _, [], r => r.elim
  | _ :: _, _ :: _, r => ⟨r.1.keep f, RwL.keep f r.2⟩
section
variable {X : Cx} {C : Cf} {io : Bool} {E : XK} {ow : List Nat} {e a b c : Expr} {es : List Expr} {pos : Pos} {g ga gb gc : G} {F F' : D → D → Option D}
/-! ## names, constants -/
def gVar (i : Nat) : G := fun ρ => match ρ[i]? with
  | some (some d) => .ok (.d d, ρ)
  | _ => .st
theorem ve_var {i : Nat} (h : PE X e (tVar i)) (hi : i ∉ ow := by decide) : PE X e (tV C io E ow (gVar i)) := PE.imp h fun σ H Q ⟨B, ρ, en, o⟩ => by
  unfold gVar at o
  split at o
  · rename_i d hd
    obtain ⟨v, hv, r⟩ := en.val i d hd hi
    exact ⟨v, hv, o v H Ex.refl en r⟩
  · exact o.elim
def gOwn (i : Nat) : G := fun ρ => .ok (.o i, ρ)
theorem ve_own {i : Nat} (h : PE X e (tVar i)) (hi : i ∈ ow := by decide) : PE X e (tV C io E ow (gOwn i)) := PE.imp h fun σ H Q ⟨B, ρ, en, o⟩ => by
  obtain ⟨p, d, h1, h2, _⟩ := en.own i hi
  exact ⟨_, h2, o _ H Ex.refl en ⟨hi, h2⟩⟩
def gC (d : D) : G := fun ρ => .ok (.d d, ρ)
theorem ve_c {v : V} {d : D} (h : PE X e (tC v)) (r : ∀ O H, Rp C O H v d) : PE X e (tV C io E ow (gC d)) := PE.imp h fun σ H Q ⟨B, ρ, en, o⟩ => o v H Ex.refl en (r _ _)
theorem ve_int {i : Int} (h : PE X e (tC (.int i))) : PE X e (tV C io E ow (gC (.int i))) := ve_c h fun _ _ => .int i
theorem ve_bl {i : Bool} (h : PE X e (tC (.bl i))) : PE X e (tV C io E ow (gC (.bl i))) := ve_c h fun _ _ => .bl i
theorem ve_str {i : Str} (h : PE X e (tC (.str i))) : PE X e (tV C io E ow (gC (.str i))) := ve_c h fun _ _ => .str i
theorem ve_non (h : PE X e (tC .non)) : PE X e (tV C io E ow (gC .non)) := ve_c h fun _ _ => .non
/-! ## operations -/
def gOp (F : D → D → Option D) (ga gb : G) : G := fun ρ => (ga ρ).bind fun r => (gb r.2).bind fun s => (rs s.2 r.1).bind fun x => (rs s.2 s.1).bind fun y => (ofO (F x y)).bind fun z => .ok (.d z, s.2)
theorem op_core {t : R2} {σ : L2.St} {H : Hp} {Q : VK} (h : ∃ B ρ, En C io B ow H σ ρ ∧ Out C B E (ga ρ) fun r => Out C B E (gb r.2) fun s => Out C B E (rs s.2 r.1) fun x => Out C B E (rs s.2 s.1) fun y =>
      ∃ z, F x y = some z ∧ ∀ v H', Ex (ownA ow σ) H H' → En C io B ow H' σ s.2 → Rp C (Opn B ow σ) H' v z → Q v H')
    (ht : t = rD C F) : tOp t (tV C io E ow ga) (tV C io E ow gb) σ H Q := by
  subst ht
  obtain ⟨B, ρ, en, o⟩ := h
  refine ⟨B, ρ, en, o.mono fun r _ o v1 H1 f1 en1 r1 => ⟨B, r.2, en1, o.mono fun s _ o v2 H2 f2 en2 r2 => ?_⟩⟩
  obtain ⟨x, hx, o⟩ := o.rs
  obtain ⟨y, hy, o⟩ := o.rs
  obtain ⟨z, hz, o⟩ := o
  exact ⟨Opn B ow σ, x, y, z, en2.there, (r1.keep f2).rt en2 hx, r2.rt en2 hy, hz, fun v H3 f3 r3 => o v H3 ((f1.trans f2).trans (f3.mono fun _ z => z.elim)) (en2.grow f3) r3⟩
theorem gOp_out {B : Bs} {ρ : Env} {k : W × Env → Prop} (h : Out C B E (gOp F ga gb ρ) k) : Out C B E (ga ρ) fun r => Out C B E (gb r.2) fun s => Out C B E (rs s.2 r.1) fun x => Out C B E (rs s.2 s.1) fun y => ∃ z, F x y = some z ∧ k (.d z, s.2) :=
  (Out.bind h).mono fun _ _ h => (Out.bind h).mono fun _ _ h => (Out.bind h).mono fun _ _ h => (Out.bind h).mono fun _ _ h => (Out.bind h).ofO
theorem ve_op {op : Operator} (ho : OpR X (binaryOp op) (rD C F)) (ha : PE X a (tV C io E ow ga)) (hb : PE X b (tV C io E ow gb)) : PE X (.BinOp a op b pos) (tV C io E ow (gOp F ga gb)) :=
  PE.imp (pe_op ho ha hb) fun σ H Q ⟨B, ρ, en, o⟩ => op_core ⟨B, ρ, en, gOp_out o⟩ rfl
theorem ve_cmp {op : CmpOp} (ho : OpR X (compareOp op) (rD C F)) (ha : PE X a (tV C io E ow ga)) (hb : PE X b (tV C io E ow gb)) (hm : behindInMarks op b = false := by first | exact nobehind _ (by decide) (by decide) | rfl) : PE X (.Compare a [op] [b] pos) (tV C io E ow (gOp F ga gb)) :=
  PE.imp (pe_cmpR ho ha hb hm) fun σ H Q ⟨B, ρ, en, o⟩ => op_core ⟨B, ρ, en, gOp_out o⟩ rfl
theorem ve_ix (ho : IxR X (rD C F)) (ha : PE X a (tV C io E ow ga)) (hb : PE X b (tV C io E ow gb)) (hs : PlainIx b := by exact fun _ _ => rfl) : PE X (.Subscript a b pos) (tV C io E ow (gOp F ga gb)) :=
  PE.imp (pe_ix ho ha hb hs) fun σ H Q ⟨B, ρ, en, o⟩ => op_core ⟨B, ρ, en, gOp_out o⟩ rfl
/-- as tests -/
def asB : D → Option Bool
  | .bl k => some k
  | _ => none
def gB (g : G) : Env → Res (Bool × Env) := fun ρ => (g ρ).bind fun r => match r.1 with
  | .d (.bl k) => .ok (k, r.2)
  | _ => .st
theorem gB_out {B : Bs} {ρ : Env} {k : Bool × Env → Prop} (h : Out C B E (gB g ρ) k) : Out C B E (g ρ) fun r => ∃ c, r.1 = .d (.bl c) ∧ k (c, r.2) := by
  refine (Out.bind h).mono fun r _ h => ?_
  obtain ⟨w, ρ'⟩ := r
  cases w with
  | d x =>
    cases x with
    | bl c => exact ⟨c, rfl, h⟩
    | _ => exact h.elim
  | o i => exact h.elim
theorem tB_core {t : TE} (σ : L2.St) (H : Hp) (Q : Bool → Hp → Prop) (hs : ∀ Q, tV C io E ow g σ H Q → t σ H Q) (h : tT C io E ow (gB g) σ H Q) : tTest t σ H Q := by
  obtain ⟨B, ρ, en, o⟩ := h
  refine hs _ ⟨B, ρ, en, (gB_out o).mono fun r _ ⟨c, hc, o⟩ v H' f e r2 => ?_⟩
  rw [hc] at r2
  cases r2
  exact ⟨c, rfl, o H' f e⟩
theorem vt_cmp {op : CmpOp} (ho : OpR X (compareOp op) (rD C F)) (ha : PE X a (tV C io E ow ga)) (hb : PE X b (tV C io E ow gb)) (hm : behindInMarks op b = false := by first | exact nobehind _ (by decide) (by decide) | rfl) : PT X (.Compare a [op] [b] pos) (tT C io E ow (gB (gOp F ga gb))) :=
  PT.imp (pt_cmpR ho ha hb hm) fun σ H Q h => tB_core σ H Q (fun Q ⟨B, ρ, en, o⟩ => op_core ⟨B, ρ, en, gOp_out o⟩ rfl) h
/-- a op b op' c -/
def gCh (F F' : D → D → Option D) (ga gb gc : G) : G := fun ρ => (ga ρ).bind fun r => (gb r.2).bind fun s => (rs s.2 r.1).bind fun x => (rs s.2 s.1).bind fun y => (ofO (F x y)).bind fun z => match z with
  | .bl true => (gc s.2).bind fun t => (rs t.2 s.1).bind fun y => (rs t.2 t.1).bind fun u => (ofO (F' y u)).bind fun z => .ok (.d z, t.2)
  | .bl false => .ok (.d (.bl false), s.2)
  | _ => .st
theorem ch_core {σ : L2.St} {H : Hp} {Q : VK} (h : tV C io E ow (gCh F F' ga gb gc) σ H Q) : tChain (rD C F) (rD C F') (tV C io E ow ga) (tV C io E ow gb) (tV C io E ow gc) σ H Q := by
  obtain ⟨B, ρ, en, o⟩ := h
  refine ⟨B, ρ, en, (Out.bind o).mono fun r _ o v1 H1 f1 en1 r1 => ⟨B, r.2, en1, (Out.bind o).mono fun s _ o v2 H2 f2 en2 r2 => ?_⟩⟩
  obtain ⟨x, hx, o⟩ := (Out.bind o).rs
  obtain ⟨y, hy, o⟩ := (Out.bind o).rs
  obtain ⟨z, hz, o⟩ := (Out.bind o).ofO
  refine ⟨Opn B ow σ, x, y, z, en2.there, (r1.keep f2).rt en2 hx, r2.rt en2 hy, hz, fun v H3 f3 r3 => ?_⟩
  cases z with
  | bl k =>
    cases r3
    refine ⟨k, rfl, ?_⟩
    cases k with
    | true =>
      rw [if_pos rfl]
      refine ⟨B, s.2, en2.grow f3, (Out.bind o).mono fun t _ o v4 H4 f4 en4 r4 => ?_⟩
      obtain ⟨y', hy', o⟩ := (Out.bind o).rs
      obtain ⟨u, hu, o⟩ := (Out.bind o).rs
      obtain ⟨z, hz, o⟩ := (Out.bind o).ofO
      have r2' := (r2.keep (f3.mono fun _ z => z.elim)).keep f4
      exact ⟨Opn B ow σ, y', u, z, en4.there, r2'.rt en4 hy', r4.rt en4 hu, hz, fun v H5 f5 r5 => o v H5 ((((f1.trans f2).trans (f3.mono fun _ z => z.elim)).trans f4).trans (f5.mono fun _ z => z.elim)) (en4.grow f5) r5⟩
    | false =>
      rw [if_neg Bool.false_ne_true]
      exact o (.bl false) H3 ((f1.trans f2).trans (f3.mono fun _ z => z.elim)) (en2.grow f3) (.bl false)
  | _ => exact o.elim
theorem ve_ch {op op' : CmpOp} (ho : OpR X (compareOp op) (rD C F)) (ho' : OpR X (compareOp op') (rD C F')) (ha : PE X a (tV C io E ow ga)) (hb : PE X b (tV C io E ow gb)) (hc : PE X c (tV C io E ow gc)) (hm : lastMarks [op, op'] [b, c] = false := by with_unfolding_all rfl) :
    PE X (.Compare a [op, op'] [b, c] pos) (tV C io E ow (gCh F F' ga gb gc)) := PE.imp (pe_chain ho ho' ha hb hc hm) fun _ _ _ h => ch_core h
theorem vt_ch {op op' : CmpOp} (ho : OpR X (compareOp op) (rD C F)) (ho' : OpR X (compareOp op') (rD C F')) (ha : PE X a (tV C io E ow ga)) (hb : PE X b (tV C io E ow gb)) (hc : PE X c (tV C io E ow gc)) (hm : lastMarks [op, op'] [b, c] = false := by with_unfolding_all rfl) :
    PT X (.Compare a [op, op'] [b, c] pos) (tT C io E ow (gB (gCh F F' ga gb gc))) := PT.imp (pt_chain ho ho' ha hb hc hm) fun σ H Q h => tB_core σ H Q (fun Q h => ch_core h) h
/-! ## and, or, not, tests -/
abbrev GT := Env → Res (Bool × Env)
variable {ta tb tc : GT} {rest : List Expr}
def gAndT (ta tb : GT) : GT := fun ρ => (ta ρ).bind fun r => if r.1 = true then tb r.2 else .ok (false, r.2)
def gOrT (ta tb : GT) : GT := fun ρ => (ta ρ).bind fun r => if r.1 = true then .ok (true, r.2) else tb r.2
def gNotT (ta : GT) : GT := fun ρ => (ta ρ).bind fun r => .ok (!r.1, r.2)
theorem vw_and1 (ha : PT X a (tT C io E ow ta)) : PW X (.BoolOp .And [a] pos) (tT C io E ow ta) := pw_and1 ha
theorem vw_or1 (ha : PT X a (tT C io E ow ta)) : PW X (.BoolOp .Or [a] pos) (tT C io E ow ta) := pw_or1 ha
theorem vw_and (ha : PT X a (tT C io E ow ta)) (hb : PW X (.BoolOp .And (b :: rest) pos) (tT C io E ow tb)) : PW X (.BoolOp .And (a :: b :: rest) pos) (tT C io E ow (gAndT ta tb)) :=
  PW.imp (pw_and ha hb) fun σ H Q ⟨B, ρ, en, o⟩ => ⟨B, ρ, en, (Out.bind o).mono fun r _ o H1 f1 en1 => by
    obtain ⟨c, ρ1⟩ := r
    cases c with
    | true => exact ⟨B, ρ1, en1, Out.mono o fun s _ k H2 f2 en2 => k H2 (f1.trans f2) en2⟩
    | false => exact o H1 f1 en1⟩
theorem vw_or (ha : PT X a (tT C io E ow ta)) (hb : PW X (.BoolOp .Or (b :: rest) pos) (tT C io E ow tb)) : PW X (.BoolOp .Or (a :: b :: rest) pos) (tT C io E ow (gOrT ta tb)) :=
  PW.imp (pw_or ha hb) fun σ H Q ⟨B, ρ, en, o⟩ => ⟨B, ρ, en, (Out.bind o).mono fun r _ o H1 f1 en1 => by
    obtain ⟨c, ρ1⟩ := r
    cases c with
    | false => exact ⟨B, ρ1, en1, Out.mono o fun s _ k H2 f2 en2 => k H2 (f1.trans f2) en2⟩
    | true => exact o H1 f1 en1⟩
theorem vt_not (ha : PT X a (tT C io E ow ta)) : PT X (.UnaryOp .Not a pos) (tT C io E ow (gNotT ta)) :=
  PT.imp (pt_not ha) fun σ H Q ⟨B, ρ, en, o⟩ => ⟨B, ρ, en, (Out.bind o).mono fun r _ o H1 f1 en1 => o H1 f1 en1⟩
/-- as values -/
def gAnd (ga gb : G) : G := fun ρ => (gB ga ρ).bind fun r => if r.1 = true then gb r.2 else .ok (.d (.bl false), r.2)
def gOr (ga gb : G) : G := fun ρ => (gB ga ρ).bind fun r => if r.1 = true then .ok (.d (.bl true), r.2) else gb r.2
def gNot (ga : G) : G := fun ρ => (gB ga ρ).bind fun r => .ok (.d (.bl (!r.1)), r.2)
theorem ve_one {op : BoolOp} (h : PE X a (tV C io E ow ga)) : PE X (.BoolOp op [a] pos) (tV C io E ow ga) := pe_one h
theorem ve_and (ha : PE X a (tV C io E ow ga)) (hb : PE X (.BoolOp .And (b :: rest) pos) (tV C io E ow gb)) : PE X (.BoolOp .And (a :: b :: rest) pos) (tV C io E ow (gAnd ga gb)) :=
  PE.imp (pe_and ha hb) fun σ H Q ⟨B, ρ, en, o⟩ => ⟨B, ρ, en, (gB_out (Out.bind o)).mono fun r _ ⟨c, hc, o⟩ v H1 f1 en1 r1 => by
    rw [hc] at r1
    cases r1
    refine ⟨c, rfl, ?_⟩
    cases c with
    | true => exact ⟨B, _, en1, Out.mono o fun s _ k v2 H2 f2 en2 => k v2 H2 (f1.trans f2) en2⟩
    | false => exact o (.bl false) H1 f1 en1 (.bl false)⟩
theorem ve_or (ha : PE X a (tV C io E ow ga)) (hb : PE X (.BoolOp .Or (b :: rest) pos) (tV C io E ow gb)) : PE X (.BoolOp .Or (a :: b :: rest) pos) (tV C io E ow (gOr ga gb)) :=
  PE.imp (pe_or ha hb) fun σ H Q ⟨B, ρ, en, o⟩ => ⟨B, ρ, en, (gB_out (Out.bind o)).mono fun r _ ⟨c, hc, o⟩ v H1 f1 en1 r1 => by
    rw [hc] at r1
    cases r1
    refine ⟨c, rfl, ?_⟩
    cases c with
    | false => exact ⟨B, _, en1, Out.mono o fun s _ k v2 H2 f2 en2 => k v2 H2 (f1.trans f2) en2⟩
    | true => exact o (.bl true) H1 f1 en1 (.bl true)⟩
theorem ve_not (ha : PE X a (tV C io E ow ga)) : PE X (.UnaryOp .Not a pos) (tV C io E ow (gNot ga)) :=
  PE.imp (pe_not ha) fun σ H Q ⟨B, ρ, en, o⟩ => ⟨B, ρ, en, (gB_out (Out.bind o)).mono fun r _ ⟨c, hc, o⟩ v H1 f1 en1 r1 => by
    rw [hc] at r1
    cases r1
    exact ⟨c, rfl, o _ H1 f1 en1 (.bl _)⟩⟩
def gIf (t : GT) (ga gb : G) : G := fun ρ => (t ρ).bind fun r => if r.1 = true then ga r.2 else gb r.2
theorem ve_if (hc : PT X c (tT C io E ow tc)) (ha : PE X a (tV C io E ow ga)) (hb : PE X b (tV C io E ow gb)) : PE X (.IfExp c a b pos) (tV C io E ow (gIf tc ga gb)) :=
  PE.imp (pe_ifExp hc ha hb) fun σ H Q ⟨B, ρ, en, o⟩ => ⟨B, ρ, en, (Out.bind o).mono fun r _ o H1 f1 en1 => by
    obtain ⟨k, ρ1⟩ := r
    cases k with
    | true => exact ⟨B, ρ1, en1, Out.mono o fun s _ k v2 H2 f2 en2 => k v2 H2 (f1.trans f2) en2⟩
    | false => exact ⟨B, ρ1, en1, Out.mono o fun s _ k v2 H2 f2 en2 => k v2 H2 (f1.trans f2) en2⟩⟩
/-- a value's truth -/
def truD : D → Option Bool
  | .non => some false
  | .bl b => some b
  | .int i => some (i != 0)
  | .str y => if y.length ≤ sizeLine then some ((y.length : Int) != 0) else none
  | .tup xs => some (!xs.isEmpty)
  | .lst xs => some (!xs.isEmpty)
  | .frl xs => some (!xs.isEmpty)
  | .dct _ xs => some (!xs.isEmpty)
  | _ => none
theorem RpL.empty {C : Cf} {O : Hs} {H : Hp} {vs : List V} {ds : List D} (h : RpL C O H vs ds) : (!ds.isEmpty) = !vs.isEmpty := by cases h <;> rfl
end
end VL
namespace VL
open PySem PySem.Spec PyProof.Rows L2
section
variable {X : Cx} {C : Cf} {io : Bool} {E : XK} {ow ow1 ow2 ow3 owL : List Nat} {e a b c : Expr} {es : List Expr} {pos p : Pos} {g ga gb gc : G} {F F' : D → D → Option D}
/-! ## argument lists -/
abbrev GA := Env → Res (List W × Env)
def gaNil : GA := fun ρ => .ok ([], ρ)
def gaCons (ga : G) (gr : GA) : GA := fun ρ => (ga ρ).bind fun r => (gr r.2).bind fun s => .ok (r.1 :: s.1, s.2)
theorem va_nil : PA X [] (tA C io E ow gaNil) := PA.imp pa_nil fun σ H Q ⟨B, ρ, en, o⟩ => o [] H Ex.refl en trivial
theorem va_cons {gr : GA} (ha : PE X e (tV C io E ow ga)) (hr : PA X es (tA C io E ow gr)) (hs : starEach (e :: es) X.env = (false, eval e X.env) :: starEach es X.env := by rfl) : PA X (e :: es) (tA C io E ow (gaCons ga gr)) :=
  PA.imp (pa_cons ha hr hs) fun σ H Q ⟨B, ρ, en, o⟩ => ⟨B, ρ, en, (Out.bind o).mono fun r _ o v H1 f1 en1 r1 => ⟨B, r.2, en1, (Out.bind o).mono fun s _ o vs H2 f2 en2 r2 => o (v :: vs) H2 (f1.trans f2) en2 ⟨r1.keep f2, r2⟩⟩⟩
def strL : List W → Option (List D)
  | [] => some []
  | .d x :: ws => (strL ws).map (x :: ·)
  | .o _ :: _ => none
theorem RwL.str {B : Bs} {σ : L2.St} {H : Hp} : ∀ {vs : List V} {ws : List W} {ds : List D}, RwL C B ow σ H vs ws → strL ws = some ds → RpL C (Opn B ow σ) H vs ds
  | [], [], _, _, h => by cases h; exact .nil
  | [], _ :: _, _, r, _ => r.elim
  | _ :: _, [], _, r, _ => r.elim
  | v :: vs, .d x :: ws, ds, r, h => by
    unfold strL at h
    cases h1 : strL ws with
    | some ds' =>
      rw [h1] at h
      cases h
      exact .cons r.1 (RwL.str r.2 h1)
    | none => rw [h1] at h; cases h
  | _ :: _, .o _ :: _, _, _, h => by cases h
/-! ## displays -/
def gTup (ga : GA) : G := fun ρ => (ga ρ).bind fun r => (ofO (strL r.1)).bind fun ds => if ds.length ≤ 1000 then .ok (.d (.tup ds), r.2) else .st
abbrev GF := Env → Res (D × Env)
def gLst (ga : GA) : GF := fun ρ => (ga ρ).bind fun r => (ofO (strL r.1)).bind fun ds => if ds.length ≤ 1000 then .ok (.lst ds, r.2) else .st
theorem line1000 {n : Nat} (h : n ≤ 1000) : n ≤ sizeLine := Nat.le_trans h (by decide)
theorem opn_ne {B : Bs} {σ : L2.St} {ρ : Env} {H : Hp} {q : Addr} (en : En C io B ow H σ ρ) (h : H q = none) : ¬ Opn B ow σ q := fun z => en.there q z h
theorem rp_new {O : Hs} {H : Hp} {q : Addr} {u : HO} (h : H q = none) {vs : List V} {ds : List D} (r : RpL C O H vs ds) : RpL C (fun b => O b ∨ b = q) (upd H q u) vs ds :=
  Rp.exL (Ex.new (M := Nil) h) (fun _ z => z.elim) (fun b z => z.imp id fun z => by rw [z]; exact h) r
theorem ve_tup {gr : GA} {kk} (ha : PA X es (tA C io E ow gr)) : PE X (.Tuple es kk pos) (tV C io E ow (gTup gr)) :=
  PE.imp (pe_tup ha) fun σ H Q ⟨B, ρ, en, o⟩ => ⟨B, ρ, en, (Out.bind o).mono fun r _ o vs H1 f1 en1 r1 => by
    obtain ⟨ds, hd, o⟩ := (Out.bind o).ofO
    split at o
    · rename_i hl
      have rr := RwL.str r1 hd
      refine ⟨line1000 (by rw [rr.len]; exact hl), fun q hq => o _ _ (f1.trans (Ex.new hq)) (en1.grow (Ex.new hq)) ?_⟩
      exact .tup (.inl upd_same) (RpL.keep (Ex.new (M := Nil) hq) (fun _ z => z.elim) rr)
    · exact o.elim⟩
theorem vf_lst {gr : GA} (ha : PA X es (tA C io E ow gr)) : PE X (.List es pos) (tF C io E ow (gLst gr)) :=
  PE.imp (pe_lst ha) fun σ H Q ⟨B, ρ, en, o⟩ => ⟨B, ρ, en, (Out.bind o).mono fun r _ o vs H1 f1 en1 r1 => by
    obtain ⟨ds, hd, o⟩ := (Out.bind o).ofO
    split at o
    · rename_i hl
      have rr := RwL.str r1 hd
      exact ⟨line1000 (by rw [rr.len]; exact hl), fun q hq => o q _ (f1.trans (Ex.new hq)) (en1.new hq (Ex.new hq) (.lst upd_same (rp_new hq rr)))⟩
    · exact o.elim⟩
/-- a new thing as a value -/
def gF (g : GF) : G := fun ρ => (g ρ).bind fun r => .ok (.d r.1, r.2)
theorem ve_f {gf : GF} (h : PE X e (tF C io E ow gf)) : PE X e (tV C io E ow (gF gf)) :=
  PE.imp h fun σ H Q ⟨B, ρ, en, o⟩ => ⟨B, ρ, en, (Out.bind o).mono fun r _ o q H1 f1 en1 => let ⟨e1, r1⟩ := en1.old; o _ H1 f1 e1 r1⟩
/-! ## calls of built-ins, methods -/
def gCB (F : List D → Option D) (ga : GA) : G := fun ρ => (ga ρ).bind fun r => (rsL r.2 r.1).bind fun ds => (ofO (F ds)).bind fun d => .ok (.d d, r.2)
def gCBF (F : List D → Option D) (ga : GA) : GF := fun ρ => (ga ρ).bind fun r => (rsL r.2 r.1).bind fun ds => (ofO (F ds)).bind fun d => .ok (d, r.2)
theorem cb_core {gr : GA} {F : List D → Option D} {σ : L2.St} {H : Hp} {Q : VK} (h : tV C io E ow (gCB F gr) σ H Q) : tCB (rDL C F) (tA C io E ow gr) σ H Q := by
  obtain ⟨B, ρ, en, o⟩ := h
  refine ⟨B, ρ, en, (Out.bind o).mono fun r _ o vs H1 f1 en1 r1 => ?_⟩
  obtain ⟨ds, hd, o⟩ := (Out.bind o).rsL
  obtain ⟨d, hF, o⟩ := (Out.bind o).ofO
  exact ⟨Opn B ow σ, ds, d, en1.there, RwL.rt en1 r1 hd, hF, fun v H2 f2 r2 => o v H2 (f1.trans (f2.mono fun _ z => z.elim)) (en1.grow f2) r2⟩
theorem cbf_core {gr : GA} {F : List D → Option D} {σ : L2.St} {H : Hp} {Q : VK} (h : tF C io E ow (gCBF F gr) σ H Q) : tCB (rDLF C F) (tA C io E ow gr) σ H Q := by
  obtain ⟨B, ρ, en, o⟩ := h
  refine ⟨B, ρ, en, (Out.bind o).mono fun r _ o vs H1 f1 en1 r1 => ?_⟩
  obtain ⟨ds, hd, o⟩ := (Out.bind o).rsL
  obtain ⟨d, hF, o⟩ := (Out.bind o).ofO
  exact ⟨Opn B ow σ, ds, d, en1.there, RwL.rt en1 r1 hd, hF, fun q H2 hq f2 ow2 => o q H2 (f1.trans (f2.mono fun _ z => z.elim)) (en1.new hq f2 ow2)⟩
variable {x : Str} {id T : String} {F1 : List D → Option D} {gr : GA}
theorem ve_cb (hc : CallR X (.builtin id) (rDL C F1)) (hg : Gl X x) (hm : X.mg x = none) (hv : bootBuiltins x = some (.builtin id)) (ha : PA X (e :: es) (tA C io E ow gr)) (hn : x ≠ "__name__" := by decide) (hdb : (x == ("__debug__" : Str)) = false := by decide)
    (he : starEach (e :: es) X.env = (false, eval e X.env) :: starEach es X.env := by rfl) (hpl : (backTo pos (starEach es X.env)).any (·.1) = false := by rfl) : PE X (.Call (.Name x p) (e :: es) [] pos) (tV C io E ow (gCB F1 gr)) :=
  PE.imp (pe_callB hc hg hm hv ha hn hdb he hpl) fun _ _ _ h => cb_core h
theorem ve_ct (hc : CallR X (.type T) (rDL C F1)) (hg : Gl X x) (hm : X.mg x = none) (hv : bootBuiltins x = some (.type T)) (ha : PA X (e :: es) (tA C io E ow gr)) (hn : x ≠ "__name__" := by decide) (hdb : (x == ("__debug__" : Str)) = false := by decide)
    (he : starEach (e :: es) X.env = (false, eval e X.env) :: starEach es X.env := by rfl) (hpl : (backTo pos (starEach es X.env)).any (·.1) = false := by rfl) : PE X (.Call (.Name x p) (e :: es) [] pos) (tV C io E ow (gCB F1 gr)) :=
  PE.imp (pe_callTy hc hg hm hv ha hn hdb he hpl) fun _ _ _ h => cb_core h
theorem vf_cb (hc : CallR X (.builtin id) (rDLF C F1)) (hg : Gl X x) (hm : X.mg x = none) (hv : bootBuiltins x = some (.builtin id)) (ha : PA X (e :: es) (tA C io E ow gr)) (hn : x ≠ "__name__" := by decide) (hdb : (x == ("__debug__" : Str)) = false := by decide)
    (he : starEach (e :: es) X.env = (false, eval e X.env) :: starEach es X.env := by rfl) (hpl : (backTo pos (starEach es X.env)).any (·.1) = false := by rfl) : PE X (.Call (.Name x p) (e :: es) [] pos) (tF C io E ow (gCBF F1 gr)) :=
  PE.imp (pe_callB hc hg hm hv ha hn hdb he hpl) fun _ _ _ h => cbf_core h
theorem vf_ct (hc : CallR X (.type T) (rDLF C F1)) (hg : Gl X x) (hm : X.mg x = none) (hv : bootBuiltins x = some (.type T)) (ha : PA X (e :: es) (tA C io E ow gr)) (hn : x ≠ "__name__" := by decide) (hdb : (x == ("__debug__" : Str)) = false := by decide)
    (he : starEach (e :: es) X.env = (false, eval e X.env) :: starEach es X.env := by rfl) (hpl : (backTo pos (starEach es X.env)).any (·.1) = false := by rfl) : PE X (.Call (.Name x p) (e :: es) [] pos) (tF C io E ow (gCBF F1 gr)) :=
  PE.imp (pe_callTy hc hg hm hv ha hn hdb he hpl) fun _ _ _ h => cbf_core h
/-- operations whose result is a new list -/
def gOpF (F : D → D → Option D) (ga gb : G) : GF := fun ρ => (ga ρ).bind fun r => (gb r.2).bind fun s => (rs s.2 r.1).bind fun x => (rs s.2 s.1).bind fun y => (ofO (F x y)).bind fun z => .ok (z, s.2)
theorem vf_op {op : Operator} (ho : OpR X (binaryOp op) (rDF C F)) (ha : PE X a (tV C io E ow ga)) (hb : PE X b (tV C io E ow gb)) : PE X (.BinOp a op b pos) (tF C io E ow (gOpF F ga gb)) :=
  PE.imp (pe_op ho ha hb) fun σ H Q ⟨B, ρ, en, o⟩ => ⟨B, ρ, en, (Out.bind o).mono fun r _ o v1 H1 f1 en1 r1 => ⟨B, r.2, en1, (Out.bind o).mono fun s _ o v2 H2 f2 en2 r2 => by
    obtain ⟨x, hx, o⟩ := (Out.bind o).rs
    obtain ⟨y, hy, o⟩ := (Out.bind o).rs
    obtain ⟨z, hz, o⟩ := (Out.bind o).ofO
    exact ⟨Opn B ow σ, x, y, z, en2.there, (r1.keep f2).rt en2 hx, r2.rt en2 hy, hz, fun q H3 hq f3 r3 => o q H3 ((f1.trans f2).trans (f3.mono fun _ z => z.elim)) (en2.new hq f3 r3)⟩⟩⟩
/-- truth -/
def gTru (g : G) : GT := fun ρ => (g ρ).bind fun r => (rs r.2 r.1).bind fun x => (ofO (truD x)).bind fun b => .ok (b, r.2)
theorem tru_rt {O : Hs} {H : Hp} {v : V} {d : D} {k : Bool} (h : Rt C O H v d) (hk : truD d = some k) : TruV C.K v H k := by
  rcases h with h | ⟨q, rfl, o⟩
  · cases h with
    | non => cases hk; rfl
    | bl b => cases hk; rfl
    | int i => cases hk; rfl
    | str x =>
      unfold truD at hk
      dsimp only at hk
      split at hk
      · cases hk
        exact ⟨by assumption, rfl⟩
      · cases hk
    | tup e r => cases hk; exact .inr (.inl ⟨_, e.sqt, r.empty⟩)
    | lst _ e r => cases hk; exact .inl ⟨_, SqL.of e, r.empty⟩
    | frl e r => cases hk; exact .inl ⟨_, e.sql, r.empty⟩
    | ty => cases hk
    | cls => cases hk
    | dct n e k r => cases hk; exact .inr (.inr ⟨_, e, by rw [r.empty, List.isEmpty_map]⟩)
    | ins => cases hk
  · cases o with
    | lst e r => cases hk; exact .inl ⟨_, SqL.of e, r.empty⟩
    | dct e k r => cases hk; exact .inr (.inr ⟨_, e, by rw [r.empty, List.isEmpty_map]⟩)
    | ins => cases hk
end
end VL
namespace VL
open PySem PySem.Spec PyProof.Rows L2
section
variable {X : Cx} {C : Cf} {io : Bool} {E : XK} {ow ow1 ow2 ow3 owL : List Nat} {e a b c : Expr} {es : List Expr} {pos p : Pos} {g ga gb gc : G} {F F' : D → D → Option D}
theorem vt_tru (hC : C.K = X.K) (ha : PE X a (tV C io E ow ga)) (he : ∀ whole, isTrue a X.env whole = (do let v ← whole; standAt a.pos; holding [v] (truthy v)) := by intro _; rfl) : PT X a (tT C io E ow (gTru ga)) :=
  PT.imp (pt_truth ha he) fun σ H Q ⟨B, ρ, en, o⟩ => ⟨B, ρ, en, (Out.bind o).mono fun r _ o v H1 f1 en1 r1 => by
    obtain ⟨x, hx, o⟩ := (Out.bind o).rs
    obtain ⟨k, hk, o⟩ := (Out.bind o).ofO
    exact ⟨k, hC ▸ tru_rt (r1.rt en1 hx) hk, o H1 f1 en1⟩⟩
/-- a value that is a bool, as a test -/
theorem vt_val (ha : PE X a (tV C io E ow ga)) (he : ∀ whole, isTrue a X.env whole = (do let v ← whole; standAt a.pos; holding [v] (truthy v)) := by intro _; rfl) : PT X a (tT C io E ow (gB ga)) :=
  PT.imp (pt_val ha he) fun σ H Q h => tB_core σ H Q (fun _ h => h) h
/-! ## slices -/
def gNoPart : Env → Res (Option Int × Env) := fun ρ => .ok (none, ρ)
def gPart (g : G) : Env → Res (Option Int × Env) := fun ρ => (g ρ).bind fun r => match r.1 with
  | .d (.int i) => .ok (some i, r.2)
  | _ => .st
abbrev GO := Env → Res (Option Int × Env)
def tO (C : Cf) (io : Bool) (E : XK) (ow : List Nat) (g : GO) : TO := fun σ H Q => ∃ B ρ, En C io B ow H σ ρ ∧ Out C B E (g ρ) fun r => ∀ H', Ex (ownA ow σ) H H' → En C io B ow H' σ r.2 → Q r.1 H'
theorem PO.imp {X : Cx} {e : Option Expr} {t t' : TO} (h : PO X e t) (i : ∀ σ H Q, t' σ H Q → t σ H Q) : PO X e t' := ⟨fun pins s σ H Q I q => h.run pins s σ H Q I (i σ H Q q)⟩
theorem vo_none : PO X none (tO C io E ow gNoPart) := PO.imp po_none fun σ H Q ⟨B, ρ, en, o⟩ => o H Ex.refl en
theorem vo_some (h : PE X e (tV C io E ow g)) : PO X (some e) (tO C io E ow (gPart g)) := PO.imp (po_some h) fun σ H Q ⟨B, ρ, en, o⟩ => ⟨B, ρ, en, (Out.bind o).mono fun r _ o v H1 f1 en1 r1 => by
  obtain ⟨w, ρ'⟩ := r
  cases w with
  | d x =>
    cases x with
    | int i => cases r1; exact ⟨i, rfl, o H1 f1 en1⟩
    | _ => exact o.elim
  | o i => exact o.elim⟩
def rDS (C : Cf) (F : D → Option Int → Option Int → Option D) : V → Option Int → Option Int → Hp → VK → Prop := fun x lo hi H Q => ∃ O a d, (∀ b, O b → H b ≠ none) ∧ Rt C O H x a ∧ F a lo hi = some d ∧ Kv C O H d Q
def rDSF (C : Cf) (F : D → Option Int → Option Int → Option D) : V → Option Int → Option Int → Hp → VK → Prop := fun x lo hi H Q => ∃ O a d, (∀ b, O b → H b ≠ none) ∧ Rt C O H x a ∧ F a lo hi = some d ∧ Kf C O H d Q
variable {lo hi : Option Expr} {gl gh : GO} {FS : D → Option Int → Option Int → Option D} {p2 : Pos}
def gSl (F : D → Option Int → Option Int → Option D) (ga : G) (gl gh : GO) : G := fun ρ => (ga ρ).bind fun r => (gl r.2).bind fun s => (gh s.2).bind fun t => (rs t.2 r.1).bind fun x => (ofO (F x s.1 t.1)).bind fun z => .ok (.d z, t.2)
def gSlF (F : D → Option Int → Option Int → Option D) (ga : G) (gl gh : GO) : GF := fun ρ => (ga ρ).bind fun r => (gl r.2).bind fun s => (gh s.2).bind fun t => (rs t.2 r.1).bind fun x => (ofO (F x s.1 t.1)).bind fun z => .ok (z, t.2)
theorem ve_sl (hr : SlR X (rDS C FS)) (he : PE X e (tV C io E ow ga)) (hl : PO X lo (tO C io E ow gl)) (hu : PO X hi (tO C io E ow gh)) : PE X (.Subscript e (.Slice lo hi none p2) pos) (tV C io E ow (gSl FS ga gl gh)) :=
  PE.imp (pe_slice hr he hl hu) fun σ H Q ⟨B, ρ, en, o⟩ => ⟨B, ρ, en, (Out.bind o).mono fun r _ o v1 H1 f1 en1 r1 => ⟨B, r.2, en1, (Out.bind o).mono fun s _ o H2 f2 en2 => ⟨B, s.2, en2, (Out.bind o).mono fun t _ o H3 f3 en3 => by
    obtain ⟨x, hx, o⟩ := (Out.bind o).rs
    obtain ⟨z, hz, o⟩ := (Out.bind o).ofO
    exact ⟨Opn B ow σ, x, z, en3.there, ((r1.keep f2).keep f3).rt en3 hx, hz, fun v H4 f4 r4 => o v H4 (((f1.trans f2).trans f3).trans (f4.mono fun _ z => z.elim)) (en3.grow f4) r4⟩⟩⟩⟩
theorem vf_sl (hr : SlR X (rDSF C FS)) (he : PE X e (tV C io E ow ga)) (hl : PO X lo (tO C io E ow gl)) (hu : PO X hi (tO C io E ow gh)) : PE X (.Subscript e (.Slice lo hi none p2) pos) (tF C io E ow (gSlF FS ga gl gh)) :=
  PE.imp (pe_slice hr he hl hu) fun σ H Q ⟨B, ρ, en, o⟩ => ⟨B, ρ, en, (Out.bind o).mono fun r _ o v1 H1 f1 en1 r1 => ⟨B, r.2, en1, (Out.bind o).mono fun s _ o H2 f2 en2 => ⟨B, s.2, en2, (Out.bind o).mono fun t _ o H3 f3 en3 => by
    obtain ⟨x, hx, o⟩ := (Out.bind o).rs
    obtain ⟨z, hz, o⟩ := (Out.bind o).ofO
    exact ⟨Opn B ow σ, x, z, en3.there, ((r1.keep f2).keep f3).rt en3 hx, hz, fun q H4 hq f4 r4 => o q H4 (((f1.trans f2).trans f3).trans (f4.mono fun _ z => z.elim)) (en3.new hq f4 r4)⟩⟩⟩⟩
/-! ## statements -/
def IoP (C : Cf) (io : Bool) (B : Bs) (H : Hp) (ρ : Env) : Prop := io = true → ∃ q d, B.m = some q ∧ ρ[0]? = some (some d) ∧ Own C B.O0 H q d
def Fin (C : Cf) (io : Bool) (ow owL : List Nat) (B : Bs) (D : Ends) : Fl → Prop
  | .nx ρ => ∀ σ H, En C io B ow H σ ρ → D.nx σ H
  | .rt d ρ => ∀ v H, Ex (fun b => B.m = some b) B.H0 H → Rp C B.O0 H v d → IoP C io B H ρ → D.rt v H
  | .rf d ρ => ∀ q H, Ex (fun b => B.m = some b) B.H0 H → B.H0 q = none → Own C (fun b => B.O0 b ∨ b = q) H q d → IoP C io B H ρ → D.rt (.ref q) H
  | .bk ρ => ∀ σ H, En C io B owL H σ ρ → D.bk σ H
  | .ct ρ => ∀ σ H, En C io B owL H σ ρ → D.ct σ H
def tS (C : Cf) (io : Bool) (E : XK) (ow ow' owL : List Nat) (g : GS) : TS := fun D σ H => ∃ B ρ, B.T = [] ∧ En C io B ow H σ ρ ∧ Out C B E (g ρ) (Fin C io ow' owL B D)
variable {st : Stmt} {rest : List Stmt} {s1 s2 : GS} {tc : GT}
theorem io_ok {B : Bs} {σ : L2.St} {H : Hp} {ρ : Env} (en : En C io B ow H σ ρ) : IoP C io B H ρ := fun h => by
  subst h
  obtain ⟨q, e1, e2, hk, e3⟩ := en.iom
  obtain ⟨q', d, a, b, o, _⟩ := en.own 0 hk
  rw [e3] at b
  cases b
  exact ⟨q, d, e1, a, o.less fun _ z => .inl z⟩
theorem Fin.nx {B : Bs} {D : Ends} {nx : L2.St → Hp → Prop} {f : Fl} (h : Fin C io ow1 owL B D f) (hn : ∀ ρ, f = .nx ρ → ∀ σ H, En C io B ow1 H σ ρ → nx σ H) (hw : ∀ ρ, f ≠ .nx ρ → True) : Fin C io ow1 owL B { D with nx := nx } f := by
  cases f with
  | nx ρ => exact hn ρ rfl
  | _ => exact h
def gNil : GS := fun ρ => .ok (.nx ρ)
def gSeq (s1 s2 : GS) : GS := fun ρ => (s1 ρ).bind fun f => match f with
  | .nx ρ' => s2 ρ'
  | f => .ok f
theorem vss_nil : PSs X [] (tS C io E ow ow owL gNil) := PSs.imp pss_nil fun D σ H ⟨B, ρ, hT, en, o⟩ => o σ H en
theorem vss_cons (h1 : PS X st (tS C io E ow ow1 owL s1)) (h2 : PSs X rest (tS C io E ow1 ow2 owL s2)) : PSs X (st :: rest) (tS C io E ow ow2 owL (gSeq s1 s2)) :=
  PSs.imp (pss_cons h1 h2) fun D σ H ⟨B, ρ, hT, en, o⟩ => ⟨B, ρ, hT, en, (Out.bind o).mono fun f _ o => by
    cases f with
    | nx ρ' => exact fun σ' H' en' => ⟨B, ρ', hT, en', o⟩
    | rt d ρ' => exact o
    | rf d ρ' => exact o
    | bk ρ' => exact o
    | ct ρ' => exact o⟩
theorem vss_one (h1 : PS X st (tS C io E ow ow1 owL s1)) : PSs X [st] (tS C io E ow ow1 owL s1) := pss_one h1
/-- open slots are closed behind a statement -/
theorem vs_wk (h : PS X st (tS C io E ow ow1 owL s1)) (hs : ∀ i, i ∈ ow2 → i ∈ ow1 := by decide) (h0 : io = true → 0 ∈ ow2 := by decide) : PS X st (tS C io E ow ow2 owL s1) :=
  PS.imp h fun D σ H ⟨B, ρ, hT, en, o⟩ => ⟨B, ρ, hT, en, o.mono fun f _ o => by
    cases f with
    | nx ρ' => exact fun σ' H' en' => o σ' H' (en'.wk hs h0)
    | rt d ρ' => exact o
    | rf d ρ' => exact o
    | bk ρ' => exact o
    | ct ρ' => exact o⟩
/-- .. ahead of it -/
theorem vs_pre (h : PS X st (tS C io E ow1 ow2 owL s1)) (hs : ∀ i, i ∈ ow1 → i ∈ ow := by decide) (h0 : io = true → 0 ∈ ow1 := by decide) : PS X st (tS C io E ow ow2 owL s1) :=
  PS.imp h fun D σ H ⟨B, ρ, hT, en, o⟩ => ⟨B, ρ, hT, en.wk hs h0, o⟩
/-- a block that never ends plainly may tell any open slots behind it -/
theorem vss_pre (h : PSs X rest (tS C io E ow1 ow2 owL s1)) (hs : ∀ i, i ∈ ow1 → i ∈ ow := by decide) (h0 : io = true → 0 ∈ ow1 := by decide) : PSs X rest (tS C io E ow ow2 owL s1) :=
  PSs.imp h fun D σ H ⟨B, ρ, hT, en, o⟩ => ⟨B, ρ, hT, en.wk hs h0, o⟩
theorem vss_wk (h : PSs X rest (tS C io E ow ow1 owL s1)) (hs : ∀ i, i ∈ ow2 → i ∈ ow1 := by decide) (h0 : io = true → 0 ∈ ow2 := by decide) : PSs X rest (tS C io E ow ow2 owL s1) :=
  PSs.imp h fun D σ H ⟨B, ρ, hT, en, o⟩ => ⟨B, ρ, hT, en, o.mono fun f _ o => by
    cases f with
    | nx ρ' => exact fun σ' H' en' => o σ' H' (en'.wk hs h0)
    | rt d ρ' => exact o
    | rf d ρ' => exact o
    | bk ρ' => exact o
    | ct ρ' => exact o⟩
def gPass : GS := fun ρ => .ok (.nx ρ)
def gBrk : GS := fun ρ => .ok (.bk ρ)
def gCont : GS := fun ρ => .ok (.ct ρ)
theorem vs_pass : PS X (.Pass pos) (tS C io E ow ow owL gPass) := PS.imp ps_pass fun D σ H ⟨B, ρ, hT, en, o⟩ => o σ H en
theorem vs_brk (hs : ∀ i, i ∈ owL → i ∈ ow := by decide) (h0 : io = true → 0 ∈ owL := by decide) : PS X (.Break pos) (tS C io E ow ow1 owL gBrk) := PS.imp ps_break fun D σ H ⟨B, ρ, hT, en, o⟩ => o σ H (en.wk hs h0)
theorem vs_cont (hs : ∀ i, i ∈ owL → i ∈ ow := by decide) (h0 : io = true → 0 ∈ owL := by decide) : PS X (.Continue pos) (tS C io E ow ow1 owL gCont) := PS.imp ps_continue fun D σ H ⟨B, ρ, hT, en, o⟩ => o σ H (en.wk hs h0)
def gExpr (g : G) : GS := fun ρ => (g ρ).bind fun r => .ok (.nx r.2)
theorem vs_expr (he : PE X e (tV C io E ow g)) (hs : swapsWith e none pos.line X.env = pure false := by rfl) : PS X (.Expr e pos) (tS C io E ow ow owL (gExpr g)) :=
  PS.imp (ps_expr he hs) fun D σ H ⟨B, ρ, hT, en, o⟩ => ⟨B, ρ, en, (Out.bind o).mono fun r _ o v H1 f1 en1 r1 => o σ H1 en1⟩
def gRet (io : Bool) (g : G) : GS := fun ρ => (g ρ).bind fun r => match r.1 with
  | .d d => .ok (.rt d r.2)
  | .o k => if io = true ∧ k = 0 then .st else (rs r.2 (.o k)).bind fun d => .ok (.rt d r.2)
theorem vs_ret (he : PE X e (tV C io E ow g)) : PS X (.Return (some e) pos) (tS C io E ow ow1 owL (gRet io g)) :=
  PS.imp (ps_ret he) fun D σ H ⟨B, ρ, hT, en, o⟩ => ⟨B, ρ, en, (Out.bind o).mono fun r _ o v H1 f1 en1 r1 => by
    obtain ⟨w, ρ'⟩ := r
    cases w with
    | d d => exact o v H1 en1.fr (Rp.less (fun _ z => .inl z) r1) (io_ok en1)
    | o k =>
      dsimp only at o
      split at o
      · exact o.elim
      · rename_i hk
        obtain ⟨d, hd, o⟩ := (Out.bind o).rs
        have rt := Rw.rt en1 r1 hd
        refine o v H1 en1.fr ?_ (io_ok en1)
        rcases rt with rt | ⟨q, rfl, ow⟩
        · exact Rp.less (fun _ z => .inl z) rt
        · refine ow.rp (fun _ z => .inl z) fun z => ?_
          obtain ⟨q', d', _, e2, _, e3⟩ := en1.own k r1.1
          rw [r1.2] at e2
          cases e2
          rcases e3 with e3 | ⟨e3, e4⟩
          · exact en1.o0 q z e3
          · subst e3
            cases io with
            | true => exact hk ⟨rfl, rfl⟩
            | false =>
              have i := en1.iom
              rw [if_neg Bool.false_ne_true, e4] at i
              cases i⟩
def gRetF (g : GF) : GS := fun ρ => (g ρ).bind fun r => .ok (.rf r.1 r.2)
theorem vs_retF {gf : GF} (he : PE X e (tF C io E ow gf)) : PS X (.Return (some e) pos) (tS C io E ow ow1 owL (gRetF gf)) :=
  PS.imp (ps_ret he) fun D σ H ⟨B, ρ, hT, en, o⟩ => ⟨B, ρ, en, (Out.bind o).mono fun r _ o q H1 f1 en1 => by
    obtain ⟨tp, tn, to⟩ := en1.tmp q r.1 List.mem_cons_self
    refine o q H1 en1.fr tp (to.less ?_) (io_ok en1.old.1)
    rintro b (z | z)
    · exact .inl z
    · rw [z]; exact .inr (.inr ⟨r.1, List.mem_cons_self⟩)⟩
def gRetN : GS := fun ρ => .ok (.rt .non ρ)
theorem vs_retN : PS X (.Return none pos) (tS C io E ow ow1 owL gRetN) := PS.imp ps_retN fun D σ H ⟨B, ρ, hT, en, o⟩ => o .non H en.fr .non (io_ok en)
def gIfS (t : GT) (s1 s2 : GS) : GS := fun ρ => (t ρ).bind fun r => if r.1 = true then s1 r.2 else s2 r.2
theorem vs_if {b1 b2 : List Stmt} (hc : PT X c (tT C io E ow tc)) (ha : PSs X b1 (tS C io E ow ow1 owL s1)) (hb : PSs X b2 (tS C io E ow ow1 owL s2)) : PS X (.If c b1 b2 pos) (tS C io E ow ow1 owL (gIfS tc s1 s2)) :=
  PS.imp (ps_if hc ha hb) fun D σ H ⟨B, ρ, hT, en, o⟩ => ⟨B, ρ, en, (Out.bind o).mono fun r _ o H1 f1 en1 => by
    obtain ⟨k, ρ1⟩ := r
    cases k with
    | true => exact ⟨B, ρ1, hT, en1, o⟩
    | false => exact ⟨B, ρ1, hT, en1, o⟩⟩
/-! ## names assigned -/
variable {i j : Nat} {x y : Str} {pos' : Pos}
def gSet (i : Nat) (g : G) : GS := fun ρ => (g ρ).bind fun r => match r.1 with
  | .d d => .ok (.nx (r.2.set i (some d)))
  | .o _ => .st
theorem vs_set (hN : X.N.Nodup) (hi : X.N[i]? = some x) (hx : Loc X.env.scope x) (he : PE X e (tV C io E ow g)) (hn : i ∉ ow := by decide) (hs : swapsWith e (some (.Name x pos')) pos.line X.env = pure false := by rfl) (hf : X.fn x = true ∨ X.env.scope.names.lookup x = some .local := by first | exact .inl rfl | exact .inr rfl | assumption) :
    PS X (.Assign [.Name x pos'] e pos) (tS C io E ow ow owL (gSet i g)) :=
  PS.imp (ps_set hN hi hx he hs hf) fun D σ H ⟨B, ρ, hT, en, o⟩ => ⟨B, ρ, en, (Out.bind o).mono fun r _ o v H1 f1 en1 r1 => by
    obtain ⟨w, ρ'⟩ := r
    cases w with
    | d d => exact o _ _ (en1.set hn r1)
    | o k => exact o.elim⟩
def gSetF (i : Nat) (g : GF) : GS := fun ρ => (g ρ).bind fun r => if i < r.2.length then .ok (.nx (r.2.set i (some r.1))) else .st
theorem vs_setF {gf : GF} (hN : X.N.Nodup) (hi : X.N[i]? = some x) (hx : Loc X.env.scope x) (he : PE X e (tF C io E ow gf)) (h0 : io = true → i ≠ 0 := by decide) (hs : swapsWith e (some (.Name x pos')) pos.line X.env = pure false := by rfl) (hf : X.fn x = true ∨ X.env.scope.names.lookup x = some .local := by first | exact .inl rfl | exact .inr rfl | assumption) :
    PS X (.Assign [.Name x pos'] e pos) (tS C io E ow (addO i ow) owL (gSetF i gf)) :=
  PS.imp (ps_set hN hi hx he hs hf) fun D σ H ⟨B, ρ, hT, en, o⟩ => ⟨B, ρ, en, (Out.bind o).mono fun r _ o q H1 f1 en1 => by
    split at o
    · exact o _ _ (en1.setO (by assumption) h0)
    · exact o.elim⟩
end
end VL
namespace VL
open PySem PySem.Spec PyProof.Rows L2
section
variable {X : Cx} {C : Cf} {io : Bool} {E : XK} {ow ow1 ow2 ow3 owL : List Nat} {e a b c : Expr} {es : List Expr} {pos p : Pos} {g ga gb gc : G}
/-! ## targets -/
/-- two frames' values that are unlike at ts alone -/
structure Ag (ts : List Nat) (σ σ' : L2.St) : Prop where
  len : σ'.length = σ.length
  off : ∀ j, j ∉ ts → σ'[j]? = σ[j]?
theorem Ag.refl {ts : List Nat} {σ : L2.St} : Ag ts σ σ := ⟨rfl, fun _ _ => rfl⟩
theorem Ag.trans {t1 t2 : List Nat} {a b c : L2.St} (x : Ag t1 a b) (y : Ag t2 b c) : Ag (t1 ++ t2) a c := ⟨y.len.trans x.len, fun j h => (y.off j fun z => h (List.mem_append_right _ z)).trans (x.off j fun z => h (List.mem_append_left _ z))⟩
abbrev GG := D → Env → Res Env
abbrev GGs := List D → Env → Res Env
def tG (C : Cf) (io : Bool) (E : XK) (ow ts : List Nat) (g : GG) : TG := fun v σ H Q => ∃ B ρ d, En C io B ow H σ ρ ∧ Rp C (Opn B ow σ) H v d ∧ Out C B E (g d ρ) fun ρ' => ∀ σ', Ag ts σ σ' → En C io B ow H σ' ρ' → Q σ' H
def tGs (C : Cf) (io : Bool) (E : XK) (ow ts : List Nat) (g : GGs) : TGs := fun v σ H Q => ∃ B ρ d, En C io B ow H σ ρ ∧ RpL C (Opn B ow σ) H v d ∧ Out C B E (g d ρ) fun ρ' => ∀ σ', Ag ts σ σ' → En C io B ow H σ' ρ' → Q σ' H
theorem PG.imp {X : Cx} {e : Expr} {t t' : TG} (h : PG X e t) (i : ∀ v σ H Q, t' v σ H Q → t v σ H Q) : PG X e t' := ⟨fun pins s σ H v u Q I r q => h.run pins s σ H v u Q I r (i v σ H Q q)⟩
theorem PGs.imp {X : Cx} {e : List Expr} {t t' : TGs} (h : PGs X e t) (i : ∀ v σ H Q, t' v σ H Q → t v σ H Q) : PGs X e t' := ⟨fun pins s σ H v u Q I r q => h.run pins s σ H v u Q I r (i v σ H Q q)⟩
def ggName (i : Nat) : GG := fun d ρ => .ok (ρ.set i (some d))
theorem vg_name {i : Nat} {x : Str} (hN : X.N.Nodup) (hi : X.N[i]? = some x) (hx : Loc X.env.scope x) (hn : i ∉ ow := by decide) (hf : X.fn x = true ∨ X.env.scope.names.lookup x = some .local := by first | exact .inl rfl | exact .inr rfl | assumption) : PG X (.Name x pos) (tG C io E ow [i] (ggName i)) :=
  PG.imp (pg_name hN hi hx hf) fun v σ H Q ⟨B, ρ, d, en, r, o⟩ => o _ ⟨List.length_set, fun j h => List.getElem?_set_ne fun z => h (by rw [z]; exact List.mem_cons_self)⟩ (en.set hn r)
def ggNil : GGs := fun ds ρ => match ds with
  | [] => .ok ρ
  | _ => .st
def ggCons (g : GG) (gs : GGs) : GGs := fun ds ρ => match ds with
  | d :: ds => (g d ρ).bind fun ρ' => gs ds ρ'
  | [] => .st
theorem vgs_nil : PGs X [] (tGs C io E ow [] ggNil) := PGs.imp pgs_nil fun vs σ H Q ⟨B, ρ, ds, en, r, o⟩ => by
  cases r with
  | nil => exact ⟨rfl, o σ Ag.refl en⟩
  | cons => exact o.elim
theorem rp_zip {O : Hs} {H : Hp} : ∀ {vs : List V} {ds : List D}, RpL C O H vs ds → ∀ q, q ∈ vs.zip ds → Rp C O H q.1 q.2
  | _, _, .nil, q, h => by cases h
  | _, _, .cons a b, q, h => by
    rcases List.mem_cons.mp h with rfl | h
    · exact a
    · exact rp_zip b q h
theorem zip_rp {O : Hs} {H : Hp} : ∀ {vs : List V} {ds : List D}, vs.length = ds.length → (∀ q, q ∈ vs.zip ds → Rp C O H q.1 q.2) → RpL C O H vs ds
  | [], [], _, _ => .nil
  | [], _ :: _, h, _ => by cases h
  | _ :: _, [], h, _ => by cases h
  | v :: vs, d :: ds, h, k => .cons (k (v, d) List.mem_cons_self) (zip_rp (Nat.succ.inj h) fun q hq => k q (List.mem_cons_of_mem _ hq))
theorem vgs_cons {ts1 ts2 : List Nat} {gg : GG} {gs : GGs} (h1 : PG X e (tG C io E ow ts1 gg)) (h2 : PGs X es (tGs C io E ow ts2 gs)) (hs : (assignEach (e :: es) X.env).map (·.2) = assign e X.env :: (assignEach es X.env).map (·.2) := by rfl) :
    PGs X (e :: es) (tGs C io E ow (ts1 ++ ts2) (ggCons gg gs)) := PGs.imp (pgs_cons h1 h2 hs) fun vs σ H Q ⟨B, ρ, ds, en, r, o⟩ => by
  cases r with
  | nil => exact o.elim
  | @cons v vs d ds r rr =>
    refine ⟨v, vs, rfl, { B with px := vs.zip ds ++ B.px }, ρ, d, en.hold (rp_zip rr), r, (Out.bind o).mono fun ρ1 _ o σ1 ag1 en1 => ⟨B, ρ1, ds, en1.unhold, ?_, Out.mono o fun ρ2 _ o σ2 ag2 en2 => o σ2 (ag1.trans ag2) en2⟩⟩
    exact zip_rp rr.len fun q hq => en1.pin q (List.mem_append_left _ hq)
def ggTup (n : Nat) (gs : GGs) : GG := fun d ρ => match d with
  | .tup ds => if ds.length = n then gs ds ρ else .st
  | .lst ds => if ds.length = n then gs ds ρ else .st
  | _ => .st
theorem PG.or {X : Cx} {e : Expr} {t t' : TG} (h : PG X e t) (h' : PG X e t') : PG X e fun v σ H Q => t v σ H Q ∨ t' v σ H Q := ⟨fun pins s σ H v u Q I r q => q.elim (h.run pins s σ H v u Q I r) (h'.run pins s σ H v u Q I r)⟩
theorem vg_tup (n : Nat) {k : Nat} {ts : List Nat} {gs : GGs} (hC : C.K = X.K) (hc : X.calm = true) (h : PGs X es (tGs C io E ow ts gs)) (hn : (assignEach es X.env).length = n := by rfl) (hst : (assignEach es X.env).findIdx? (·.1) = none := by rfl) : PG X (.Tuple es k pos) (tG C io E ow ts (ggTup n gs)) :=
  PG.imp (PG.or (pg_tup hc h hn hst) (pg_lst hc h hn hst)) fun v σ H Q ⟨B, ρ, d, en, r, o⟩ => by
  cases r with
  | tup e rr =>
    have e := e.sqt
    unfold ggTup at o
    dsimp only at o
    split at o
    · rename_i hl
      exact .inl ⟨_, _, rfl, hC ▸ e, by rw [rr.len]; exact hl, B, ρ, _, en, rr, o⟩
    · exact o.elim
  | lst _ e rr =>
    unfold ggTup at o
    dsimp only at o
    split at o
    · rename_i hl
      exact .inr ⟨_, _, rfl, hC ▸ SqL.of e, by rw [rr.len]; exact hl, B, ρ, _, en, rr, o⟩
    · exact o.elim
  | _ => exact o.elim
/-- target = value -/
def gAsg (ga : G) (gg : GG) : GS := fun ρ => (ga ρ).bind fun r => match r.1 with
  | .d d => (gg d r.2).bind fun ρ' => .ok (.nx ρ')
  | .o _ => .st
theorem vs_asg {tg : Expr} {ts : List Nat} {gg : GG} (he : PE X e (tV C io E ow ga)) (hg : PG X tg (tG C io E ow ts gg)) (hs : swapsWithSole [tg] e pos.line X.env = pure false := by rfl) (hw : swappedStores [tg] e X.env = pure none := by rfl)
    (h1 : (assignEach [tg] X.env).map (·.2) = [assign tg X.env] := by rfl) : PS X (.Assign [tg] e pos) (tS C io E ow ow owL (gAsg ga gg)) :=
  PS.imp (ps_asg he hg hs hw h1) fun D σ H ⟨B, ρ, hT, en, o⟩ => ⟨B, ρ, en, (Out.bind o).mono fun r _ o v H1 f1 en1 r1 => by
    obtain ⟨w, ρ'⟩ := r
    cases w with
    | d d => exact ⟨B, ρ', d, en1, r1, (Out.bind o).mono fun ρ2 _ o σ2 _ en2 => o σ2 H1 en2⟩
    | o k => exact o.elim⟩
/-! ## what is walked -/
structure Wk (C : Cf) (J : It) (q : List (V × D)) (ds : List D) : Prop where
  go : ∀ O H i, (∀ x, x ∈ q → Rp C O H x.1 x.2) → i < ds.length → J.go i H
  stop : ∀ O H, (∀ x, x ∈ q → Rp C O H x.1 x.2) → J.stop ds.length H
  yld : ∀ O H i x H', (∀ b, O b → H b ≠ none) → (∀ x, x ∈ q → Rp C O H x.1 x.2) → i < ds.length → J.yld i H x H' → ∃ d, ds[i]? = some d ∧ Ex Nil H H' ∧ Rp C O H' x d
abbrev GI := Env → Res (List D × Env)
def tI (C : Cf) (io : Bool) (E : XK) (ow : List Nat) (g : GI) : TI := fun σ H R => ∃ B ρ, En C io B ow H σ ρ ∧ Out C B E (g ρ) fun r => ∀ J q H', Ex (ownA ow σ) H H' → En C io { B with px := q ++ B.px } ow H' σ r.2 → Wk C J q r.1 → r.1.length ≤ sizeLine → R J H'
theorem PI.imp {X : Cx} {tg e : Expr} {t t' : TI} (h : PI X tg e t) (i : ∀ σ H Q, t' σ H Q → t σ H Q) : PI X tg e t' := ⟨fun pins s σ H R I q => h.run pins s σ H R I (i σ H R q)⟩
theorem PI.or {X : Cx} {tg e : Expr} {t t' : TI} (h : PI X tg e t) (h' : PI X tg e t') : PI X tg e fun σ H Q => t σ H Q ∨ t' σ H Q := ⟨fun pins s σ H R I q => q.elim (h.run pins s σ H R I) (h'.run pins s σ H R I)⟩
/-- sizes -/
structure Sz (K : PySem.W.Frag) (H : Hp) : Prop where
  tup : ∀ a xs, SqT K H a xs → xs.length ≤ sizeLine
  lst : ∀ a xs, SqL K H a xs → xs.length ≤ sizeLine
  tinj : ∀ a xs ys, SqT K H a xs → SqT K H a ys → xs = ys
  linj : ∀ a xs ys, SqL K H a xs → SqL K H a ys → xs = ys
theorem _root_.PySem.L2x.sz {X : Cx} {pins : List (Addr × Obj)} {σ : L2.St} {H : Hp} {s : Shared} (I : Inv X pins σ H s) : Sz X.K H := ⟨fun a xs h => let ⟨_, _, _, z⟩ := I.tuple h; z, fun a xs h => let ⟨_, _, _, z⟩ := I.list h; z, fun _ _ _ h h' => I.tuple_inj h h', fun _ _ _ h h' => I.list_inj h h'⟩
theorem PE.sz {X : Cx} {e : Expr} {t : TE} (h : PE X e t) : PE X e fun σ H Q => t σ H fun v H1 => Sz X.K H1 → Q v H1 := ⟨fun pins s σ H Q I q => thn (h.run pins s σ H _ I q) fun u s1 ⟨v, H1, I1, r1, q1⟩ => ⟨v, H1, I1, r1, q1 (PySem.L2x.sz I1)⟩⟩
theorem PA.sz {X : Cx} {e : List Expr} {t : TA} (h : PA X e t) : PA X e fun σ H Q => t σ H fun v H1 => Sz X.K H1 → Q v H1 := ⟨fun pos pins s σ H Q I q => thn (h.run pos pins s σ H _ I q) fun u s1 ⟨v, H1, I1, r1, q1⟩ => ⟨v, H1, I1, r1, q1 (PySem.L2x.sz I1)⟩⟩
theorem wk_tup {K : PySem.W.Frag} (hK : C.K = K) {a : Addr} {ds : List D} : Wk C (Itt K a) [(.ref a, .tup ds)] ds where
  go := fun O H i hq hi => by
    have r := hq _ List.mem_cons_self
    cases r with
    | tup e rr =>
      have e := e.sqt
      subst hK
      obtain ⟨v, hv, _⟩ := rr.atD (List.getElem?_eq_getElem hi)
      exact ⟨_, v, e, hv⟩
  stop := fun O H hq => by
    have r := hq _ List.mem_cons_self
    cases r with
    | tup e rr =>
      have e := e.sqt
      subst hK
      exact ⟨_, e, Nat.le_of_eq rr.len⟩
  yld := fun O H i x H' _ hq hi hy => by
    have r := hq _ List.mem_cons_self
    cases r with
    | tup e rr =>
      have e := e.sqt
      subst hK
      obtain ⟨rfl, hy⟩ := hy
      obtain ⟨d, hd, rd⟩ := rr.at (hy _ e)
      exact ⟨d, hd, Ex.refl, rd⟩
theorem wk_lst {K : PySem.W.Frag} (hK : C.K = K) {a : Addr} {ds : List D} : Wk C (Itl K a) [(.ref a, .lst ds)] ds where
  go := fun O H i hq hi => by
    have r := hq _ List.mem_cons_self
    cases r with
    | lst _ e rr =>
      subst hK
      obtain ⟨v, hv, _⟩ := rr.atD (List.getElem?_eq_getElem hi)
      exact ⟨_, v, SqL.of e, hv⟩
  stop := fun O H hq => by
    have r := hq _ List.mem_cons_self
    cases r with
    | lst _ e rr =>
      subst hK
      exact ⟨_, SqL.of e, Nat.le_of_eq rr.len⟩
  yld := fun O H i x H' _ hq hi hy => by
    have r := hq _ List.mem_cons_self
    cases r with
    | lst _ e rr =>
      subst hK
      obtain ⟨rfl, hy⟩ := hy
      obtain ⟨d, hd, rd⟩ := rr.at (hy _ (SqL.of e))
      exact ⟨d, hd, Ex.refl, rd⟩
def itD : D → Option (List D)
  | .tup ds => some ds
  | .lst ds => some ds
  | _ => none
def gIt (ga : G) : GI := fun ρ => (ga ρ).bind fun r => match r.1 with
  | .d d => (ofO (itD d)).bind fun ds => .ok (ds, r.2)
  | .o _ => .st
theorem hold1 {B : Bs} {σ : L2.St} {H : Hp} {ρ : Env} {v : V} {d : D} (en : En C io B ow H σ ρ) (r : Rp C (Opn B ow σ) H v d) : En C io { B with px := [(v, d)] ++ B.px } ow H σ ρ := en.hold fun x hx => by
  rw [List.mem_singleton.mp hx]
  exact r
theorem vi_seq {tg : Expr} (hC : C.K = X.K) (he : PE X e (tV C io E ow ga)) : PI X tg e (tI C io E ow (gIt ga)) :=
  PI.imp (PI.or (pi_tup (tg := tg) (PE.sz he)) (pi_list (tg := tg) (PE.sz he))) fun σ H R ⟨B, ρ, en, o⟩ => by
    unfold gIt at o
    have o := Out.bind o
    cases hg : ga ρ with
    | st => rw [hg] at o; exact o.elim
    | er c fs vs =>
      rw [hg] at o
      refine .inl ⟨B, ρ, en, ?_⟩
      rw [hg]
      exact o
    | ok r =>
      rw [hg] at o
      obtain ⟨w, ρ'⟩ := r
      cases w with
      | o k => exact o.elim
      | d d =>
        obtain ⟨ds, hds, o⟩ := (Out.bind (show Out C B E ((ofO (itD d)).bind fun ds => .ok (ds, ρ')) _ from o)).ofO
        cases d with
        | tup ds' =>
          cases hds
          refine .inl ⟨B, ρ, en, ?_⟩
          rw [hg]
          intro v H1 f1 en1 r1 sz
          cases r1 with
          | tup e rr => exact ⟨_, rfl, ⟨_, hC ▸ e.sqt⟩, o _ _ _ f1 (hold1 en1 (.tup e rr)) (wk_tup hC) (by rw [← rr.len]; exact sz.tup _ _ (hC ▸ e.sqt))⟩
        | lst ds' =>
          cases hds
          refine .inr ⟨B, ρ, en, ?_⟩
          rw [hg]
          intro v H1 f1 en1 r1 sz
          cases r1 with
          | lst n e rr => exact ⟨_, rfl, ⟨_, SqL.of e⟩, o _ _ _ f1 (hold1 en1 (.lst n e rr)) (wk_lst hC) (by rw [← rr.len]; exact sz.lst _ _ (SqL.of e))⟩
        | _ => cases hds
/-- range -/
def rngL (lo : Int) (n : Nat) : List D := (List.range n).map fun (i : Nat) => D.int (lo + (i : Int))
theorem wk_rng {lo : Int} {n : Nat} : Wk C (Itr lo n) [] (rngL lo n) where
  go := fun O H i _ hi => by
    show i < n
    simpa [rngL] using hi
  stop := fun O H _ => by simp [Itr, rngL]
  yld := fun O H i x H' _ _ hi hy => by
    obtain ⟨rfl, rfl⟩ := hy
    refine ⟨_, ?_, Ex.refl, .int _⟩
    unfold rngL at hi ⊢
    rw [List.getElem?_map, List.getElem?_range (by simpa using hi)]
    rfl
def rng1 : List W → Option (List D)
  | [.d (.int j)] => if -1000000000 ≤ j ∧ j ≤ 1000000 then some (rngL 0 j.toNat) else none
  | _ => none
def rng2 : List W → Option (List D)
  | [.d (.int i), .d (.int j)] => if -1000000000 ≤ i ∧ i ≤ 1000000000 ∧ -1000000000 ≤ j ∧ j ≤ 1000000000 ∧ j - i ≤ 1000000 then some (rngL i (j - i).toNat) else none
  | _ => none
theorem rng1_ok : ∀ {ws : List W} {ds : List D}, rng1 ws = some ds → ∃ j, ws = [.d (.int j)] ∧ -1000000000 ≤ j ∧ j ≤ 1000000 ∧ ds = rngL 0 j.toNat := by
  intro ws ds h
  unfold rng1 at h
  split at h
  · split at h
    · rename_i hj
      cases h
      exact ⟨_, rfl, hj.1, hj.2, rfl⟩
    · cases h
  · cases h
theorem rng2_ok : ∀ {ws : List W} {ds : List D}, rng2 ws = some ds → ∃ i j, ws = [.d (.int i), .d (.int j)] ∧ (-1000000000 ≤ i ∧ i ≤ 1000000000 ∧ -1000000000 ≤ j ∧ j ≤ 1000000000 ∧ j - i ≤ 1000000) ∧ ds = rngL i (j - i).toNat := by
  intro ws ds h
  unfold rng2 at h
  split at h
  · split at h
    · rename_i hj
      cases h
      exact ⟨_, _, rfl, hj, rfl⟩
    · cases h
  · cases h
def gRng (f : List W → Option (List D)) (ga : GA) : GI := fun ρ => (ga ρ).bind fun r => (ofO (f r.1)).bind fun ds => .ok (ds, r.2)
theorem small_n {n : Nat} (h : n ≤ 1000000) : n ≤ sizeLine := Nat.le_trans h (by decide)
variable {tg : Expr} {gr : GA}
theorem vi_range1 (hg : Gl X "range") (hm : X.mg "range" = none) (ha : PA X [a] (tA C io E ow gr)) (hs : starEach [a] X.env = [(false, eval a X.env)] := by rfl) : PI X tg (.Call (.Name "range" p) [a] [] pos) (tI C io E ow (gRng rng1 gr)) :=
  PI.imp (pi_range1 hg hm ha hs) fun σ H R ⟨B, ρ, en, o⟩ => ⟨B, ρ, en, (Out.bind o).mono fun r _ o vs H1 f1 en1 r1 => by
    obtain ⟨ws, ρ'⟩ := r
    obtain ⟨ds, hd, o⟩ := (Out.bind o).ofO
    obtain ⟨j, rfl, h1, h2, rfl⟩ := rng1_ok hd
    match vs, r1 with
    | [v], r1 =>
      have r2 := r1.1
      cases r2
      refine ⟨j, rfl, by omega, by omega, o _ [] _ f1 en1 wk_rng ?_⟩
      unfold rngL
      rw [List.length_map, List.length_range]
      exact small_n (by omega)
    | [], r1 => exact r1.elim
    | _ :: _ :: _, r1 => exact r1.2.elim⟩
theorem vi_range2 (hg : Gl X "range") (hm : X.mg "range" = none) (ha : PA X [a, b] (tA C io E ow gr)) (hs : starEach [a, b] X.env = [(false, eval a X.env), (false, eval b X.env)] := by rfl) (hs2 : starEach [b] X.env = [(false, eval b X.env)] := by rfl) : PI X tg (.Call (.Name "range" p) [a, b] [] pos) (tI C io E ow (gRng rng2 gr)) :=
  PI.imp (pi_range2 hg hm ha hs hs2) fun σ H R ⟨B, ρ, en, o⟩ => ⟨B, ρ, en, (Out.bind o).mono fun r _ o vs H1 f1 en1 r1 => by
    obtain ⟨ws, ρ'⟩ := r
    obtain ⟨ds, hd, o⟩ := (Out.bind o).ofO
    obtain ⟨i, j, rfl, h1, rfl⟩ := rng2_ok hd
    match vs, r1 with
    | [v, u], r1 =>
      have r2 := r1.1
      have r3 := r1.2.1
      cases r2
      cases r3
      refine ⟨i, j, rfl, ⟨by omega, by omega, by omega, by omega⟩, o _ [] _ f1 en1 wk_rng ?_⟩
      unfold rngL
      rw [List.length_map, List.length_range]
      exact small_n (by omega)
    | [], r1 => exact r1.elim
    | [_], r1 => exact r1.2.elim
    | _ :: _ :: _ :: _, r1 => exact r1.2.2.elim⟩
/-- a text's signs -/
theorem wk_str {x : Str} : Wk C (Its x) [] (x.cps.toList.map fun c => D.str ⟨#[c]⟩) where
  go := fun O H i _ hi => by simpa [Its] using hi
  stop := fun O H _ => by simp [Its]
  yld := fun O H i v H' _ _ hi hy => by
    obtain ⟨rfl, c, hc, rfl⟩ := hy
    refine ⟨_, ?_, Ex.refl, .str _⟩
    rw [List.getElem?_map, Array.getElem?_toList, hc]
    rfl
def gItS (ga : G) : GI := fun ρ => (ga ρ).bind fun r => match r.1 with
  | .d (.str x) => if x.length ≤ sizeLine then .ok (x.cps.toList.map fun c => D.str ⟨#[c]⟩, r.2) else .st
  | _ => .st
theorem vi_str (he : PE X e (tV C io E ow ga)) : PI X tg e (tI C io E ow (gItS ga)) :=
  PI.imp (pi_str he) fun σ H R ⟨B, ρ, en, o⟩ => ⟨B, ρ, en, (Out.bind o).mono fun r _ o v H1 f1 en1 r1 => by
    obtain ⟨w, ρ'⟩ := r
    cases w with
    | o k => exact o.elim
    | d d =>
      cases d with
      | str x =>
        dsimp only at o
        split at o
        · rename_i hx
          cases r1
          refine ⟨x, rfl, o _ [] _ f1 en1 wk_str ?_⟩
          rw [List.length_map]
          exact hx
        · exact o.elim
      | _ => exact o.elim⟩
/-- enumerate of a tuple, of a list -/
def enumL (ds : List D) : List D := ds.mapIdx fun i d => .tup [.int (i : Nat), d]
theorem enumL_at {ds : List D} {i : Nat} {d : D} (h : ds[i]? = some d) : (enumL ds)[i]? = some (.tup [.int (i : Nat), d]) := by
  unfold enumL
  rw [List.getElem?_mapIdx, h]
  rfl
theorem enumL_len {ds : List D} : (enumL ds).length = ds.length := by
  unfold enumL
  rw [List.length_mapIdx]
theorem pair_new {O : Hs} {H : Hp} {T : Addr} {v u : V} {d c : D} (hO : ∀ b, O b → H b ≠ none) (hT : H T = none) (r : Rp C O H v d) (s : Rp C O H u c) : Rp C O (upd H T (.tup [v, u])) (.ref T) (.tup [d, c]) :=
  .tup (.inl upd_same) (.cons (r.keep (Ex.new (M := Nil) hT) fun _ z => z.elim) (.cons (s.keep (Ex.new (M := Nil) hT) fun _ z => z.elim) .nil))
theorem wk_enT {K : PySem.W.Frag} (hK : C.K = K) {a : Addr} {ds : List D} : Wk C (LT.IteT K a) [(.ref a, .tup ds)] (enumL ds) where
  go := fun O H i hq hi => by
    have r := hq _ List.mem_cons_self
    rw [enumL_len] at hi
    cases r with
    | tup e rr =>
      have e := e.sqt
      subst hK
      obtain ⟨v, hv, _⟩ := rr.atD (List.getElem?_eq_getElem hi)
      exact ⟨_, v, e, hv⟩
  stop := fun O H hq => by
    have r := hq _ List.mem_cons_self
    rw [enumL_len]
    cases r with
    | tup e rr =>
      have e := e.sqt
      subst hK
      exact ⟨_, e, Nat.le_of_eq rr.len⟩
  yld := fun O H i x H' hO hq hi hy => by
    have r := hq _ List.mem_cons_self
    cases r with
    | tup e rr =>
      have e := e.sqt
      subst hK
      obtain ⟨T, y, rfl, hT, rfl, hy⟩ := hy
      obtain ⟨d, hd, rd⟩ := rr.at (hy _ e)
      exact ⟨_, enumL_at hd, Ex.new hT, pair_new hO hT (.int _) rd⟩
theorem wk_enL {K : PySem.W.Frag} (hK : C.K = K) {a : Addr} {ds : List D} : Wk C (Ite K a) [(.ref a, .lst ds)] (enumL ds) where
  go := fun O H i hq hi => by
    have r := hq _ List.mem_cons_self
    rw [enumL_len] at hi
    cases r with
    | lst _ e rr =>
      subst hK
      obtain ⟨v, hv, _⟩ := rr.atD (List.getElem?_eq_getElem hi)
      exact ⟨_, v, SqL.of e, hv⟩
  stop := fun O H hq => by
    have r := hq _ List.mem_cons_self
    rw [enumL_len]
    cases r with
    | lst _ e rr =>
      subst hK
      exact ⟨_, SqL.of e, Nat.le_of_eq rr.len⟩
  yld := fun O H i x H' hO hq hi hy => by
    have r := hq _ List.mem_cons_self
    cases r with
    | lst _ e rr =>
      subst hK
      obtain ⟨T, y, rfl, hT, rfl, hy⟩ := hy
      obtain ⟨d, hd, rd⟩ := rr.at (hy _ (SqL.of e))
      exact ⟨_, enumL_at hd, Ex.new hT, pair_new hO hT (.int _) rd⟩
def enD : List W → Option (List D)
  | [.d (.tup ds)] => some (enumL ds)
  | [.d (.lst ds)] => some (enumL ds)
  | _ => none
theorem vi_enum {elts : List Expr} {kk : Nat} {tpos : Pos} (hC : C.K = X.K) (hg : Gl X "enumerate") (hm : X.mg "enumerate" = none) (ha : PA X [a] (tA C io E ow gr)) (hs : starEach [a] X.env = [(false, eval a X.env)] := by rfl) : PI X (.Tuple elts kk tpos) (.Call (.Name "enumerate" p) [a] [] pos) (tI C io E ow (gRng enD gr)) :=
  PI.imp (PI.or (LT.pi_enumT hg hm (PA.sz ha) hs) (pi_enum hg hm (PA.sz ha) hs)) fun σ H R ⟨B, ρ, en, o⟩ => by
    unfold gRng at o
    have o := Out.bind o
    cases hgr : gr ρ with
    | st => rw [hgr] at o; exact o.elim
    | er c fs vs =>
      rw [hgr] at o
      refine .inl ⟨B, ρ, en, ?_⟩
      rw [hgr]
      exact o
    | ok r =>
      rw [hgr] at o
      obtain ⟨ws, ρ'⟩ := r
      obtain ⟨ds, hds, o⟩ := (Out.bind (show Out C B E ((ofO (enD ws)).bind fun ds => .ok (ds, ρ')) _ from o)).ofO
      unfold enD at hds
      split at hds
      · cases hds
        refine .inl ⟨B, ρ, en, ?_⟩
        rw [hgr]
        intro vs H1 f1 en1 r1 sz
        match vs, r1 with
        | [v], r1 =>
          have r2 := r1.1
          cases r2 with
          | tup e rr => exact ⟨_, _, rfl, hC ▸ e.sqt, o _ _ _ f1 (hold1 en1 (.tup e rr)) (wk_enT hC) (by rw [enumL_len, ← rr.len]; exact sz.tup _ _ (hC ▸ e.sqt))⟩
        | [], r1 => exact r1.elim
        | _ :: _ :: _, r1 => exact r1.2.elim
      · cases hds
        refine .inr ⟨B, ρ, en, ?_⟩
        rw [hgr]
        intro vs H1 f1 en1 r1 sz
        match vs, r1 with
        | [v], r1 =>
          have r2 := r1.1
          cases r2 with
          | lst n e rr => exact ⟨_, _, rfl, SqL.of e, o _ _ _ f1 (hold1 en1 (.lst n e rr)) (wk_enL hC) (by rw [enumL_len, ← rr.len]; exact sz.lst _ _ (SqL.of e))⟩
        | [], r1 => exact r1.elim
        | _ :: _ :: _, r1 => exact r1.2.elim
      · cases hds
end
end VL
namespace VL
open PySem PySem.Spec PyProof.Rows L2
section
variable {X : Cx} {C : Cf} {io : Bool} {E : XK} {ow ow1 ow2 ow3 owL ts : List Nat} {e a b c tg iter : Expr} {es : List Expr} {pos p : Pos} {g ga gb gc : G} {gi : GI} {gg : GG} {s1 s2 : GS} {body : List Stmt}
/-! ## for -/
def forL (gg : GG) (s : GS) : List D → Env → Res Fl
  | [], ρ => .ok (.nx ρ)
  | d :: ds, ρ => (gg d ρ).bind fun ρ1 => (s ρ1).bind fun f => match f with
    | .nx ρ2 => forL gg s ds ρ2
    | .ct ρ2 => forL gg s ds ρ2
    | .bk ρ2 => .ok (.nx ρ2)
    | .rt d ρ2 => .ok (.rt d ρ2)
    | .rf d ρ2 => .ok (.rf d ρ2)
def gFor (gi : GI) (gg : GG) (s : GS) : GS := fun ρ => (gi ρ).bind fun r => forL gg s r.1 r.2
theorem vs_for (hp : PassesOwn (model X.prog X.w) X.A X.env X.xe) (hc : X.calm = true) (hi : PI X tg iter (tI C io E ow gi)) (hg : PG X tg (tG C io E ow ts gg)) (hb : PSs X body (tS C io E ow ow ow s1))
    (hs : ∀ x, foldedSetIterable iter X.env x = pure x := by intro _; rfl) : PS X (.For tg iter body [] pos) (tS C io E ow ow owL (gFor gi gg s1)) :=
  PS.imp (ps_for hp hc hi hg hb hs) fun D σ H ⟨B, ρ, hT, en, o⟩ => ⟨B, ρ, en, (Out.bind o).mono fun r _ o J q H1 f1 en1 wk _ => by
    refine ⟨fun i m σ H => ∃ ρ, i + m = r.1.length ∧ En C io { B with px := q ++ B.px } ow H σ ρ ∧ Out C B E (forL gg s1 (r.1.drop i) ρ) (Fin C io ow owL B D), ⟨r.1.length, r.2, Nat.zero_add _, en1, by rw [List.drop_zero]; exact o⟩, ?_⟩
    rintro i m σ2 H2 ⟨ρ2, hm, en2, o2⟩
    have hq : ∀ x, x ∈ q → Rp C (Opn B ow σ2) H2 x.1 x.2 := fun x hx => en2.pin x (List.mem_append_left _ hx)
    cases m with
    | zero =>
      rw [Nat.add_zero] at hm
      subst hm
      rw [List.drop_length] at o2
      exact .inl ⟨wk.stop _ _ hq, o2 σ2 H2 en2.unhold⟩
    | succ m =>
      have hi : i < r.1.length := by omega
      refine .inr ⟨wk.go _ _ i hq hi, fun σ' H' => ∃ ρ, (i + 1) + m = r.1.length ∧ En C io { B with px := q ++ B.px } ow H' σ' ρ ∧ Out C B E (forL gg s1 (r.1.drop (i + 1)) ρ) (Fin C io ow owL B D), fun σ' H' h => ⟨m, Nat.lt_succ_self m, h⟩, fun x H3 hy => ?_⟩
      obtain ⟨d, hd, f3, r3⟩ := wk.yld _ _ i x H3 en2.there hq hi hy
      have e3 : r.1.drop i = d :: r.1.drop (i + 1) := by
        rw [List.drop_eq_getElem_cons hi]
        rw [List.getElem?_eq_getElem hi] at hd
        cases hd
        rfl
      rw [e3] at o2
      refine ⟨{ B with px := q ++ B.px }, ρ2, d, en2.grow f3, r3, (Out.bind o2).mono fun ρ3 _ o3 σ4 _ en4 => ⟨{ B with px := q ++ B.px }, ρ3, hT, en4, (Out.bind o3).mono fun f _ o4 => ?_⟩⟩
      cases f with
      | nx ρ5 => exact fun σ5 H5 en5 => ⟨ρ5, by omega, en5, o4⟩
      | ct ρ5 => exact fun σ5 H5 en5 => ⟨ρ5, by omega, en5, o4⟩
      | bk ρ5 => exact fun σ5 H5 en5 => o4 σ5 H5 en5.unhold
      | rt d ρ5 => exact o4
      | rf d ρ5 => exact o4⟩
/-! ## while -/
def whileN (t : GT) (s : GS) : Nat → Env → Res Fl
  | 0, _ => .st
  | n + 1, ρ => (t ρ).bind fun r => if r.1 = true then (s r.2).bind fun f => match f with
      | .nx ρ2 => whileN t s n ρ2
      | .ct ρ2 => whileN t s n ρ2
      | .bk ρ2 => .ok (.nx ρ2)
      | .rt d ρ2 => .ok (.rt d ρ2)
      | .rf d ρ2 => .ok (.rf d ρ2)
    else .ok (.nx r.2)
open Classical in
noncomputable def gWhile (t : GT) (s : GS) : GS := fun ρ => if h : ∃ n, whileN t s n ρ ≠ .st then whileN t s (choose h) ρ else .st
theorem gWhile_ex (t : GT) (s : GS) (ρ : Env) : gWhile t s ρ = .st ∨ ∃ n, gWhile t s ρ = whileN t s n ρ := by
  unfold gWhile
  split
  · exact .inr ⟨_, rfl⟩
  · exact .inl rfl
theorem whileN_mono (t : GT) (s : GS) : ∀ (n k : Nat) (ρ : Env), whileN t s n ρ ≠ .st → whileN t s (n + k) ρ = whileN t s n ρ
  | 0, _, _, h => absurd rfl h
  | n + 1, k, ρ, h => by
    rw [Nat.succ_add]
    unfold whileN at h ⊢
    cases ht : t ρ with
    | ok r =>
      rw [ht] at h
      unfold Res.bind at h ⊢
      dsimp only at h ⊢
      split
      · rename_i hr
        rw [if_pos hr] at h
        cases hs : s r.2 with
        | ok f =>
          rw [hs] at h
          cases f with
          | nx ρ2 => exact whileN_mono t s n k ρ2 h
          | ct ρ2 => exact whileN_mono t s n k ρ2 h
          | bk => rfl
          | rt => rfl
          | rf => rfl
        | er => rfl
        | st => rfl
      · rfl
    | er => rfl
    | st => rfl
theorem gWhile_eq {t : GT} {s : GS} {n : Nat} {ρ : Env} (h : whileN t s n ρ ≠ .st) : gWhile t s ρ = whileN t s n ρ := by
  unfold gWhile
  have hx : ∃ n, whileN t s n ρ ≠ .st := ⟨n, h⟩
  rw [dif_pos hx]
  have hc := Classical.choose_spec hx
  generalize Classical.choose hx = k at hc
  have a := whileN_mono t s n k ρ h
  have b := whileN_mono t s k n ρ hc
  rw [Nat.add_comm] at b
  exact b.symm.trans a
theorem vs_while {tc : GT} (hp : PassesOwn (model X.prog X.w) X.A X.env X.xe) (hc : PT X c (tT C io E ow tc)) (hb : PSs X body (tS C io E ow ow ow s1)) : PS X (.While c body [] pos) (tS C io E ow ow owL (gWhile tc s1)) :=
  PS.imp (ps_while hp hc hb) fun D σ H ⟨B, ρ, hT, en, o⟩ => by
    rcases gWhile_ex tc s1 ρ with z | ⟨n, z⟩
    · rw [z] at o; exact o.elim
    rw [z] at o
    refine ⟨fun m σ H => ∃ ρ, En C io B ow H σ ρ ∧ Out C B E (whileN tc s1 m ρ) (Fin C io ow owL B D), ⟨n, ρ, en, o⟩, ?_⟩
    rintro m σ2 H2 ⟨ρ2, en2, o2⟩
    cases m with
    | zero => exact o2.elim
    | succ m =>
      unfold whileN at o2
      refine ⟨B, ρ2, en2, (Out.bind o2).mono fun r _ o3 H3 f3 en3 => ?_⟩
      obtain ⟨k, ρ3⟩ := r
      cases k with
      | false =>
        rw [if_neg Bool.false_ne_true]
        exact o3 σ2 H3 en3
      | true =>
        rw [if_pos rfl]
        refine ⟨fun σ' H' => ∃ ρ, En C io B ow H' σ' ρ ∧ Out C B E (whileN tc s1 m ρ) (Fin C io ow owL B D), fun σ' H' h => ⟨m, Nat.lt_succ_self m, h⟩, B, ρ3, hT, en3, (Out.bind (show Out C B E ((s1 ρ3).bind _) _ from o3)).mono fun f _ o4 => ?_⟩
        cases f with
        | nx ρ5 => exact fun σ5 H5 en5 => ⟨ρ5, en5, o4⟩
        | ct ρ5 => exact fun σ5 H5 en5 => ⟨ρ5, en5, o4⟩
        | bk ρ5 => exact o4
        | rt d ρ5 => exact o4
        | rf d ρ5 => exact o4
/-! ## comprehensions -/
def wipeR (ρ : Env) : List Nat → Env
  | [] => ρ
  | v :: vs => (wipeR ρ vs).set v none
def back (ρ ρ' : Env) : List Nat → Env
  | [] => ρ'
  | v :: vs => match ρ[v]? with
    | some x => (back ρ ρ' vs).set v x
    | none => back ρ ρ' vs
def noE {α : Type} : Res α → Res α
  | .er _ _ _ => .st
  | r => r
def lcL (gg : GG) (tt : GT) (te : G) (vs : List Nat) : List D → Env → Res (List D × Env)
  | [], ρ => .ok ([], ρ)
  | d :: ds, ρ => (noE (gg d ρ)).bind fun ρ1 => (noE (tt ρ1)).bind fun r => if r.1 = true then (noE (te r.2)).bind fun s => match s.1 with
      | .d y => (lcL gg tt te vs ds (wipeR s.2 vs)).bind fun t => .ok (y :: t.1, t.2)
      | .o _ => .st
    else lcL gg tt te vs ds (wipeR r.2 vs)
def gLc (gi : GI) (gg : GG) (tt : GT) (te : G) (vs : List Nat) : GF := fun ρ => (gi ρ).bind fun r => (noE (lcL gg tt te vs r.1 (wipeR r.2 vs))).bind fun s => .ok (.lst s.1, back r.2 s.2 vs)
theorem wipeR_len {ρ : Env} : ∀ {vs : List Nat}, (wipeR ρ vs).length = ρ.length
  | [] => rfl
  | v :: vs => by unfold wipeR; rw [List.length_set, wipeR_len]
theorem wipeR_out {ρ : Env} {i : Nat} : ∀ {vs : List Nat}, i ∉ vs → (wipeR ρ vs)[i]? = ρ[i]?
  | [], _ => rfl
  | v :: vs, h => by
    unfold wipeR
    rw [List.getElem?_set_ne (fun z => h (by rw [z]; exact List.mem_cons_self))]
    exact wipeR_out fun z => h (List.mem_cons_of_mem _ z)
theorem wipeR_in {ρ : Env} {i : Nat} {d : D} : ∀ {vs : List Nat}, i ∈ vs → (wipeR ρ vs)[i]? ≠ some (some d)
  | [], h => by cases h
  | v :: vs, h => by
    unfold wipeR
    by_cases hv : v = i
    · subst hv
      rw [List.getElem?_set]
      split
      · split
        · exact fun z => by cases z
        · exact fun z => by cases z
      · contradiction
    · rw [List.getElem?_set_ne hv]
      rcases List.mem_cons.mp h with h | h
      · exact absurd h.symm hv
      · exact wipeR_in h
theorem wipe_out' {σ : L2.St} {i : Nat} {vs : List Nat} (h : i ∉ vs) : (wipe σ vs)[i]? = σ[i]? := wipe_out h
theorem wipe_in {σ : L2.St} {i : Nat} : ∀ {vs : List Nat}, i ∈ vs → i < σ.length → (wipe σ vs)[i]? = some none
  | [], h, _ => by cases h
  | v :: vs, h, hl => by
    unfold wipe
    by_cases hv : v = i
    · subst hv
      rw [List.getElem?_set_self (by rw [wipe_length]; exact hl)]
    · rw [List.getElem?_set_ne hv]
      rcases List.mem_cons.mp h with h | h
      · exact absurd h.symm hv
      · exact wipe_in h hl
theorem wipe_ag {σ σ' : L2.St} {vs : List Nat} (h : Ag ts σ σ') (hs : ∀ i, i ∈ ts → i ∈ vs) : wipe σ' vs = wipe σ vs := by
  apply List.ext_getElem?
  intro i
  by_cases hi : i ∈ vs
  · by_cases hl : i < σ.length
    · rw [wipe_in hi hl, wipe_in hi (by rw [h.len]; exact hl)]
    · rw [List.getElem?_eq_none (by rw [wipe_length, h.len]; omega), List.getElem?_eq_none (by rw [wipe_length]; omega)]
  · rw [wipe_out hi, wipe_out hi]
    exact h.off i fun z => hi (hs i z)
theorem wipe_wipe {σ : L2.St} {vs : List Nat} : wipe (wipe σ vs) vs = wipe σ vs := by
  apply List.ext_getElem?
  intro i
  by_cases hi : i ∈ vs
  · by_cases hl : i < σ.length
    · rw [wipe_in hi hl, wipe_in hi (by rw [wipe_length]; exact hl)]
    · rw [List.getElem?_eq_none (by rw [wipe_length, wipe_length]; omega), List.getElem?_eq_none (by rw [wipe_length]; omega)]
  · rw [wipe_out hi]
theorem ownA_wipe {σ : L2.St} {vs : List Nat} (h : ∀ i, i ∈ ow → i ∉ vs) : ownA ow (wipe σ vs) = ownA ow σ := by
  funext b
  apply propext
  constructor
  · rintro ⟨k, hk, q⟩
    rw [wipe_out (h k hk)] at q
    exact ⟨k, hk, q⟩
  · rintro ⟨k, hk, q⟩
    exact ⟨k, hk, by rw [wipe_out (h k hk)]; exact q⟩
theorem En.wipe {B : Bs} {H : Hp} {σ : L2.St} {ρ : Env} {vs : List Nat} (en : En C io B ow H σ ρ) (h : ∀ i, i ∈ ow → i ∉ vs) : En C io B ow H (L2.wipe σ vs) (wipeR ρ vs) := by
  have hO : Opn B ow (L2.wipe σ vs) = Opn B ow σ := by unfold Opn; rw [ownA_wipe h]
  refine ⟨en.fr, en.o0, ?_, by rw [wipe_length, wipeR_len]; exact en.len, fun i d hd hn => ?_, fun i hi => ?_, fun i j q hi hj => ?_, fun q d hq => ?_, en.tnd, fun q hq => by rw [hO]; exact en.pin q hq⟩
  · have q := en.iom
    cases io with
    | true =>
      obtain ⟨q, e1, e2, hk, e3⟩ := q
      exact ⟨q, e1, e2, hk, by rw [wipe_out (h 0 hk)]; exact e3⟩
    | false => exact q
  · by_cases hi : i ∈ vs
    · exact absurd hd (wipeR_in hi)
    · rw [wipeR_out hi] at hd
      rw [wipe_out hi, hO]
      exact en.val i d hd hn
  · rw [wipeR_out (h i hi), wipe_out (h i hi), hO]
    exact en.own i hi
  · rw [wipe_out (h i hi), wipe_out (h j hj)]
    exact en.dis i j q hi hj
  · rw [ownA_wipe h, hO]
    exact en.tmp q d hq
theorem back_len {ρ ρ' : Env} : ∀ {vs : List Nat}, (back ρ ρ' vs).length = ρ'.length
  | [] => rfl
  | v :: vs => by
    unfold back
    split
    · rw [List.length_set, back_len]
    · exact back_len
theorem back_out {ρ ρ' : Env} {i : Nat} : ∀ {vs : List Nat}, i ∉ vs → (back ρ ρ' vs)[i]? = ρ'[i]?
  | [], _ => rfl
  | v :: vs, h => by
    have h2 : i ∉ vs := fun z => h (List.mem_cons_of_mem _ z)
    unfold back
    split
    · rw [List.getElem?_set_ne (fun z => h (by rw [z]; exact List.mem_cons_self))]
      exact back_out h2
    · exact back_out h2
theorem back_in {ρ ρ' : Env} {i : Nat} {d : D} (hl : ρ'.length = ρ.length) : ∀ {vs : List Nat}, i ∈ vs → (back ρ ρ' vs)[i]? = some (some d) → ρ[i]? = some (some d)
  | [], h, _ => by cases h
  | v :: vs, h, q => by
    unfold back at q
    by_cases hv : v = i
    · subst hv
      split at q
      · rename_i x hx
        rw [List.getElem?_set] at q
        split at q
        · split at q
          · cases q; exact hx
          · cases q
        · contradiction
      · rename_i hx
        have hlt : ρ.length ≤ v := List.getElem?_eq_none_iff.mp hx
        rw [List.getElem?_eq_none (by rw [back_len]; omega)] at q
        cases q
    · rcases List.mem_cons.mp h with h | h
      · exact absurd h.symm hv
      · split at q
        · rw [List.getElem?_set_ne hv] at q
          exact back_in hl h q
        · exact back_in hl h q
/-- behind a comprehension: the names that it used are as before -/
theorem En.back {B B' : Bs} {H H' : Hp} {σ : L2.St} {ρ ρ' : Env} {vs : List Nat} (en : En C io B ow H σ ρ) (hB : ∀ b, Opn B' ow σ b → Opn B ow σ b) (f : Ex (ownA ow σ) H H') (en' : En C io B' ow H' (L2.wipe σ vs) ρ') (h : ∀ i, i ∈ ow → i ∉ vs) : En C io B' ow H' σ (VL.back ρ ρ' vs) := by
  have hO : Opn B' ow (L2.wipe σ vs) = Opn B' ow σ := by unfold Opn; rw [ownA_wipe h]
  have hl : ρ'.length = ρ.length := by rw [← en'.len, wipe_length, en.len]
  refine ⟨en'.fr, en'.o0, ?_, by rw [back_len, hl]; exact en.len, fun i d hd hn => ?_, fun i hi => ?_, en.dis, fun q d hq => ?_, en'.tnd, fun q hq => by have := en'.pin q hq; rw [hO] at this; exact this⟩
  · have q := en'.iom
    cases io with
    | true =>
      obtain ⟨q, e1, e2, hk, e3⟩ := q
      exact ⟨q, e1, e2, hk, by rw [wipe_out (h 0 hk)] at e3; exact e3⟩
    | false => exact q
  · by_cases hi : i ∈ vs
    · obtain ⟨v, e1, r⟩ := en.val i d (back_in hl hi hd) hn
      exact ⟨v, e1, Rp.less hB (r.keep f fun _ z => .inr (.inl z))⟩
    · rw [back_out hi] at hd
      have q := en'.val i d hd hn
      rw [wipe_out hi, hO] at q
      exact q
  · have q := en'.own i hi
    rw [wipe_out (h i hi), hO] at q
    rw [back_out (h i hi)]
    exact q
  · have := en'.tmp q d hq
    rw [ownA_wipe h, hO] at this
    exact this
/-- what is held aside is changed -/
theorem opn_T {B : Bs} {σ : L2.St} {q : Addr} {d d' : D} : ∀ b, Opn { B with T := (q, d') :: B.T } ow σ b → Opn { B with T := (q, d) :: B.T } ow σ b := by
  rintro b (h | h | ⟨x, h⟩)
  · exact .inl h
  · exact .inr (.inl h)
  · rcases List.mem_cons.mp h with h | h
    · cases h; exact .inr (.inr ⟨d, List.mem_cons_self⟩)
    · exact .inr (.inr ⟨x, List.mem_cons_of_mem _ h⟩)
theorem En.tput {B : Bs} {H H' : Hp} {σ : L2.St} {ρ : Env} {q : Addr} {d d' : D} (e : En C io { B with T := (q, d) :: B.T } ow H σ ρ) (f : Ex (fun b => b = q) H H') (o : Own C (Opn { B with T := (q, d) :: B.T } ow σ) H' q d') : En C io { B with T := (q, d') :: B.T } ow H' σ ρ := by
  obtain ⟨tp, tn, to⟩ := e.tmp q d List.mem_cons_self
  have hm : ∀ b, b = q → Opn { B with T := (q, d) :: B.T } ow σ b := fun b z => by subst z; exact .inr (.inr ⟨d, List.mem_cons_self⟩)
  have ho : ∀ b, Opn { B with T := (q, d') :: B.T } ow σ b → Opn { B with T := (q, d) :: B.T } ow σ b ∨ H b = none := fun b z => .inl (opn_T b z)
  have nd : (q :: B.T.map (·.1)).Nodup := e.tnd
  exact {
    fr := e.fr.fresh f fun x z => by subst z; exact .inr tp
    o0 := e.o0
    iom := e.iom
    len := e.len
    val := fun i c h n => let ⟨v, a, r⟩ := e.val i c h n; ⟨v, a, r.ex f hm ho⟩
    own := fun i h => by
      obtain ⟨r, c, a, b, u, z⟩ := e.own i h
      exact ⟨r, c, a, b, u.exN f hm ho fun z => tn ⟨i, h, by rw [← z]; exact b⟩, z⟩
    dis := e.dis
    tmp := fun r c h => by
      rcases List.mem_cons.mp h with h2 | h2
      · cases h2
        exact ⟨tp, tn, o.less opn_T⟩
      · obtain ⟨a, b, u⟩ := e.tmp r c (List.mem_cons_of_mem _ h2)
        have ne : r ≠ q := fun z => (List.nodup_cons.mp nd).1 (List.mem_map.mpr ⟨(r, c), h2, z⟩)
        exact ⟨a, b, u.exN f hm ho ne⟩
    tnd := e.tnd
    pin := fun r h => (e.pin r h).ex f hm ho }
theorem Out.noE {α : Type} {B : Bs} {r : Res α} {k : α → Prop} (h : Out C B E (noE r) k) : Out C B E0 r k := by
  cases r with
  | ok a => exact h
  | er => exact h.elim
  | st => exact h
theorem noE_ne {α : Type} {r : Res α} {c : Str} {fs : List Str} {xs : List D} : noE r ≠ .er c fs xs := by cases r <;> exact fun z => nomatch z
theorem bind_ne {α β : Type} {r : Res α} {f : α → Res β} {c : Str} {fs : List Str} {xs : List D} (h : r ≠ .er c fs xs) (k : ∀ a, f a ≠ .er c fs xs) : r.bind f ≠ .er c fs xs := by
  cases r with
  | ok a => exact k a
  | er c' f' x' => exact fun z => h (by cases z; rfl)
  | st => exact fun z => nomatch z
theorem lcL_ne {gt : GT} {ge : G} {vs : List Nat} {c : Str} {fs : List Str} {xs : List D} : ∀ (ds : List D) (ρ : Env), lcL gg gt ge vs ds ρ ≠ .er c fs xs
  | [], _ => fun z => nomatch z
  | d :: ds, ρ => by
    unfold lcL
    refine bind_ne noE_ne fun ρ1 => bind_ne noE_ne fun r => ?_
    split
    · refine bind_ne noE_ne fun s => ?_
      split
      · exact bind_ne (lcL_ne ds _) fun t => fun z => nomatch z
      · exact fun z => nomatch z
    · exact lcL_ne ds _
theorem noE_ok {α : Type} {r : Res α} {a : α} (h : r = .ok a) : noE r = .ok a := by rw [h]; rfl
theorem lc_imp {gt : GT} {ge : G} {vs : List Nat} {σ : L2.St} {H : Hp} {Q : VK} (hts : ∀ i, i ∈ ts → i ∈ vs) (how : ∀ i, i ∈ ow → i ∉ vs) (h : tF C io E ow (gLc gi gg gt ge vs) σ H Q) :
    tLc (tI C io E ow gi) (tG C io E0 ow ts gg) (tT C io E0 ow gt) (tV C io E0 ow ge) vs σ H Q := by
    obtain ⟨B, ρ, en, o⟩ := h
    refine ⟨B, ρ, en, (Out.bind o).mono fun r _ o J q H1 f1 en1 wk hn Dd hD => ?_⟩
    obtain ⟨ds, ρ1⟩ := r
    have o := Out.bind o
    cases hL : noE (lcL gg gt ge vs ds (wipeR ρ1 vs)) with
    | st => rw [hL] at o; exact o.elim
    | er c fs xs => exfalso; cases hz : lcL gg gt ge vs ds (wipeR ρ1 vs) <;> rw [hz] at hL <;> cases hL
    | ok s =>
    rw [hL] at o
    have hL' : lcL gg gt ge vs ds (wipeR ρ1 vs) = .ok s := by
      cases hz : lcL gg gt ge vs ds (wipeR ρ1 vs) with
      | ok a => rw [hz] at hL; exact hL
      | er => rw [hz] at hL; cases hL
      | st => rw [hz] at hL; cases hL
    have st1 : En C io { B with px := q ++ B.px, T := (Dd, .lst []) :: B.T } ow (upd H1 Dd (.lst [])) σ ρ1 := en1.new hD (Ex.new hD) (.lst upd_same .nil)
    refine ⟨fun i m H => ∃ ρ acc, i + m = ds.length ∧ acc.length ≤ i ∧ En C io { B with px := q ++ B.px, T := (Dd, .lst acc) :: B.T } ow H (wipe σ vs) ρ ∧ Ex (ownA ow σ) H1 H ∧ ∃ rest, lcL gg gt ge vs (ds.drop i) ρ = .ok (rest, s.2) ∧ s.1 = acc ++ rest,
      ⟨ds.length, wipeR ρ1 vs, [], Nat.zero_add _, Nat.le_refl _, st1.wipe how, Ex.new hD, s.1, by rw [List.drop_zero]; exact hL', rfl⟩, ?_⟩
    rintro i m H2 ⟨ρ2, acc, hm, ha, en2, f2, rest, hr, hs1⟩
    have hq : ∀ x, x ∈ q → Rp C (Opn { B with px := q ++ B.px, T := (Dd, .lst acc) :: B.T } ow (wipe σ vs)) H2 x.1 x.2 := fun x hx => en2.pin x (List.mem_append_left _ hx)
    cases m with
    | zero =>
      rw [Nat.add_zero] at hm
      subst hm
      rw [List.drop_length] at hr
      cases hr
      rw [List.append_nil] at hs1
      refine .inl ⟨wk.stop _ _ hq, ?_⟩
      obtain ⟨s1, s2⟩ := s
      subst hs1
      have hB : ∀ b, Opn { B with px := q ++ B.px, T := (Dd, .lst s1) :: B.T } ow σ b → Opn { B with px := q ++ B.px, T := (Dd, .lst []) :: B.T } ow σ b := opn_T (B := { B with px := q ++ B.px })
      have fD : Ex (ownA ow σ) (upd H1 Dd (.lst [])) (upd H1 Dd (.lst [])) := Ex.refl
      have e3 : ∀ b, Opn { B with px := q ++ B.px, T := (Dd, .lst s1) :: B.T } ow σ b → Opn { B with px := q ++ B.px } ow σ b ∨ H1 b = none := by
        rintro b (h | h | ⟨x, h⟩)
        · exact .inl (.inl h)
        · exact .inl (.inr (.inl h))
        · rcases List.mem_cons.mp h with h | h
          · cases h; exact .inr hD
          · exact .inl (.inr (.inr ⟨x, h⟩))
      have en3 : En C io { B with px := q ++ B.px, T := (Dd, .lst s1) :: B.T } ow H2 σ (VL.back ρ1 s2 vs) := by
        have hO : Opn { B with px := q ++ B.px, T := (Dd, .lst s1) :: B.T } ow (wipe σ vs) = Opn { B with px := q ++ B.px, T := (Dd, .lst s1) :: B.T } ow σ := by unfold Opn; rw [ownA_wipe how]
        have hl : s2.length = ρ1.length := by rw [← en2.len, wipe_length, en1.len]
        refine ⟨en2.fr, en2.o0, ?_, by rw [back_len, hl]; exact en1.len, fun i d hd hn => ?_, fun i hi => ?_, en1.dis, fun q d hq => ?_, en2.tnd, fun q hq => by have := en2.pin q hq; rw [hO] at this; exact this⟩
        · have q := en2.iom
          cases io with
          | true =>
            obtain ⟨q, e1, e2, hk, e3⟩ := q
            exact ⟨q, e1, e2, hk, by rw [wipe_out (how 0 hk)] at e3; exact e3⟩
          | false => exact q
        · by_cases hi : i ∈ vs
          · obtain ⟨v, e1, r⟩ := en1.val i d (back_in hl hi hd) hn
            exact ⟨v, e1, r.ex f2 (fun _ z => .inr (.inl z)) e3⟩
          · rw [back_out hi] at hd
            have q := en2.val i d hd hn
            rw [wipe_out hi, hO] at q
            exact q
        · have q := en2.own i hi
          rw [wipe_out (how i hi), hO] at q
          rw [back_out (how i hi)]
          exact q
        · have := en2.tmp q d hq
          rw [ownA_wipe how, hO] at this
          exact this
      exact o Dd H2 (f1.trans f2) en3.unhold
    | succ m =>
      have hi : i < ds.length := by omega
      refine .inr ⟨wk.go _ _ i hq hi, fun H' => ∃ ρ acc, (i + 1) + m = ds.length ∧ acc.length ≤ i + 1 ∧ En C io { B with px := q ++ B.px, T := (Dd, .lst acc) :: B.T } ow H' (wipe σ vs) ρ ∧ Ex (ownA ow σ) H1 H' ∧ ∃ rest, lcL gg gt ge vs (ds.drop (i + 1)) ρ = .ok (rest, s.2) ∧ s.1 = acc ++ rest,
        fun H' h => ⟨m, Nat.lt_succ_self m, h⟩, fun x H3 hy => ?_⟩
      obtain ⟨d, hd, f3, r3⟩ := wk.yld _ _ i x H3 en2.there hq hi hy
      have e3 : ds.drop i = d :: ds.drop (i + 1) := by
        rw [List.drop_eq_getElem_cons hi]
        rw [List.getElem?_eq_getElem hi] at hd
        cases hd
        rfl
      rw [e3] at hr
      have oL : Out C { B with px := q ++ B.px, T := (Dd, .lst acc) :: B.T } E0 (lcL gg gt ge vs (d :: ds.drop (i + 1)) ρ2) (fun t => t = (rest, s.2)) := by rw [hr]; rfl
      unfold lcL at oL
      refine ⟨_, ρ2, d, en2.grow f3, r3, (Out.noE (Out.bind oL)).mono fun ρ3 _ oL σ4 ag4 en4 => ?_⟩
      have hw : wipe σ4 vs = wipe σ vs := (wipe_ag ag4 hts).trans wipe_wipe
      have hA : ownA ow σ4 = ownA ow σ := by rw [← ownA_wipe (σ := σ4) how, hw, ownA_wipe how]
      refine ⟨hw, _, ρ3, en4, (Out.noE (Out.bind oL)).mono fun t _ oL H5 f5 en5 => ?_⟩
      obtain ⟨k, ρ5⟩ := t
      have g5 : Ex (ownA ow σ) H1 H5 := (f2.trans (f3.mono fun _ z => z.elim)).trans (hA ▸ f5)
      cases k with
      | false =>
        rw [if_neg Bool.false_ne_true]
        rw [if_neg Bool.false_ne_true] at oL
        refine ⟨wipeR ρ5 vs, acc, by omega, by omega, hw ▸ en5.wipe how, g5, rest, ?_, hs1⟩
        cases hz : lcL gg gt ge vs (ds.drop (i + 1)) (wipeR ρ5 vs) with
        | ok a => rw [hz] at oL; rw [show a = (rest, s.2) from oL]
        | er => exact absurd hz (lcL_ne _ _)
        | st => rw [hz] at oL; exact oL.elim
      | true =>
        rw [if_pos rfl]
        rw [if_pos rfl] at oL
        refine ⟨_, ρ5, en5, (Out.noE (Out.bind oL)).mono fun t _ oL y H6 f6 en6 r6 => ?_⟩
        obtain ⟨w, ρ6⟩ := t
        cases w with
        | o k => exact oL.elim
        | d yd =>
          obtain ⟨_, _, oD⟩ := en6.tmp Dd (.lst acc) List.mem_cons_self
          cases oD with
          | @lst xD _ eD rD =>
            have hn : ds.length ≤ sizeLine := hn
            refine ⟨_, eD, by rw [rD.len]; omega, wipeR ρ6 vs, acc ++ [yd], by omega, by rw [List.length_append, List.length_singleton]; omega, ?_, ?_, ?_⟩
            · rw [← hw]
              refine (En.tput (B := { B with px := q ++ B.px }) en6 (Ex.put rfl eD fun xs => (fun z => nomatch z)) (.lst upd_same ?_)).wipe how
              have fz : Ex (fun b => b = Dd) H6 _ := Ex.put (o := .lst (xD ++ [y])) rfl eD fun xs => (fun z => nomatch z)
              exact RpL.keep fz (fun b z => by subst z; exact .inr (.inr ⟨_, List.mem_cons_self⟩)) (rD.snoc r6)
            · refine (g5.trans (hA ▸ f6)).fresh (N := fun b => b = Dd) (Ex.put rfl eD fun xs => (fun z => nomatch z)) fun x z => .inr (by rw [z]; exact hD)
            · have oL := Out.bind (show Out C _ E0 ((lcL gg gt ge vs (ds.drop (i + 1)) (wipeR ρ6 vs)).bind fun t => .ok (yd :: t.1, t.2)) _ from oL)
              cases hz : lcL gg gt ge vs (ds.drop (i + 1)) (wipeR ρ6 vs) with
              | ok a =>
                rw [hz] at oL
                obtain ⟨h1, h2⟩ := Prod.mk.inj (show (yd :: a.1, a.2) = (rest, s.2) from oL)
                exact ⟨a.1, by rw [← h2], by rw [hs1, ← h1, List.append_assoc]; rfl⟩
              | er => exact absurd hz (lcL_ne _ _)
              | st => rw [hz] at oL; exact oL.elim
theorem vf_lc {elt : Expr} {scope : Scope} {own : List (Str × Nat)} {ifs : List Expr} {gt : GT} {ge : G} (hc : X.calm = true) (hN : X.N.Nodup) (hi : PI X tg iter (tI C io E ow gi)) (ok : BlkOk X.N X.env.scope scope own)
    (hg : ∀ (s : Shared) (H : Hp) (A : Addr) (cl : List (Str × Addr)) (fp : List Addr), PG (X.blk s H scope (compEnvC scope cl A X.env) fp) tg (tG C io E0 ow ts gg)) (ht : ∀ (s : Shared) (H : Hp) (A : Addr) (cl : List (Str × Addr)) (fp : List Addr), PTs (X.blk s H scope (compEnvC scope cl A X.env) fp) ifs (tT C io E0 ow gt))
    (he : ∀ (s : Shared) (H : Hp) (A : Addr) (cl : List (Str × Addr)) (fp : List Addr), PE (X.blk s H scope (compEnvC scope cl A X.env) fp) elt (tV C io E0 ow ge)) (hts : ∀ i, i ∈ ts → i ∈ own.map (·.2) := by decide) (how : ∀ i, i ∈ ow → i ∉ own.map (·.2) := by decide)
    (hs : ∀ x, foldedSetIterable iter X.env x = pure x := by intro _; rfl) : PE X (.ListComp elt [⟨tg, iter, ifs, 0⟩] scope pos) (tF C io E ow (gLc gi gg gt ge (own.map (·.2)))) :=
  PE.imp (pe_lc hc hN hi ok hg ht he hs) fun σ H Q h => lc_imp hts how h
variable {i : Nat} {y : Str} {py spos : Pos}
theorem vs_setLcF {elt : Expr} {scope : Scope} {own : List (Str × Nat)} {ifs : List Expr} {gt : GT} {ge : G} (hc : X.calm = true) (hN : X.N.Nodup) (hy : X.N[i]? = some y) (hyl : X.env.scope.names.lookup y = some .local)
    (hsw : swapsWith (.ListComp elt [⟨tg, iter, ifs, 0⟩] scope pos) (some (.Name y py)) spos.line X.env = pure true) (hi : PI X tg iter (tI C io E ow gi)) (ok : BlkOk X.N X.env.scope scope own)
    (hg : ∀ (s : Shared) (H : Hp) (A : Addr) (cl : List (Str × Addr)) (fp : List Addr), PG (X.blk s H scope (compEnvC scope cl A X.env) fp) tg (tG C io E0 ow ts gg)) (ht : ∀ (s : Shared) (H : Hp) (A : Addr) (cl : List (Str × Addr)) (fp : List Addr), PTs (X.blk s H scope (compEnvC scope cl A X.env) fp) ifs (tT C io E0 ow gt))
    (he : ∀ (s : Shared) (H : Hp) (A : Addr) (cl : List (Str × Addr)) (fp : List Addr), PE (X.blk s H scope (compEnvC scope cl A X.env) fp) elt (tV C io E0 ow ge)) (hts : ∀ i, i ∈ ts → i ∈ own.map (·.2) := by decide) (how : ∀ i, i ∈ ow → i ∉ own.map (·.2) := by decide)
    (h0 : io = true → i ≠ 0 := by decide) (hs : ∀ x, foldedSetIterable iter X.env x = pure x := by intro _; rfl) : PS X (.Assign [.Name y py] (.ListComp elt [⟨tg, iter, ifs, 0⟩] scope pos) spos) (tS C io E ow (addO i ow) owL (gSetF i (gLc gi gg gt ge (own.map (·.2))))) :=
  PS.imp (ps_setLc hc hN hy hyl hsw hi ok hg ht he hs) fun D σ H ⟨B, ρ, hT, en, h⟩ => lc_imp hts how ⟨B, ρ, en, (Out.bind h).mono fun r _ h q H1 f1 en1 => by
    split at h
    · exact h _ _ (en1.setO (by assumption) h0)
    · exact h.elim⟩
theorem vs_setLc {elt : Expr} {scope : Scope} {own : List (Str × Nat)} {ifs : List Expr} {gt : GT} {ge : G} (hc : X.calm = true) (hN : X.N.Nodup) (hy : X.N[i]? = some y) (hyl : X.env.scope.names.lookup y = some .local)
    (hsw : swapsWith (.ListComp elt [⟨tg, iter, ifs, 0⟩] scope pos) (some (.Name y py)) spos.line X.env = pure true) (hi : PI X tg iter (tI C io E ow gi)) (ok : BlkOk X.N X.env.scope scope own)
    (hg : ∀ (s : Shared) (H : Hp) (A : Addr) (cl : List (Str × Addr)) (fp : List Addr), PG (X.blk s H scope (compEnvC scope cl A X.env) fp) tg (tG C io E0 ow ts gg)) (ht : ∀ (s : Shared) (H : Hp) (A : Addr) (cl : List (Str × Addr)) (fp : List Addr), PTs (X.blk s H scope (compEnvC scope cl A X.env) fp) ifs (tT C io E0 ow gt))
    (he : ∀ (s : Shared) (H : Hp) (A : Addr) (cl : List (Str × Addr)) (fp : List Addr), PE (X.blk s H scope (compEnvC scope cl A X.env) fp) elt (tV C io E0 ow ge)) (hn : i ∉ ow := by decide) (hts : ∀ i, i ∈ ts → i ∈ own.map (·.2) := by decide) (how : ∀ i, i ∈ ow → i ∉ own.map (·.2) := by decide)
    (hs : ∀ x, foldedSetIterable iter X.env x = pure x := by intro _; rfl) : PS X (.Assign [.Name y py] (.ListComp elt [⟨tg, iter, ifs, 0⟩] scope pos) spos) (tS C io E ow ow owL (gSet i (gF (gLc gi gg gt ge (own.map (·.2)))))) :=
  PS.imp (ps_setLc hc hN hy hyl hsw hi ok hg ht he hs) fun D σ H ⟨B, ρ, hT, en, h⟩ => lc_imp hts how ⟨B, ρ, en, (Out.bind (Out.bind h)).mono fun r _ h q H1 f1 en1 => by
    obtain ⟨en2, r2⟩ := en1.old
    exact h _ _ (en2.set hn r2)⟩
end
end VL
namespace VL
open PySem PySem.Spec PyProof.Rows L2
/-! ## what a def promises -/
/-- an error of a call: M may have changed -/
def ErS (C : Cf) (O M : Hs) (H : Hp) (E : XK) (c : Str) (fs : List Str) (xs : List D) : Prop := ∀ (cl dx : Addr) (H' : Hp) (fvs : List (Str × V)), C.mg c = some (.ref cl) → Ex M H H' → H dx = none →
  H' dx = some (.xd fvs) → fs = fvs.map (·.1) → RpL C O H' (fvs.map (·.2)) xs → E (.ref cl) (some dx) H'
/-- a def of n parameters whose answer is F's -/
def spD (C : Cf) (n : Nat) (F : List D → Res D) : Sp := fun vs H Q E => ∃ O ds, vs.length = n ∧ (∀ b, O b → H b ≠ none) ∧ RpL C O H vs ds ∧ match F ds with
  | .ok d => ∀ v H', Ex Nil H H' → Rp C O H' v d → Q v H'
  | .er c fs xs => ErS C O Nil H E c fs xs
  | .st => False
/-- .. whose answer is a new thing -/
def spF (C : Cf) (n : Nat) (F : List D → Res D) : Sp := fun vs H Q E => ∃ O ds, vs.length = n ∧ (∀ b, O b → H b ≠ none) ∧ RpL C O H vs ds ∧ match F ds with
  | .ok d => ∀ q H', Ex Nil H H' → H q = none → Own C (fun b => O b ∨ b = q) H' q d → Q (.ref q) H'
  | .er c fs xs => ErS C O Nil H E c fs xs
  | .st => False
/-- .. that may change its first argument's content -/
def spI (C : Cf) (n : Nat) (F : List D → Res (D × D)) : Sp := fun vs H Q E => ∃ O q d0 vs' ds, vs = .ref q :: vs' ∧ vs'.length + 1 = n ∧ (∀ b, O b → H b ≠ none) ∧ O q ∧ Own C O H q d0 ∧ RpL C O H vs' ds ∧ match F (d0 :: ds) with
  | .ok r => ∀ v H', Ex (fun b => b = q) H H' → Rp C O H' v r.1 → Own C O H' q r.2 → Q v H'
  | .er c fs xs => ErS C O (fun b => b = q) H E c fs xs
  | .st => False
def startR (n : Nat) (ds : List D) : Env := ds.map some ++ List.replicate (n - ds.length) none
def runD (n : Nat) (g : GS) (ds : List D) : Res D := (g (startR n ds)).bind fun f => match f with
  | .rt d _ => .ok d
  | .rf d _ => .ok d
  | .nx _ => .ok .non
  | _ => .st
def runF (n : Nat) (g : GS) (ds : List D) : Res D := (g (startR n ds)).bind fun f => match f with
  | .rf d _ => .ok d
  | _ => .st
def runI (n : Nat) (g : GS) (ds : List D) : Res (D × D) := (g (startR n ds)).bind fun f => match f with
  | .rt d ρ => match ρ[0]? with
    | some (some x) => .ok (d, x)
    | _ => .st
  | .rf d ρ => match ρ[0]? with
    | some (some x) => .ok (d, x)
    | _ => .st
  | .nx ρ => match ρ[0]? with
    | some (some x) => .ok (.non, x)
    | _ => .st
  | _ => .st
section
variable {C : Cf} {O : Hs} {H : Hp}
theorem start_at {N : List Str} {vs : List V} {ds : List D} {i : Nat} {d : D} (r : RpL C O H vs ds) (h : (startR N.length ds)[i]? = some (some d)) : ∃ v, (L2.start N vs)[i]? = some (some v) ∧ Rp C O H v d := by
  unfold startR at h
  by_cases hi : i < ds.length
  · rw [List.getElem?_append_left (by simpa using hi), List.getElem?_map] at h
    cases e : ds[i]? with
    | none => rw [e] at h; cases h
    | some d' =>
      rw [e] at h
      cases h
      obtain ⟨v, hv, rv⟩ := r.atD e
      refine ⟨v, ?_, rv⟩
      unfold L2.start
      rw [List.getElem?_append_left (by rw [List.length_map, r.len]; exact hi), List.getElem?_map, hv]
      rfl
  · rw [List.getElem?_append_right (by simp; omega), List.getElem?_replicate] at h
    split at h <;> cases h
theorem en_start {N : List Str} {vs : List V} {ds : List D} (hO : ∀ b, O b → H b ≠ none) (r : RpL C O H vs ds) : En C false ⟨H, O, none, [], []⟩ [] H (L2.start N vs) (startR N.length ds) := by
  have hP : ∀ b, Opn ⟨H, O, none, [], []⟩ [] (L2.start N vs) b → O b := by
    rintro b (h | ⟨k, hk, _⟩ | ⟨d, h⟩)
    · exact h
    · cases hk
    · cases h
  refine ⟨Ex.refl, hO, rfl, ?_, fun i d h _ => ?_, fun i h => (by cases h), (fun i j q h => by cases h), fun q d h => (by cases h), List.nodup_nil, fun q h => (by cases h)⟩
  · unfold L2.start startR
    simp [r.len]
  · obtain ⟨v, hv, rv⟩ := start_at r h
    exact ⟨v, hv, rv.less hP⟩
theorem en_startI {N : List Str} {vs : List V} {ds : List D} {q : Addr} {d0 : D} (hO : ∀ b, O b → H b ≠ none) (hq : O q) (o : Own C O H q d0) (r : RpL C O H vs ds) : En C true ⟨H, O, some q, [], []⟩ [0] H (L2.start N (.ref q :: vs)) (startR N.length (d0 :: ds)) := by
  have hP : ∀ b, Opn ⟨H, O, some q, [], []⟩ [0] (L2.start N (.ref q :: vs)) b → O b := by
    rintro b (h | ⟨k, hk, h⟩ | ⟨d, h⟩)
    · exact h
    · rw [List.mem_singleton.mp hk] at h
      have e : (L2.start N (.ref q :: vs))[0]? = some (some (.ref q)) := rfl
      rw [e] at h
      cases h
      exact hq
    · cases h
  refine ⟨Ex.refl, hO, ⟨q, rfl, hq, List.mem_cons_self, rfl⟩, ?_, fun i d h hn => ?_, fun i h => ?_, fun i j p h h' _ _ => (by rw [List.mem_singleton.mp h, List.mem_singleton.mp h']), fun q d h => (by cases h), List.nodup_nil, fun q h => (by cases h)⟩
  · unfold L2.start startR
    simp [r.len]
  · have h0 : i ≠ 0 := fun z => hn (by rw [z]; exact List.mem_cons_self)
    unfold startR at h
    unfold L2.start
    cases i with
    | zero => exact absurd rfl h0
    | succ i =>
      rw [List.map_cons, List.cons_append, List.getElem?_cons_succ] at h ⊢
      by_cases hi : i < ds.length
      · rw [List.getElem?_append_left (by simpa using hi), List.getElem?_map] at h
        cases e : ds[i]? with
        | none => rw [e] at h; cases h
        | some d' =>
          rw [e] at h
          cases h
          obtain ⟨v, hv, rv⟩ := r.atD e
          refine ⟨v, ?_, rv.less hP⟩
          rw [List.getElem?_append_left (by rw [List.length_map, r.len]; exact hi), List.getElem?_map, hv]
          rfl
      · rw [List.getElem?_append_right (by simp; omega), List.getElem?_replicate] at h
        split at h <;> cases h
  · rw [List.mem_singleton.mp h]
    exact ⟨q, d0, rfl, rfl, o.less hP, .inr ⟨rfl, rfl⟩⟩
end
section
variable {P : Program} {w : World} {K : PySem.W.Frag} {mg : Str → Option Value} {base : Heap}
abbrev CXp (P : Program) (w : World) : CXT := L2.CX P w
theorem len_spD {C : Cf} {n : Nat} {F : List D → Res D} : ∀ vs H Q E, spD C n F vs H Q E → vs.length = n := fun vs H Q E ⟨O, ds, h, _⟩ => h
theorem len_spI {C : Cf} {n : Nat} {F : List D → Res (D × D)} : ∀ vs H Q E, spI C n F vs H Q E → vs.length = n := fun vs H Q E ⟨O, q, d0, vs', ds, e, h, _⟩ => by rw [e]; exact h
theorem fin_D {C : Cf} {E : XK} {ow : List Nat} {N : List Str} {g : GS} {vs : List V} {H : Hp} {Q : VK} (h : spD C n (runD N.length g) vs H Q E) : tS C false E [] ow [] g { nx := fun _ H' => Q .non H', rt := Q } (L2.start N vs) H := by
  obtain ⟨O, ds, _, hO, r, h⟩ := h
  refine ⟨⟨H, O, none, [], []⟩, startR N.length ds, rfl, en_start hO r, ?_⟩
  unfold runD at h
  have fz : ∀ {H'}, Ex (fun b => (none : Option Addr) = some b) H H' → Ex Nil H H' := fun f => f.mono fun b z => by cases z
  cases hg : g (startR N.length ds) with
  | st => rw [hg] at h; exact h.elim
  | er c fs xs =>
    rw [hg] at h
    exact fun cl dx H' fvs a b c d e f => h cl dx H' fvs a (fz b) c d e f
  | ok f =>
    rw [hg] at h
    cases f with
    | nx ρ => exact fun σ H' en => h .non H' (fz en.fr) .non
    | rt d ρ => exact fun v H' f rv _ => h v H' (fz f) rv
    | rf d ρ => exact fun q H' f hq o _ => h (.ref q) H' (fz f) (o.rp (fun _ z => .inl z) fun z => hO q z hq)
    | bk ρ => exact h.elim
    | ct ρ => exact h.elim
theorem fin_I {C : Cf} {E : XK} {ow : List Nat} {N : List Str} {g : GS} {vs : List V} {H : Hp} {Q : VK} (hio : 0 ∈ ow) (h : spI C n (runI N.length g) vs H Q E) : tS C true E [0] ow [0] g { nx := fun _ H' => Q .non H', rt := Q } (L2.start N vs) H := by
  obtain ⟨O, q, d0, vs', ds, rfl, _, hO, hq, o, r, h⟩ := h
  refine ⟨⟨H, O, some q, [], []⟩, startR N.length (d0 :: ds), rfl, en_startI hO hq o r, ?_⟩
  unfold runI at h
  have fz : ∀ {H'}, Ex (fun b => some q = some b) H H' → Ex (fun b => b = q) H H' := fun f => f.mono fun b z => by cases z; rfl
  cases hg : g (startR N.length (d0 :: ds)) with
  | st => rw [hg] at h; exact h.elim
  | er c fs xs =>
    rw [hg] at h
    exact fun cl dx H' fvs a b c d e f => h cl dx H' fvs a (fz b) c d e f
  | ok f =>
    rw [hg] at h
    cases f with
    | nx ρ =>
      intro σ H' en
      obtain ⟨q', d, e1, e2, oo⟩ := io_ok en rfl
      cases e1
      have h2 : (match ρ[0]? with | some (some x) => Res.ok (D.non, x) | _ => .st) = Res.ok (D.non, d) := by rw [e2]
      dsimp only [Res.bind] at h
      rw [h2] at h
      exact h .non H' (fz en.fr) .non oo
    | rt d ρ =>
      intro v H' f rv io
      obtain ⟨q', d', e1, e2, oo⟩ := io rfl
      cases e1
      have h2 : (match ρ[0]? with | some (some x) => Res.ok (d, x) | _ => .st) = Res.ok (d, d') := by rw [e2]
      dsimp only [Res.bind] at h
      rw [h2] at h
      exact h v H' (fz f) rv oo
    | rf d ρ =>
      intro v H' f hv o' io
      obtain ⟨q', d', e1, e2, oo⟩ := io rfl
      cases e1
      have h2 : (match ρ[0]? with | some (some x) => Res.ok (d, x) | _ => .st) = Res.ok (d, d') := by rw [e2]
      dsimp only [Res.bind] at h
      rw [h2] at h
      exact h (.ref v) H' (fz f) (o'.rp (fun _ z => .inl z) fun z => hO v z hv) oo
    | bk ρ => exact h.elim
    | ct ρ => exact h.elim
theorem len_spF {C : Cf} {n : Nat} {F : List D → Res D} : ∀ vs H Q E, spF C n F vs H Q E → vs.length = n := fun vs H Q E ⟨O, ds, h, _⟩ => h
theorem fin_F {C : Cf} {E : XK} {ow : List Nat} {N : List Str} {g : GS} {vs : List V} {H : Hp} {Q : VK} (h : spF C n (runF N.length g) vs H Q E) : tS C false E [] ow [] g { nx := fun _ H' => Q .non H', rt := Q } (L2.start N vs) H := by
  obtain ⟨O, ds, _, hO, r, h⟩ := h
  refine ⟨⟨H, O, none, [], []⟩, startR N.length ds, rfl, en_start hO r, ?_⟩
  unfold runF at h
  have fz : ∀ {H'}, Ex (fun b => (none : Option Addr) = some b) H H' → Ex Nil H H' := fun f => f.mono fun b z => by cases z
  cases hg : g (startR N.length ds) with
  | st => rw [hg] at h; exact h.elim
  | er c fs xs =>
    rw [hg] at h
    exact fun cl dx H' fvs a b c d e f => h cl dx H' fvs a (fz b) c d e f
  | ok f =>
    rw [hg] at h
    cases f with
    | rf d ρ => exact fun q H' f hq o _ => h q H' (fz f) hq o
    | _ => exact h.elim
theorem okF {x qual : Str} {st : Stmt} {f : Addr} {fd : FuncData} {N ps : List Str} {k n m : Nat} {ow : List Nat} {g : GS} {Fd : List D → Res D} (hF : Fd = runF m g) (F : Fun K x qual st f fd) (S : FnScope N ps (defScope st)) (hN : N.length = m) (hn : ps.length = n)
    (hb : ∀ (cdv : Value) (A : Around) (outer : List PySem.Env) (s : Shared) (H : Hp) (E : XK), Room k (A.deeper (envOfC qual (defScope st) s.heap.objs.size f cdv)) → PSs (cxOf (L2.CX P w) P w K mg base N qual (defScope st) f cdv A outer s H E) (defBody st) (tS ⟨K, mg⟩ false E [] ow [] g)) :
    FnOk P w K mg base (L2.CX P w) (k + 1) f fd ps (spF ⟨K, mg⟩ n Fd) := by
  subst hF hN
  exact F.okX S (fun vs H Q E h => (len_spF vs H Q E h).trans hn.symm) fun cdv A outer s H vs Q E hr h => ⟨_, hb cdv A outer s H E hr, fin_F h⟩
/-- a def by its body -/
theorem okD {x qual : Str} {st : Stmt} {f : Addr} {fd : FuncData} {N ps : List Str} {k n m : Nat} {ow : List Nat} {g : GS} {Fd : List D → Res D} (hF : Fd = runD m g) (F : Fun K x qual st f fd) (S : FnScope N ps (defScope st)) (hN : N.length = m) (hn : ps.length = n)
    (hb : ∀ (cdv : Value) (A : Around) (outer : List PySem.Env) (s : Shared) (H : Hp) (E : XK), Room k (A.deeper (envOfC qual (defScope st) s.heap.objs.size f cdv)) → PSs (cxOf (L2.CX P w) P w K mg base N qual (defScope st) f cdv A outer s H E) (defBody st) (tS ⟨K, mg⟩ false E [] ow [] g)) :
    FnOk P w K mg base (L2.CX P w) (k + 1) f fd ps (spD ⟨K, mg⟩ n Fd) := by
  subst hF hN
  exact F.okX S (fun vs H Q E h => (len_spD vs H Q E h).trans hn.symm) fun cdv A outer s H vs Q E hr h => ⟨_, hb cdv A outer s H E hr, fin_D h⟩
theorem okI {x qual : Str} {st : Stmt} {f : Addr} {fd : FuncData} {N ps : List Str} {k n m : Nat} {ow : List Nat} {g : GS} {Fd : List D → Res (D × D)} (hF : Fd = runI m g) (F : Fun K x qual st f fd) (S : FnScope N ps (defScope st)) (hN : N.length = m) (hn : ps.length = n) (hio : 0 ∈ ow)
    (hb : ∀ (cdv : Value) (A : Around) (outer : List PySem.Env) (s : Shared) (H : Hp) (E : XK), Room k (A.deeper (envOfC qual (defScope st) s.heap.objs.size f cdv)) → PSs (cxOf (L2.CX P w) P w K mg base N qual (defScope st) f cdv A outer s H E) (defBody st) (tS ⟨K, mg⟩ true E [0] ow [0] g)) :
    FnOk P w K mg base (L2.CX P w) (k + 1) f fd ps (spI ⟨K, mg⟩ n Fd) := by
  subst hF hN
  exact F.okX S (fun vs H Q E h => (len_spI vs H Q E h).trans hn.symm) fun cdv A outer s H vs Q E hr h => ⟨_, hb cdv A outer s H E hr, fin_I hio h⟩
end
/-! ## calls of defs -/
section
variable {X : Cx} {C : Cf} {io : Bool} {E : XK} {ow ow1 ow2 owL : List Nat} {e a b c : Expr} {es : List Expr} {pos p : Pos} {g ga gb : G} {gr : GA} {x : Str} {k j n : Nat} {ps ks : List Str} {kws : List Keyword}
def gCall (n : Nat) (F : List D → Res D) (ga : GA) : G := fun ρ => (ga ρ).bind fun r => (ofO (strL r.1)).bind fun ds => if ds.length = n then (F ds).bind fun d => .ok (.d d, r.2) else .st
theorem dx_none {B : Bs} {σ : L2.St} {ρ : Env} {H : Hp} {dx : Addr} (en : En C io B ow H σ ρ) (h : H dx = none) : B.H0 dx = none := by
  by_cases hm : B.m = some dx
  · exact absurd h (en.there dx (.inr (.inl (en.m0 hm))))
  · exact en.fr.there h hm
theorem er_of {B : Bs} {σ : L2.St} {ρ : Env} {H : Hp} {c : Str} {fs : List Str} {xs : List D} (en : En C io B ow H σ ρ) (h : Er C B E c fs xs) : ErS C (Opn B ow σ) Nil H E c fs xs := fun cl dx H' fvs a f hd e1 e2 r =>
  h cl dx H' fvs a (en.fr.trans (f.mono fun _ z => z.elim)) (dx_none en hd) e1 e2 (r.less fun _ z => .inl z)
theorem call_core {F : List D → Res D} {σ : L2.St} {H : Hp} {Q : VK} (h : tV C io E ow (gCall n F gr) σ H Q) : tCall (spD C n F) [] E (tA C io E ow gr) σ H Q := by
  obtain ⟨B, ρ, en, o⟩ := h
  refine ⟨B, ρ, en, (Out.bind o).mono fun r _ o vs H1 f1 en1 r1 => ?_⟩
  obtain ⟨ds, hd, o⟩ := (Out.bind o).ofO
  split at o
  · rename_i hl
    have rr := RwL.str r1 hd
    rw [List.append_nil]
    refine ⟨Opn B ow σ, ds, by rw [rr.len]; exact hl, en1.there, rr, ?_⟩
    cases hF : F ds with
    | ok d =>
      rw [hF] at o
      exact fun v H2 f2 r2 => o v H2 (f1.trans (f2.mono fun _ z => z.elim)) (en1.grow f2) r2
    | er c fs xs =>
      rw [hF] at o
      exact er_of en1 o
    | st => rw [hF] at o; exact o.elim
  · exact o.elim
theorem ve_call {F : List D → Res D} (c : LT.Cal X.prog X.w X.K X.mg X.base (L2.CX X.prog X.w) x k ps (spD C n F)) (hr : Room j X.A) (hg : Gl X x) (hx : Passes (L2.CX X.prog X.w) X E) (ha : PA X (e :: es) (tA C io E ow gr)) (hj : k ≤ j := by decide)
    (hdb : (x == ("__debug__" : Str)) = false := by decide) (he : starEach (e :: es) X.env = (false, eval e X.env) :: starEach es X.env := by rfl)
    (hpl : (backTo pos (starEach es X.env)).any (·.1) = false := by rfl) : PE X (.Call (.Name x p) (e :: es) [] pos) (tV C io E ow (gCall n F gr)) :=
  PE.imp (LT.pe_cal c hr hg hx ha hj hdb he hpl) fun _ _ _ h => call_core h
/-- a def whose answer is new -/
def gCallF (n : Nat) (F : List D → Res D) (ga : GA) : GF := fun ρ => (ga ρ).bind fun r => (ofO (strL r.1)).bind fun ds => if ds.length = n then (F ds).bind fun d => .ok (d, r.2) else .st
theorem callF_core {F : List D → Res D} {σ : L2.St} {H : Hp} {Q : VK} (h : tF C io E ow (gCallF n F gr) σ H Q) : tCall (spF C n F) [] E (tA C io E ow gr) σ H Q := by
  obtain ⟨B, ρ, en, o⟩ := h
  refine ⟨B, ρ, en, (Out.bind o).mono fun r _ o vs H1 f1 en1 r1 => ?_⟩
  obtain ⟨ds, hd, o⟩ := (Out.bind o).ofO
  split at o
  · rename_i hl
    have rr := RwL.str r1 hd
    rw [List.append_nil]
    refine ⟨Opn B ow σ, ds, by rw [rr.len]; exact hl, en1.there, rr, ?_⟩
    cases hF : F ds with
    | ok d =>
      rw [hF] at o
      exact fun q H2 f2 hq o2 => o q H2 (f1.trans (f2.mono fun _ z => z.elim)) (en1.new hq f2 o2)
    | er c fs xs =>
      rw [hF] at o
      exact er_of en1 o
    | st => rw [hF] at o; exact o.elim
  · exact o.elim
theorem vf_call {F : List D → Res D} (c : LT.Cal X.prog X.w X.K X.mg X.base (L2.CX X.prog X.w) x k ps (spF C n F)) (hr : Room j X.A) (hg : Gl X x) (hx : Passes (L2.CX X.prog X.w) X E) (ha : PA X (e :: es) (tA C io E ow gr)) (hj : k ≤ j := by decide)
    (hdb : (x == ("__debug__" : Str)) = false := by decide) (he : starEach (e :: es) X.env = (false, eval e X.env) :: starEach es X.env := by rfl)
    (hpl : (backTo pos (starEach es X.env)).any (·.1) = false := by rfl) : PE X (.Call (.Name x p) (e :: es) [] pos) (tF C io E ow (gCallF n F gr)) :=
  PE.imp (LT.pe_cal c hr hg hx ha hj hdb he hpl) fun _ _ _ h => callF_core h
/-- the first argument, the open thing of slot k, may be changed -/
def gCallI (n : Nat) (F : List D → Res (D × D)) (ga : GA) : G := fun ρ => (ga ρ).bind fun r => match r.1 with
  | .o k :: ws => (rs r.2 (.o k)).bind fun d0 => (ofO (strL ws)).bind fun ds => if ds.length + 1 = n then (F (d0 :: ds)).bind fun t => .ok (.d t.1, r.2.set k (some t.2)) else .st
  | _ => .st
theorem callI_core {F : List D → Res (D × D)} {σ : L2.St} {H : Hp} {Q : VK} (h : tV C io E ow (gCallI n F gr) σ H Q) : tCall (spI C n F) [] E (tA C io E ow gr) σ H Q := by
  obtain ⟨B, ρ, en, o⟩ := h
  refine ⟨B, ρ, en, (Out.bind o).mono fun r _ o vs H1 f1 en1 r1 => ?_⟩
  obtain ⟨ws, ρ1⟩ := r
  match ws, r1, o with
  | [], _, o => exact o.elim
  | .d _ :: _, _, o => exact o.elim
  | .o k :: ws, r1, o =>
    match vs, r1 with
    | [], r1 => exact r1.elim
    | v :: vs, r1 =>
    obtain ⟨d0, h0, o⟩ := (Out.bind o).rs
    obtain ⟨ds, hd, o⟩ := (Out.bind o).ofO
    obtain ⟨q, d, e1, e2, oo, _⟩ := en1.own k r1.1.1
    have e3 := r1.1.2
    rw [e2] at e3
    cases e3
    unfold rs at h0
    dsimp only at h0 e1
    rw [e1] at h0
    cases h0
    split at o
    · rename_i hl
      have rr := RwL.str r1.2 hd
      rw [List.append_nil]
      refine ⟨Opn B ow σ, q, d0, vs, ds, rfl, by rw [rr.len]; exact hl, en1.there, .inr (.inl ⟨k, r1.1.1, e2⟩), oo, rr, ?_⟩
      cases hF : F (d0 :: ds) with
      | ok t =>
        rw [hF] at o
        refine fun v H2 f2 r2 o2 => o v H2 (f1.trans (f2.mono fun b z => ⟨k, r1.1.1, by rw [z]; exact e2⟩)) (en1.put r1.1.1 e2 f2 o2) r2
      | er c fs xs =>
        rw [hF] at o
        refine fun cl dx H' fvs a f hdx e4 e5 r => o cl dx H' fvs a (en1.fr.fresh f fun b z => ?_) (dx_none en1 hdx) e4 e5 (r.less fun _ z => .inl z)
        subst z
        obtain ⟨q', d', _, e6, _, e7⟩ := en1.own k r1.1.1
        rw [e2] at e6
        cases e6
        exact e7.elim .inr fun z => .inl z.2
      | st => rw [hF] at o; exact o.elim
    · exact o.elim
theorem ve_callI {F : List D → Res (D × D)} (c : LT.Cal X.prog X.w X.K X.mg X.base (L2.CX X.prog X.w) x k ps (spI C n F)) (hr : Room j X.A) (hg : Gl X x) (hx : Passes (L2.CX X.prog X.w) X E) (ha : PA X (e :: es) (tA C io E ow gr)) (hj : k ≤ j := by decide)
    (hdb : (x == ("__debug__" : Str)) = false := by decide) (he : starEach (e :: es) X.env = (false, eval e X.env) :: starEach es X.env := by rfl)
    (hpl : (backTo pos (starEach es X.env)).any (·.1) = false := by rfl) : PE X (.Call (.Name x p) (e :: es) [] pos) (tV C io E ow (gCallI n F gr)) :=
  PE.imp (LT.pe_cal c hr hg hx ha hj hdb he hpl) fun _ _ _ h => callI_core h
/-- by keywords alone: idx tells which keyword each parameter has -/
def pick {α : Type} (d : α) (idx : List Nat) (zs : List α) : List α := if zs.length = idx.length then idx.map fun i => zs.getD i d else []
theorem pick_len {α : Type} {d : α} {idx : List Nat} {zs : List α} {n : Nat} (h : (pick d idx zs).length = n) (hn : n ≠ 0) : zs.length = idx.length := by
  unfold pick at h
  by_cases e : zs.length = idx.length
  · exact e
  · rw [if_neg e] at h
    exact absurd h.symm hn
theorem rel_getD {O : Hs} {H : Hp} {vs : List V} {ds : List D} (r : RpL C O H vs ds) (i : Nat) : Rp C O H (vs.getD i .non) (ds.getD i .non) := by
  rw [List.getD_eq_getElem?_getD, List.getD_eq_getElem?_getD]
  cases h : vs[i]? with
  | none =>
    have : ds[i]? = none := by
      rw [List.getElem?_eq_none_iff, ← r.len]
      exact List.getElem?_eq_none_iff.mp h
    rw [this]
    exact .non
  | some v =>
    obtain ⟨d, hd, rd⟩ := r.at h
    rw [hd]
    exact rd
theorem rpl_map {O : Hs} {H : Hp} {vs : List V} {ds : List D} (r : RpL C O H vs ds) : ∀ idx : List Nat, RpL C O H (idx.map fun i => vs.getD i .non) (idx.map fun i => ds.getD i .non)
  | [] => .nil
  | i :: idx => .cons (rel_getD r i) (rpl_map r idx)
theorem RpL.pick {O : Hs} {H : Hp} {vs : List V} {ds : List D} (r : RpL C O H vs ds) (idx : List Nat) : RpL C O H (pick .non idx vs) (pick .non idx ds) := by
  unfold VL.pick
  rw [r.len]
  split
  · exact rpl_map r idx
  · exact .nil
theorem vals_getD {zs : List V} {ws : List Value} (r : Vals zs ws) (i : Nat) : RelV (zs.getD i .non) (ws.getD i .none) := by
  rw [List.getD_eq_getElem?_getD, List.getD_eq_getElem?_getD]
  cases h : zs[i]? with
  | none =>
    rw [r.none_of h]
    exact rfl
  | some v =>
    obtain ⟨u, hu, ru⟩ := r.get h
    rw [hu]
    exact ru
theorem vals_map {zs : List V} {ws : List Value} (r : Vals zs ws) : ∀ idx : List Nat, Vals (idx.map fun i => zs.getD i .non) (idx.map fun i => ws.getD i .none)
  | [] => .nil
  | i :: idx => .cons (vals_getD r i) (vals_map r idx)
theorem vals_pick {zs : List V} {ws : List Value} (idx : List Nat) (r : Vals zs ws) : Vals (pick .non idx zs) (pick .none idx ws) := by
  unfold VL.pick
  rw [r.length]
  split
  · exact vals_map r idx
  · exact .nil
def gCallK (n : Nat) (F : List D → Res D) (idx : List Nat) (ga : GA) : G := fun ρ => (ga ρ).bind fun r => (ofO (strL r.1)).bind fun ds => if ds.length = n ∧ idx.length = n then (F (pick .non idx ds)).bind fun d => .ok (.d d, r.2) else .st
theorem callK_core {F : List D → Res D} {idx : List Nat} {σ : L2.St} {H : Hp} {Q : VK} (h : tV C io E ow (gCallK n F idx gr) σ H Q) : LT.tCalK0 (spD C n F) (pick .non idx) E (tA C io E ow gr) σ H Q := by
  obtain ⟨B, ρ, en, o⟩ := h
  refine ⟨B, ρ, en, (Out.bind o).mono fun r _ o vs H1 f1 en1 r1 => ?_⟩
  obtain ⟨ds, hd, o⟩ := (Out.bind o).ofO
  split at o
  · rename_i hl
    have rr := RwL.str r1 hd
    refine ⟨Opn B ow σ, pick .non idx ds, by unfold pick; rw [rr.len, if_pos (hl.1.trans hl.2.symm), List.length_map]; exact hl.2, en1.there, rr.pick idx, ?_⟩
    cases hF : F (pick .non idx ds) with
    | ok d =>
      rw [hF] at o
      exact fun v H2 f2 r2 => o v H2 (f1.trans (f2.mono fun _ z => z.elim)) (en1.grow f2) r2
    | er c fs xs =>
      rw [hF] at o
      exact er_of en1 o
    | st => rw [hF] at o; exact o.elim
  · exact o.elim
theorem PK.imp {X : Cx} {e : List Keyword} {t t' : TA} (h : PK X e t) (i : ∀ σ H Q, t' σ H Q → t σ H Q) : PK X e t' := ⟨fun pos pins s σ H Q I q => h.run pos pins s σ H Q I (i σ H Q q)⟩
theorem ve_callK {F : List D → Res D} {idx : List Nat} (c : LT.CalK X.prog X.w X.K X.mg X.base (L2.CX X.prog X.w) x k ps ks (pick .non idx) (spD C n F)) (hr : Room j X.A) (hg : Gl X x) (hx : Passes (L2.CX X.prog X.w) X E) (hkw : PK X kws (tA C io E ow gr)) (hj : k ≤ j := by decide)
    (hall : (backToKw pos (keywordEach kws X.env)).all (·.1.isSome) = true := by rfl) (hks : (backToKw pos (keywordEach kws X.env)).filterMap (·.1) = ks := by rfl)
    (hdb : (x == ("__debug__" : Str)) = false := by decide)
    (hpl : ((backTo pos (starEach [] X.env)).any (·.1) || (backToKw pos (keywordEach kws X.env)).any (·.1.isNone)) = false := by rfl) :
    PE X (.Call (.Name x p) [] kws pos) (tV C io E ow (gCallK n F idx gr)) :=
  PE.imp (LT.pe_calK0 c hr hg hx hkw hj hall hks hdb hpl) fun _ _ _ h => callK_core h
end
end VL
namespace VL
open PySem PySem.Spec PyProof.Rows L2
section
variable {C : Cf} {O : Hs} {H : Hp} {v : V}
theorem Rt.non (h : Rt C O H v .non) : v = .non := by
  rcases h with h | ⟨p, rfl, h⟩
  · cases h; rfl
  · cases h
theorem Rt.int {i : Int} (h : Rt C O H v (.int i)) : v = .int i := by
  rcases h with h | ⟨p, rfl, h⟩
  · cases h; rfl
  · cases h
theorem Rt.bl {i : Bool} (h : Rt C O H v (.bl i)) : v = .bl i := by
  rcases h with h | ⟨p, rfl, h⟩
  · cases h; rfl
  · cases h
theorem Rt.str {i : Str} (h : Rt C O H v (.str i)) : v = .str i := by
  rcases h with h | ⟨p, rfl, h⟩
  · cases h; rfl
  · cases h
theorem Rt.ty {i : String} (h : Rt C O H v (.ty i)) : v = .ty i := by
  rcases h with h | ⟨p, rfl, h⟩
  · cases h; rfl
  · cases h
theorem Rt.cls {i : Str} (h : Rt C O H v (.cls i)) : ∃ cl, v = .ref cl ∧ C.mg i = some (.ref cl) := by
  rcases h with h | ⟨p, rfl, h⟩
  · cases h with
    | cls e => exact ⟨_, rfl, e⟩
  · cases h
theorem Rt.tup {ds : List D} (h : Rt C O H v (.tup ds)) : ∃ a xs, v = .ref a ∧ TpAt C.K H a xs ∧ RpL C O H xs ds := by
  rcases h with h | ⟨p, rfl, h⟩
  · cases h with
    | tup e r => exact ⟨_, _, rfl, e, r⟩
  · cases h
theorem Rt.lst {ds : List D} (h : Rt C O H v (.lst ds)) : ∃ a xs, v = .ref a ∧ H a = some (.lst xs) ∧ RpL C O H xs ds := by
  rcases h with h | ⟨p, rfl, h⟩
  · cases h with
    | lst n e r => exact ⟨_, _, rfl, e, r⟩
  · cases h with
    | lst e r => exact ⟨_, _, rfl, e, r⟩
theorem Rt.frl {ds : List D} (h : Rt C O H v (.frl ds)) : ∃ a xs, v = .ref a ∧ SqL C.K H a xs ∧ RpL C O H xs ds := by
  rcases h with h | ⟨p, rfl, h⟩
  · cases h with
    | frl e r => exact ⟨_, _, rfl, e.sql, r⟩
  · cases h
theorem Rt.dct {ks ds : List D} (h : Rt C O H v (.dct ks ds)) : ∃ a kvs, v = .ref a ∧ H a = some (.dK kvs) ∧ ks = kvs.map (fun p => kD p.1) ∧ RpL C O H (kvs.map (·.2)) ds := by
  rcases h with h | ⟨p, rfl, h⟩
  · cases h with
    | dct n e k r => exact ⟨_, _, rfl, e, k, r⟩
  · cases h with
    | dct e k r => exact ⟨_, _, rfl, e, k, r⟩
theorem Rt.ins {c : Str} {fs : List Str} {ds : List D} (h : Rt C O H v (.ins c fs ds)) : ∃ a cl dx fvs, v = .ref a ∧ H a = some (.ins cl dx fvs) ∧ C.mg c = some (.ref cl) ∧ fs = fvs.map (·.1) ∧ RpL C O H (fvs.map (·.2)) ds := by
  rcases h with h | ⟨p, rfl, h⟩
  · cases h with
    | ins n e g k r => exact ⟨_, _, _, _, rfl, e, g, k, r⟩
  · cases h with
    | ins e g k r => exact ⟨_, _, _, _, rfl, e, g, k, r⟩
theorem Kv.here {d : D} {Q : VK} (k : Kv C O H d Q) (r : Rp C O H v d) : Q v H := k v H Ex.refl r
theorem Kv.tup {xs : List V} {ds : List D} {Q : VK} (k : Kv C O H (.tup ds) Q) (r : RpL C O H xs ds) {p : Addr} (hp : H p = none) : Q (.ref p) (upd H p (.tup xs)) :=
  k _ _ (Ex.new hp) (.tup (.inl upd_same) (r.keep (Ex.new (M := Nil) hp) fun _ z => z.elim))
theorem Kf.lst {xs : List V} {ds : List D} {Q : VK} (k : Kf C O H (.lst ds) Q) (r : RpL C O H xs ds) {p : Addr} (hp : H p = none) : Q (.ref p) (upd H p (.lst xs)) :=
  k _ _ hp (Ex.new hp) (.lst upd_same (rp_new hp r))
theorem Kv.lst {xs : List V} {ds : List D} {Q : VK} (hO : ∀ b, O b → H b ≠ none) (k : Kv C O H (.lst ds) Q) (r : RpL C O H xs ds) {p : Addr} (hp : H p = none) : Q (.ref p) (upd H p (.lst xs)) := Kf.lst (k.f hO) r hp
end
section
variable {X : Cx} {C : Cf} {f : Value → Value → Sem Value}
theorem OpR.or {r r' : R2} (h : OpR X f r) (h' : OpR X f r') : OpR X f fun x y H Q => r x y H Q ∨ r' x y H Q := fun pins s σ H x y v u Q I rx ry q => q.elim (h pins s σ H x y v u Q I rx ry) (h' pins s σ H x y v u Q I rx ry)
theorem OpR.imp {r r' : R2} (h : OpR X f r) (i : ∀ x y H Q, r' x y H Q → r x y H Q) : OpR X f r' := fun pins s σ H x y v u Q I rx ry q => h pins s σ H x y v u Q I rx ry (i x y H Q q)
theorem CallR.or {g : Value} {r r' : List V → Hp → VK → Prop} (h : CallR X g r) (h' : CallR X g r') : CallR X g fun x H Q => r x H Q ∨ r' x H Q := fun pins s σ H xs us Q I r q => q.elim (h pins s σ H xs us Q I r) (h' pins s σ H xs us Q I r)
theorem CallR.imp {g : Value} {r r' : List V → Hp → VK → Prop} (h : CallR X g r) (i : ∀ x H Q, r' x H Q → r x H Q) : CallR X g r' := fun pins s σ H xs us Q I r q => h pins s σ H xs us Q I r (i xs H Q q)
theorem IxR.or' {r r' : R2} (h : IxR X r) (h' : IxR X r') : IxR X fun x y H Q => r x y H Q ∨ r' x y H Q := h.or h'
theorem IxR.imp {r r' : R2} (h : IxR X r) (i : ∀ x y H Q, r' x y H Q → r x y H Q) : IxR X r' := fun a b pins s σ H x y v u Q I rx ry q => h a b pins s σ H x y v u Q I rx ry (i x y H Q q)
theorem SlR.imp {r r' : V → Option Int → Option Int → Hp → VK → Prop} (h : SlR X r) (i : ∀ x l u H Q, r' x l u H Q → r x l u H Q) : SlR X r' := fun pins s σ H x v vl vu lo hi sl Q I rx hs pl pu q => h pins s σ H x v vl vu lo hi sl Q I rx hs pl pu (i x lo hi H Q q)
/-- with the sizes known -/
theorem OpR.sz {r : R2} (h : OpR X f r) : OpR X f fun x y H Q => Sz X.K H → r x y H Q := fun pins s σ H x y v u Q I rx ry q => h pins s σ H x y v u Q I rx ry (q (PySem.L2x.sz I))
theorem SlR.sz {r : V → Option Int → Option Int → Hp → VK → Prop} (h : SlR X r) : SlR X fun x l u H Q => Sz X.K H → r x l u H Q := fun pins s σ H x v vl vu lo hi sl Q I rx hs pl pu q => h pins s σ H x v vl vu lo hi sl Q I rx hs pl pu (q (PySem.L2x.sz I))
/-! ## numbers -/
def big : Nat := 1000000
def addD : D → D → Option D
  | .int i, .int j => some (.int (i + j))
  | .str x, .str y => if x.length + y.length ≤ sizeLine then some (.str (x ++ y)) else none
  | .tup a, .tup b => if a.length + b.length ≤ big then some (.tup (a ++ b)) else none
  | .lst a, .lst b => if a.length + b.length ≤ big then some (.lst (a ++ b)) else none
  | _, _ => none
theorem big_line {n : Nat} (h : n ≤ big) : n ≤ sizeLine := Nat.le_trans h (by decide)
theorem opD_add (hC : C.K = X.K) : OpR X (binaryOp .Add) (rD C addD) := OpR.imp (OpR.or op_add (OpR.or op_add_str (OpR.or op_catA op_cat))) fun x y H Q ⟨O, a, b, d, hO, ra, rb, hF, k⟩ => by
  unfold addD at hF
  split at hF
  · cases hF
    exact .inl ⟨_, _, ra.int, rb.int, k.here (.int _)⟩
  · split at hF
    · cases hF
      exact .inr (.inl ⟨_, _, ra.str, rb.str, by assumption, k.here (.str _)⟩)
    · cases hF
  · split at hF
    · rename_i hl
      cases hF
      obtain ⟨p, xs, rfl, e1, r1⟩ := ra.tup
      obtain ⟨q, ys, rfl, e2, r2⟩ := rb.tup
      refine .inr (.inr (.inl ⟨p, q, xs, ys, rfl, rfl, hC ▸ e1.sqt, hC ▸ e2.sqt, by rw [r1.len, r2.len]; exact big_line hl, fun h => ?_, fun _ h => ?_, fun _ _ z hz => k.tup (r1.app r2) hz⟩))
      · subst h
        cases r1
        exact k.here (.tup e2 r2)
      · subst h
        cases r2
        rw [List.append_nil] at k
        exact k.here (.tup e1 r1)
    · cases hF
  · split at hF
    · rename_i hl
      cases hF
      obtain ⟨p, xs, rfl, e1, r1⟩ := ra.lst
      obtain ⟨q, ys, rfl, e2, r2⟩ := rb.lst
      exact .inr (.inr (.inr ⟨p, q, xs, ys, rfl, rfl, e1, e2, by rw [r1.len, r2.len]; exact big_line hl, fun z hz => k.lst hO (r1.app r2) hz⟩))
    · cases hF
  · cases hF
def addF : D → D → Option D
  | .lst a, .lst b => if a.length + b.length ≤ big then some (.lst (a ++ b)) else none
  | _, _ => none
theorem opF_add : OpR X (binaryOp .Add) (rDF C addF) := OpR.imp op_cat fun x y H Q ⟨O, a, b, d, hO, ra, rb, hF, k⟩ => by
  unfold addF at hF
  split at hF
  · split at hF
    · rename_i hl
      cases hF
      obtain ⟨p, xs, rfl, e1, r1⟩ := ra.lst
      obtain ⟨q, ys, rfl, e2, r2⟩ := rb.lst
      exact ⟨p, q, xs, ys, rfl, rfl, e1, e2, by rw [r1.len, r2.len]; exact big_line hl, fun z hz => k.lst (r1.app r2) hz⟩
    · cases hF
  · cases hF
def subD : D → D → Option D
  | .int i, .int j => some (.int (i - j))
  | _, _ => none
theorem opD_sub : OpR X (binaryOp .Sub) (rD C subD) := OpR.imp op_sub fun x y H Q ⟨O, a, b, d, hO, ra, rb, hF, k⟩ => by
  unfold subD at hF
  split at hF
  · cases hF
    exact ⟨_, _, ra.int, rb.int, k.here (.int _)⟩
  · cases hF
theorem repl_rp {O : Hs} {H : Hp} {vs : List V} {ds : List D} (r : RpL C O H vs ds) : ∀ n : Nat, RpL C O H (List.replicate n vs).flatten (List.replicate n ds).flatten
  | 0 => .nil
  | n + 1 => by
    rw [List.replicate_succ, List.replicate_succ, List.flatten_cons, List.flatten_cons]
    exact r.app (repl_rp r n)
def small (k : Int) : Bool := decide (-1000000000 ≤ k ∧ k ≤ 1000000000)
theorem small_ok {k : Int} (h : small k = true) : -1000000000 ≤ k ∧ k ≤ 1000000000 := of_decide_eq_true h
def mulD : D → D → Option D
  | .int i, .int j => if i.natAbs.log2 + j.natAbs.log2 < 1000000 then some (.int (i * j)) else none
  | .lst a, .int k => if small k = true ∧ a.length * k.toNat ≤ big then some (.lst (List.replicate k.toNat a).flatten) else none
  | .tup a, .int k => if a ≠ [] ∧ 1 ≤ k ∧ k ≤ 1000 ∧ a.length ≤ 1000 then some (.tup (List.replicate k.toNat a).flatten) else none
  | _, _ => none
/-- a tuple times one is the tuple -/
theorem tuple_one (l : Addr) (n : Nat) (dd : Option Addr) (sl : Array (Option Value)) (data : Array Value) (u : Tok) :
    Meets (Builtin.«tuple.__mul__» ⟨[.ref l, .int 1 u], []⟩) (fun _ R s => s.heap.get? l = some { cls := .type "tuple", dict := dd, data := .seq data n, slots := sl } ∧ R (.ok (.ret (Value.ref l))) s) :=
  .of_wp fun prog w A R s h => by
    obtain ⟨hp, g, d, tk, os⟩ := s
    obtain ⟨hl, h⟩ := h
    have f1 := AutoSeq1.idx_int
    have c0 : (decide ((1 : Int) < -(2 ^ 63)) || decide ((1 : Int) ≥ 2 ^ 63)) = false := by decide
    have c1 : (data.isEmpty || (1 : Int) == 1) = true := by rw [show ((1 : Int) == 1) = true from rfl, Bool.or_true]
    wp_walk using AutoSeq1.wpAny_loadPart' hl
    repeat (first
      | (refine wpAny_ite_false (decide_eq_false (by rw [c0]; exact Bool.false_ne_true)) ?_; wp_walk using AutoSeq1.wpAny_loadPart' hl)
      | (refine wpAny_ite_true (decide_eq_true c1) ?_; wp_walk using AutoSeq1.wpAny_loadPart' hl))
    exact ⟨_, rfl, h⟩
def rRep1 (K : PySem.W.Frag) : R2 := fun x y H Q => ∃ l xs, x = .ref l ∧ y = .int 1 ∧ SqT K H l xs ∧ Q (.ref l) H
theorem op_rep1 : OpR X (binaryOp .Mult) (rRep1 X.K) := by
  intro pins s σ H x y v u Q I rx ry h
  obtain ⟨l, xs, rfl, rfl, hT, q⟩ := h
  cases (show v = Value.ref l from rx)
  obtain ⟨t, rfl⟩ := (show ∃ t, u = Value.int 1 t from ry)
  obtain ⟨its, r, ⟨⟨cls, dd, data, sl⟩, ho, hc, n, hd⟩, hs⟩ := I.tuple hT
  simp only at hc hd
  subst hc hd
  exact wpAny_binaryOp_repeat_ref (T := "tuple") (U := "int") (by decide) ⟨_, ho, rfl⟩ (fun s' => typeIs_int s' 1 t) noFill_tuple_mul F.fills_int_mul F.slot_int_rmul repeat_tuple F.slot_int_index.lookup
      (call_meets F.slot_int_rmul (typeIs_int s 1 t) F.entry_int_rmul (F.args_int_rmul_2 _ _) (int_rmul_tuple 1 t l _ n dd sl)
        ⟨ho, rfl, ⟨_, ho, rfl⟩, call_meets F.slot_tuple_mul ⟨_, ho, rfl⟩ F.entry_tuple_mul (F.args_tuple_mul_2 _ _) (tuple_one l n dd sl _ t) ⟨ho, ⟨.ref l, H, I, rfl, q⟩⟩⟩)
theorem opD_mul (hC : C.K = X.K) : OpR X (binaryOp .Mult) (rD C mulD) := OpR.imp (OpR.or op_mulW (OpR.or op_rep (OpR.or op_rep1 op_repT))) fun x y H Q ⟨O, a, b, d, hO, ra, rb, hF, k⟩ => by
  unfold mulD at hF
  split at hF
  · split at hF
    · cases hF
      exact .inl ⟨_, _, ra.int, rb.int, by assumption, k.here (.int _)⟩
    · cases hF
  · split at hF
    · rename_i hl
      cases hF
      obtain ⟨p, xs, rfl, e1, r1⟩ := ra.lst
      have hk := small_ok hl.1
      exact .inr (.inl ⟨p, _, xs, rfl, rb.int, e1, by omega, by omega, by rw [r1.len]; exact big_line hl.2, fun z hz => k.lst hO (repl_rp r1 _) hz⟩)
    · cases hF
  · split at hF
    · rename_i as n hl
      cases hF
      obtain ⟨p, xs, rfl, e1, r1⟩ := ra.tup
      by_cases h1 : n = 1
      · subst h1
        refine .inr (.inr (.inl ⟨p, xs, rfl, rb.int, hC ▸ e1.sqt, ?_⟩))
        have e : (List.replicate (1 : Int).toNat as).flatten = as := List.append_nil _
        rw [e] at k
        exact k.here (.tup e1 r1)
      · exact .inr (.inr (.inr ⟨p, n, xs, rfl, rb.int, hC ▸ e1.sqt, fun h => hl.1 (List.eq_nil_of_length_eq_zero (by rw [← r1.len, h]; rfl)), by omega, hl.2.2.1, by rw [r1.len]; exact hl.2.2.2, fun z hz => k.tup (repl_rp r1 _) hz⟩))
    · cases hF
  · cases hF
def mulF : D → D → Option D
  | .lst a, .int k => if small k = true ∧ a.length * k.toNat ≤ big then some (.lst (List.replicate k.toNat a).flatten) else none
  | _, _ => none
theorem opF_mul : OpR X (binaryOp .Mult) (rDF C mulF) := OpR.imp op_rep fun x y H Q ⟨O, a, b, d, hO, ra, rb, hF, k⟩ => by
  unfold mulF at hF
  split at hF
  · split at hF
    · rename_i hl
      cases hF
      obtain ⟨p, xs, rfl, e1, r1⟩ := ra.lst
      have hk := small_ok hl.1
      exact ⟨p, _, xs, rfl, rb.int, e1, by omega, by omega, by rw [r1.len]; exact big_line hl.2, fun z hz => k.lst (repl_rp r1 _) hz⟩
    · cases hF
  · cases hF
def modD : D → D → Option D
  | .int i, .int j => if 0 < j then some (.int (i % j)) else none
  | _, _ => none
theorem opD_mod : OpR X (binaryOp .Mod) (rD C modD) := OpR.imp op_mod fun x y H Q ⟨O, a, b, d, hO, ra, rb, hF, k⟩ => by
  unfold modD at hF
  split at hF
  · split at hF
    · cases hF
      exact ⟨_, _, ra.int, rb.int, by assumption, k.here (.int _)⟩
    · cases hF
  · cases hF
def fdivD : D → D → Option D
  | .int i, .int j => if 0 < j ∧ j < 1073741824 then some (.int (i / j)) else none
  | _, _ => none
theorem opD_fdiv : OpR X (binaryOp .FloorDiv) (rD C fdivD) := OpR.imp op_fdiv fun x y H Q ⟨O, a, b, d, hO, ra, rb, hF, k⟩ => by
  unfold fdivD at hF
  split at hF
  · split at hF
    · cases hF
      exact ⟨_, _, ra.int, rb.int, by assumption, k.here (.int _)⟩
    · cases hF
  · cases hF
def powD : D → D → Option D
  | .int i, .int j => if 0 ≤ j ∧ ((Builtin.Int.intBits i : Nat) : Int) * j ≤ 2 ^ 27 then some (.int (i ^ j.toNat)) else none
  | _, _ => none
theorem opD_pow : OpR X (binaryOp .Pow) (rD C powD) := OpR.imp LT.op_powB fun x y H Q ⟨O, a, b, d, hO, ra, rb, hF, k⟩ => by
  unfold powD at hF
  split at hF
  · split at hF
    · cases hF
      exact ⟨_, _, ra.int, rb.int, by assumption, k.here (.int _)⟩
    · cases hF
  · cases hF
/-! ## comparisons -/
def cmpD (p : Int → Int → Bool) (q : Str → Str → Bool) : D → D → Option D
  | .int i, .int j => some (.bl (p i j))
  | .str i, .str j => some (.bl (q i j))
  | _, _ => none
def sLt (i j : Str) : Bool := decide (i.cps.toList < j.cps.toList)
def ltD := cmpD (fun i j => decide (i < j)) sLt
def leD := cmpD (fun i j => decide (i ≤ j)) fun i j => !sLt j i
def gtD := cmpD (fun i j => decide (j < i)) fun i j => sLt j i
def geD := cmpD (fun i j => decide (j ≤ i)) fun i j => !sLt i j
theorem cmp_ok {p : Int → Int → Bool} {q : Str → Str → Bool} {op : CmpOp} (h1 : OpR X (compareOp op) (rI0 fun i j => .bl (p i j))) (h2 : OpR X (compareOp op) (fun x y H Q => ∃ i j, x = .str i ∧ y = .str j ∧ Q (.bl (q i j)) H)) : OpR X (compareOp op) (rD C (cmpD p q)) :=
  OpR.imp (OpR.or h1 h2) fun x y H Q ⟨O, a, b, d, hO, ra, rb, hF, k⟩ => by
  unfold cmpD at hF
  split at hF
  · cases hF
    exact .inl ⟨_, _, ra.int, rb.int, k.here (.bl _)⟩
  · cases hF
    exact .inr ⟨_, _, ra.str, rb.str, k.here (.bl _)⟩
  · cases hF
theorem opD_lt : OpR X (compareOp .Lt) (rD C ltD) := cmp_ok op_lt op_lt_str
theorem opD_le : OpR X (compareOp .LtE) (rD C leD) := cmp_ok op_le op_le_str
theorem opD_gt : OpR X (compareOp .Gt) (rD C gtD) := cmp_ok op_gt op_gt_str
theorem opD_ge : OpR X (compareOp .GtE) (rD C geD) := cmp_ok op_ge op_ge_str
/-! ## ==, in -/
mutual
def toPD : D → PyData
  | .non => .none
  | .bl b => .bool b
  | .int i => .int i
  | .str x => .str x
  | .tup ds => .tuple (toPDs ds)
  | .lst ds => .list (toPDs ds)
  | .frl ds => .list (toPDs ds)
  | _ => .dict []
def toPDs : List D → List PyData
  | [] => []
  | d :: ds => toPD d :: toPDs ds
end
mutual
/-- data without dicts and instances -/
def plain : D → Bool
  | .dct .. => false
  | .ins .. => false
  | .ty _ => false
  | .cls _ => false
  | .tup ds => plains ds
  | .lst ds => plains ds
  | .frl ds => plains ds
  | _ => true
def plains : List D → Bool
  | [] => true
  | d :: ds => plain d && plains ds
end
mutual
theorem rp_dp {O : Hs} {H : Hp} : ∀ {d : D} {v : V}, plain d = true → Rp C O H v d → Dp C.K H v (toPD d)
  | _, _, _, .non => .non
  | _, _, _, .bl b => .bl b
  | _, _, _, .int b => .int b
  | _, _, _, .str b => .str b
  | _, _, h, .tup e r => .tup e.sqt (rp_dps h r)
  | _, _, h, .lst n e r => .lst (SqL.of e) (rp_dps h r)
  | _, _, h, .frl e r => .lst e.sql (rp_dps h r)
  | _, _, h, .dct .. => by cases h
  | _, _, h, .ins .. => by cases h
  | _, _, h, .ty _ => by cases h
  | _, _, h, .cls _ => by cases h
theorem rp_dps {O : Hs} {H : Hp} : ∀ {ds : List D} {vs : List V}, plains ds = true → RpL C O H vs ds → DpAll C.K H vs (toPDs ds)
  | _, _, _, .nil => .nil
  | _, _, h, .cons a b => by
    unfold plains at h
    rw [Bool.and_eq_true] at h
    exact .cons (rp_dp h.1 a) (rp_dps h.2 b)
end
theorem rt_dp {O : Hs} {H : Hp} {d : D} {v : V} (h : plain d = true) (r : Rt C O H v d) : Dp C.K H v (toPD d) := by
  rcases r with r | ⟨p, rfl, o⟩
  · exact rp_dp h r
  · cases o with
    | lst e r => exact .lst (SqL.of e) (rp_dps h r)
    | dct => cases h
    | ins => cases h
def okEq (d : D) : Bool := plain d && SeqAt.shaped (toPD d)
def eqB (a b : D) : Bool := PyData.eqv (toPD a) (toPD b)
def eqD (a b : D) : Option D := if okEq a = true ∧ okEq b = true then some (.bl (eqB a b)) else none
def neD (a b : D) : Option D := if okEq a = true ∧ okEq b = true then some (.bl (!eqB a b)) else none
theorem opD_eq (hC : C.K = X.K) (hu : X.A.units + 64 < cLine) : OpR X (compareOp .Eq) (rD C eqD) := OpR.imp (op_eqD hu) fun x y H Q ⟨O, a, b, d, hO, ra, rb, hF, k⟩ => by
  unfold eqD okEq at hF
  split at hF
  · rename_i h
    rw [Bool.and_eq_true, Bool.and_eq_true] at h
    cases hF
    exact ⟨toPD a, toPD b, hC ▸ rt_dp h.1.1 ra, hC ▸ rt_dp h.2.1 rb, h.1.2, h.2.2, k.here (.bl _)⟩
  · cases hF
theorem opD_ne (hC : C.K = X.K) (hu : X.A.units + 64 < cLine) : OpR X (compareOp .NotEq) (rD C neD) := OpR.imp (op_neD hu) fun x y H Q ⟨O, a, b, d, hO, ra, rb, hF, k⟩ => by
  unfold neD okEq at hF
  split at hF
  · rename_i h
    rw [Bool.and_eq_true, Bool.and_eq_true] at h
    cases hF
    exact ⟨toPD a, toPD b, hC ▸ rt_dp h.1.1 ra, hC ▸ rt_dp h.2.1 rb, h.1.2, h.2.2, k.here (.bl _)⟩
  · cases hF
/-- is None -/
def isNone : D → Bool
  | .non => true
  | _ => false
def isND (a b : D) : Option D := match b with
  | .non => some (.bl (isNone a))
  | _ => none
def notND (a b : D) : Option D := match b with
  | .non => some (.bl (!isNone a))
  | _ => none
theorem rt_none {O : Hs} {H : Hp} {v : V} {d : D} (r : Rt C O H v d) : decide (v = .non) = isNone d := by
  rcases r with r | ⟨p, rfl, o⟩
  · cases r <;> rfl
  · cases o <;> rfl
theorem opD_isN : OpR X (compareOp .Is) (rD C isND) := OpR.imp op_isN fun x y H Q ⟨O, a, b, d, hO, ra, rb, hF, k⟩ => by
  unfold isND at hF
  split at hF
  · cases hF
    exact ⟨rb.non, by rw [rt_none ra]; exact k.here (.bl _)⟩
  · cases hF
theorem opD_notN : OpR X (compareOp .IsNot) (rD C notND) := OpR.imp op_notN fun x y H Q ⟨O, a, b, d, hO, ra, rb, hF, k⟩ => by
  unfold notND at hF
  split at hF
  · cases hF
    exact ⟨rb.non, by rw [rt_none ra]; exact k.here (.bl _)⟩
  · cases hF
/-- in, of flat things -/
def flatD : D → Bool
  | .non => true
  | .bl _ => true
  | .int _ => true
  | .str _ => true
  | _ => false
def toV : D → V
  | .bl b => .bl b
  | .int i => .int i
  | .str x => .str x
  | _ => .non
theorem rp_flat {O : Hs} {H : Hp} {v : V} {d : D} (h : flatD d = true) (r : Rp C O H v d) : v = toV d ∧ flatV v = true := by
  cases r <;> first | exact ⟨rfl, rfl⟩ | cases h
theorem rt_flat {O : Hs} {H : Hp} {v : V} {d : D} (h : flatD d = true) (r : Rt C O H v d) : v = toV d ∧ flatV v = true := by
  rcases r with r | ⟨p, rfl, o⟩
  · exact rp_flat h r
  · cases o <;> cases h
theorem rp_flats {O : Hs} {H : Hp} : ∀ {vs : List V} {ds : List D}, ds.all flatD = true → RpL C O H vs ds → vs = ds.map toV ∧ vs.all flatV = true
  | _, _, _, .nil => ⟨rfl, rfl⟩
  | _, _, h, .cons a b => by
    rw [List.all_cons, Bool.and_eq_true] at h
    obtain ⟨h1, h2⟩ := rp_flat h.1 a
    obtain ⟨h3, h4⟩ := rp_flats h.2 b
    exact ⟨by rw [List.map_cons, ← h1, ← h3], by rw [List.all_cons, h2, h4]; rfl⟩
def inB (x : D) (ds : List D) : Bool := inV (toV x) (ds.map toV)
def inD (x y : D) : Option D := match y with
  | .tup ds => if flatD x = true ∧ ds.all flatD = true then some (.bl (inB x ds)) else none
  | .lst ds => if flatD x = true ∧ ds.all flatD = true then some (.bl (inB x ds)) else none
  | _ => none
def ninD (x y : D) : Option D := match y with
  | .tup ds => if flatD x = true ∧ ds.all flatD = true then some (.bl (!inB x ds)) else none
  | .lst ds => if flatD x = true ∧ ds.all flatD = true then some (.bl (!inB x ds)) else none
  | _ => none
theorem opD_in (hC : C.K = X.K) : OpR X (compareOp .In) (rD C inD) := OpR.imp op_in_seq fun x y H Q ⟨O, a, b, d, hO, ra, rb, hF, k⟩ => by
  unfold inD at hF
  split at hF
  · split at hF
    · rename_i h
      cases hF
      obtain ⟨p, xs, rfl, e, r⟩ := rb.tup
      obtain ⟨h1, h2⟩ := rt_flat h.1 ra
      obtain ⟨h3, h4⟩ := rp_flats h.2 r
      refine ⟨p, xs, rfl, .inr (hC ▸ e.sqt), h2, h4, ?_⟩
      rw [if_neg Bool.false_ne_true, h1, h3]
      exact k.here (.bl _)
    · cases hF
  · split at hF
    · rename_i h
      cases hF
      obtain ⟨p, xs, rfl, e, r⟩ := rb.lst
      obtain ⟨h1, h2⟩ := rt_flat h.1 ra
      obtain ⟨h3, h4⟩ := rp_flats h.2 r
      refine ⟨p, xs, rfl, .inl (SqL.of e), h2, h4, ?_⟩
      rw [if_neg Bool.false_ne_true, h1, h3]
      exact k.here (.bl _)
    · cases hF
  · cases hF
theorem opD_nin (hC : C.K = X.K) : OpR X (compareOp .NotIn) (rD C ninD) := OpR.imp op_notIn_seq fun x y H Q ⟨O, a, b, d, hO, ra, rb, hF, k⟩ => by
  unfold ninD at hF
  split at hF
  · split at hF
    · rename_i h
      cases hF
      obtain ⟨p, xs, rfl, e, r⟩ := rb.tup
      obtain ⟨h1, h2⟩ := rt_flat h.1 ra
      obtain ⟨h3, h4⟩ := rp_flats h.2 r
      refine ⟨p, xs, rfl, .inr (hC ▸ e.sqt), h2, h4, ?_⟩
      rw [if_pos rfl, h1, h3]
      exact k.here (.bl _)
    · cases hF
  · split at hF
    · rename_i h
      cases hF
      obtain ⟨p, xs, rfl, e, r⟩ := rb.lst
      obtain ⟨h1, h2⟩ := rt_flat h.1 ra
      obtain ⟨h3, h4⟩ := rp_flats h.2 r
      refine ⟨p, xs, rfl, .inl (SqL.of e), h2, h4, ?_⟩
      rw [if_pos rfl, h1, h3]
      exact k.here (.bl _)
    · cases hF
  · cases hF
end
end VL
namespace VL
open PySem PySem.Spec PyProof.Rows L2
/-! ## a tuple turned round by a slice -/
section
variable {prog : Program} {w : World} {A : Around} {E : Value → Shared → Prop} {s : Shared}
theorem rev_adjust (n : Nat) : Builtin.Slice.sliceAdjust none none (-1) (n : Int) = ((n : Int) - 1, -1) := by
  unfold Builtin.Slice.sliceAdjust
  simp
theorem rev_places (n : Nat) : Builtin.Slice.slicePlaces ((n : Int) - 1) (-1) (-1) = n := by
  unfold Builtin.Slice.slicePlaces
  simp
  split <;> omega
theorem fm_congr {α β : Type} {f g : α → Option β} : ∀ {l : List α}, (∀ a, a ∈ l → f a = g a) → l.filterMap f = l.filterMap g
  | [], _ => rfl
  | a :: l, h => by
    rw [List.filterMap_cons, List.filterMap_cons, h a List.mem_cons_self, fm_congr fun b hb => h b (List.mem_cons_of_mem _ hb)]
theorem rev_pick (xs : Array Value) : ((List.range xs.size).filterMap fun (m : Nat) => xs[(((xs.size : Int) - 1) + (m : Int) * (-1)).toNat]?) = xs.toList.reverse := by
  have q := PySem.W.krv_all xs.toList.reverse.toArray
  simp only [List.size_toArray, List.length_reverse, Array.length_toList] at q
  rw [← q]
  apply fm_congr
  intro m hm
  have hm' : m < xs.size := List.mem_range.mp hm
  have e : xs.toList.reverse.toArray[m]? = xs.toList.reverse[m]? := by simp
  rw [e, List.getElem?_reverse (by simpa using hm'), Array.getElem?_toList, Array.length_toList]
  congr 1
  omega
theorem rev_applied {sl : Addr} {vl vu vs : Value} {n : Nat} {Q : Int × Int × Nat → Shared → Prop} (hs : s.heap.IsSliceOf sl vl vu vs) (pl : IsPart vl none) (pu : IsPart vu none) (ps : IsPart vs (some (-1)))
    (h : Q ((n : Int) - 1, -1, n) s) : wpAny (model prog w) A (Builtin.Slice.sliceApplied (.ref sl) (pure (n : Int))) Q E s := by
  obtain ⟨so, e1, e2, e3⟩ := id hs
  unfold Builtin.Slice.sliceApplied Builtin.Slice.sliceFields
  apply wpAny_bind; apply wpAny_bind
  refine wpAny_field e1 e3 (x := vl) rfl ?_
  apply wpAny_bind
  refine wpAny_field e1 e3 (x := vu) rfl ?_
  apply wpAny_bind
  refine wpAny_field e1 e3 (x := vs) rfl (wpAny_pure ?_)
  apply wpAny_bind
  refine HT.slicePart_ ps ?_
  show wpAny _ _ (if ((-1 : Int) == 0) = true then _ else _) _ _ s
  rw [if_neg (show ¬ ((-1 : Int) == 0) = true by decide)]
  refine wpAny_bind (HT.slicePart_ pl ?_)
  refine wpAny_bind (HT.slicePart_ pu ?_)
  refine wpAny_bind (wpAny_pure ?_)
  show wpAny _ _ (match Builtin.Slice.sliceAdjust none none (-1) (n : Int) with | (lo, hi) => pure (lo, (-1 : Int), Builtin.Slice.slicePlaces lo hi (-1))) _ _ s
  rw [rev_adjust]
  show wpAny _ _ (pure ((n : Int) - 1, (-1 : Int), Builtin.Slice.slicePlaces ((n : Int) - 1) (-1) (-1))) _ _ s
  rw [rev_places]
  exact wpAny_pure h
theorem rev_tuple {t sl : Addr} {items : Array Value} {vl vu vs : Value} {Q : Value → Shared → Prop} (ht : IsTup s.heap t items) (hs : s.heap.IsSliceOf sl vl vu vs) (pl : IsPart vl none) (pu : IsPart vu none) (ps : IsPart vs (some (-1)))
    (h : Q (.ref s.heap.objs.size) { s with heap := s.heap.push { cls := .type "tuple", data := .seq items.toList.reverse.toArray } }) (hsz : items.size ≤ sizeLine) : wpAny (model prog w) A (getItem (.ref t) (.ref sl)) Q E s := by
  have hz : sizeOk (.seq items.toList.reverse.toArray) := by
    show items.toList.reverse.toArray.size ≤ sizeLine
    rw [List.size_toArray, List.length_reverse, Array.length_toList]
    exact hsz
  obtain ⟨so, e1, e2, e3⟩ := id hs
  have ty : s.TypeIs (.ref sl) "slice" := ⟨so, e1, e2⟩
  unfold getItem
  try with_reducible apply wpAny_holding
  first | apply wpAny_bind (wpAny_pure _) | skip
  refine wpAny_bind (wpAny_sequenceKey ht.typeIs (by decide) ?_)
  refine wpAny_bind ?_
  refine wpAny_callSpecial?_slot (name := Str.ofString "__getitem__") ht.typeIs PyProof.Rows.slot_tuple_getitem ?_
  refine wpAny_call_entry PyProof.Rows.slot_tuple_getitem ht.typeIs entry_tuple_getitem ?_ (args_tuple_getitem _ _)
  show wpAny _ _ (Builtin.Tuple.tupleItemsOf (.ref t) >>= _) _ _ s
  refine wpAny_bind (tupleItemsOf_ ht (wpAny_bind (wpAny_typeOf ty ?_)))
  rw [if_pos (by decide)]
  refine wpAny_bind (rev_applied hs pl pu ps ?_)
  have hno : ¬ ((((items.size : Int) - 1) == 0 && (-1 : Int) == 1 && items.size == items.size) = true) := by
    rw [show ((-1 : Int) == 1) = false from rfl, Bool.and_false, Bool.false_and]
    exact Bool.false_ne_true
  show wpAny _ _ (if (((items.size : Int) - 1) == 0 && (-1 : Int) == 1 && items.size == items.size) = true then _ else _) _ _ s
  rw [if_neg hno, rev_pick]
  first
    | exact wpAny_bind (m := Builtin.Tuple.tupleExact _) (wpAny_newObj_type (wpAny_pure ⟨_, rfl, wpAny_pure h⟩) hz)
    | exact wpAny_bind (m := Builtin.Tuple.tupleExact _) (wpAny_newObj_type (wpAny_bind (wpAny_pure (wpAny_pure ⟨_, rfl, wpAny_pure h⟩))) hz)
    | exact wpAny_bind (wpAny_bind (m := Builtin.Tuple.tupleExact _) (wpAny_newObj_type (wpAny_pure (wpAny_pure ⟨_, rfl, wpAny_pure h⟩)) hz))
    | exact wpAny_bind (wpAny_bind (m := Builtin.Tuple.tupleExact _) (wpAny_newObj_type (wpAny_pure ⟨_, rfl, wpAny_pure h⟩) hz))
end
section
variable {X : Cx} {C : Cf} {io : Bool} {E : XK} {ow ow1 ow2 owL : List Nat} {e a b c : Expr} {es : List Expr} {pos p : Pos} {g ga gb : G}
/-- t[::-1] -/
def revD : D → Option D
  | .tup ds => some (.tup ds.reverse)
  | .lst ds => some (.lst ds.reverse)
  | _ => none
def gUn (F : D → Option D) (ga : G) : G := fun ρ => (ga ρ).bind fun r => (rs r.2 r.1).bind fun x => (ofO (F x)).bind fun z => .ok (.d z, r.2)
def gUnF (F : D → Option D) (ga : G) : GF := fun ρ => (ga ρ).bind fun r => (rs r.2 r.1).bind fun x => (ofO (F x)).bind fun z => .ok (z, r.2)
def tRevT (K : PySem.W.Frag) (te : TE) : TE := fun σ H Q => te σ H fun x H1 => ∃ a xs, x = .ref a ∧ SqT K H1 a xs ∧ ∀ q, H1 q = none → Q (.ref q) (upd H1 q (.tup xs.reverse))
theorem pe_revT {te : TE} {k : Nat} {p1 p2 p3 : Pos} (he : PE X e te) : PE X (.Subscript e (.Slice none none (some (.UnaryOp .USub (.Constant (.int 1) k p1) p2)) p3) pos) (tRevT X.K te) := by
  constructor
  intro pins s σ H Q I h
  apply Subscript_
  refine thn (he.run pins s σ H _ I h) ?_
  rintro v s1 ⟨x, H1, I1, r1, a, xs, rfl, hx, q⟩
  cases r1
  have step : PO X (some (.UnaryOp .USub (.Constant (.int 1) k p1) p2)) (tPart (tUn (rU fun i => .int (-i)) (tC (.int 1)))) := po_some (pe_un un_neg pe_int)
  apply wpAny_Slice
  refine thn (po_none.run pins s1 σ H1 (fun o Hh => o = none ∧ Hh = H1) I1 ⟨rfl, rfl⟩) ?_
  rintro vl s2 ⟨l, H2, I2, pl, rfl, rfl⟩
  refine thn (po_none.run pins s2 σ H2 (fun o Hh => o = none ∧ Hh = H2) I2 ⟨rfl, rfl⟩) ?_
  rintro vu s3 ⟨u, H3, I3, pu, rfl, rfl⟩
  refine thn (step.run pins s3 σ H3 (fun o Hh => o = some (-1) ∧ Hh = H3) I3 ⟨1, rfl, -1, rfl, rfl, rfl⟩) ?_
  rintro vs s4 ⟨o, H4, I4, ps, rfl, rfl⟩
  have J : Inv X pins σ H4 { s4 with heap := s4.heap.push { cls := .type "slice", data := .fields #[vl, vu, vs] } } := I4.kept (t' := s4.toks) fun b ob z => Heap.get?_push_of_some _ z
  obtain ⟨its, r, ht, hz⟩ := J.tuple hx
  have hl := r.length
  show wpAny (model X.prog X.w) X.A (subscriptTail e (.Slice none none (some (.UnaryOp .USub (.Constant (.int 1) k p1) p2)) p3) (.ref a) (.ref s4.heap.objs.size)) (EP X pins σ Q) X.xe { s4 with heap := s4.heap.push { cls := .type "slice", data := .fields #[vl, vu, vs] } }
  refine tail_any (ops := [.ref a, .ref s4.heap.objs.size]) ht.typeIs PyProof.Rows.slot_tuple_getitem.lookup ?_ (by with_unfolding_all rfl)
  refine rev_tuple ht (Heap.IsSliceOf.new _ vl vu vs) pl pu ps ?_ (by rw [List.size_toArray]; omega)
  refine ⟨.ref _, _, J.laid (t' := s4.toks) (o := .tup xs.reverse) (fun b ob z => Heap.get?_push_of_some _ z) (Nat.le_refl _) ?_, rfl, q _ (J.hok.fresh (Nat.le_refl _))⟩
  exact ⟨by rw [List.length_reverse]; exact hz, its.reverse, r.reverse, ⟨_, Heap.get?_push_size _ rfl, rfl, 0, rfl⟩⟩
theorem PE.or {X : Cx} {e : Expr} {t t' : TE} (h : PE X e t) (h' : PE X e t') : PE X e fun σ H Q => t σ H Q ∨ t' σ H Q := ⟨fun pins s σ H Q I q => q.elim (h.run pins s σ H Q I) (h'.run pins s σ H Q I)⟩
/-- one operation on one thing, by two rules: which one is told by the data -/
theorem un_core {F : D → Option D} {t1 t2 : V → Hp → VK → Prop} {σ : L2.St} {H : Hp} {Q : VK} (h : tV C io E ow (gUn F ga) σ H Q) (hr : ∀ O H v x z Q, (∀ b, O b → H b ≠ none) → Rt C O H v x → F x = some z → Kv C O H z Q → t1 v H Q ∨ t2 v H Q) (hd : ∀ x z, F x = some z → (∀ O H v Q, (∀ b, O b → H b ≠ none) → Rt C O H v x → Kv C O H z Q → t1 v H Q) ∨ ∀ O H v Q, (∀ b, O b → H b ≠ none) → Rt C O H v x → Kv C O H z Q → t2 v H Q) :
    (tV C io E ow ga σ H fun v H1 => t1 v H1 Q) ∨ tV C io E ow ga σ H fun v H1 => t2 v H1 Q := by
  obtain ⟨B, ρ, en, o⟩ := h
  have o := Out.bind o
  cases hg : ga ρ with
  | st => rw [hg] at o; exact o.elim
  | er c fs vs =>
    rw [hg] at o
    refine .inl ⟨B, ρ, en, ?_⟩
    rw [hg]
    exact o
  | ok r =>
    rw [hg] at o
    obtain ⟨x, hx, o⟩ := (Out.bind o).rs
    obtain ⟨z, hz, o⟩ := (Out.bind o).ofO
    rcases hd x z hz with k | k
    · refine .inl ⟨B, ρ, en, ?_⟩
      rw [hg]
      exact fun v H1 f1 en1 r1 => k _ H1 v Q en1.there (r1.rt en1 hx) fun v2 H2 f2 r2 => o v2 H2 (f1.trans (f2.mono fun _ z => z.elim)) (en1.grow f2) r2
    · refine .inr ⟨B, ρ, en, ?_⟩
      rw [hg]
      exact fun v H1 f1 en1 r1 => k _ H1 v Q en1.there (r1.rt en1 hx) fun v2 H2 f2 r2 => o v2 H2 (f1.trans (f2.mono fun _ z => z.elim)) (en1.grow f2) r2
theorem ve_rev {k : Nat} {p1 p2 p3 : Pos} (hC : C.K = X.K) (he : PE X e (tV C io E ow ga)) : PE X (.Subscript e (.Slice none none (some (.UnaryOp .USub (.Constant (.int 1) k p1) p2)) p3) pos) (tV C io E ow (gUn revD ga)) :=
  PE.imp (PE.or (pe_revT he) (pe_revL he)) fun σ H Q h => un_core h (t1 := fun x H1 Q => ∃ a xs, x = .ref a ∧ SqT X.K H1 a xs ∧ ∀ q, H1 q = none → Q (.ref q) (upd H1 q (.tup xs.reverse)))
    (t2 := fun x H1 Q => ∃ a xs, x = .ref a ∧ SqL X.K H1 a xs ∧ ∀ q, H1 q = none → Q (.ref q) (upd H1 q (.lst xs.reverse))) (fun O H v x z Q hO r hz k => by
      unfold revD at hz
      split at hz <;> cases hz
      · obtain ⟨a, xs, rfl, e, r⟩ := r.tup
        exact .inl ⟨a, xs, rfl, hC ▸ e.sqt, fun q hq => k.tup r.rev hq⟩
      · obtain ⟨a, xs, rfl, e, r⟩ := r.lst
        exact .inr ⟨a, xs, rfl, SqL.of e, fun q hq => k.lst hO r.rev hq⟩) fun x z hz => by
      unfold revD at hz
      split at hz <;> cases hz
      · refine .inl fun O H v Q hO r k => ?_
        obtain ⟨a, xs, rfl, e, r⟩ := r.tup
        exact ⟨a, xs, rfl, hC ▸ e.sqt, fun q hq => k.tup r.rev hq⟩
      · refine .inr fun O H v Q hO r k => ?_
        obtain ⟨a, xs, rfl, e, r⟩ := r.lst
        exact ⟨a, xs, rfl, SqL.of e, fun q hq => k.lst hO r.rev hq⟩
/-! ## index, slice -/
def keyOf : D → Option Key
  | .int i => some (.inl i)
  | .str x => some (.inr x)
  | _ => none
theorem keyOf_rt {O : Hs} {H : Hp} {v : V} {d : D} {k : Key} (h : keyOf d = some k) (r : Rt C O H v d) : v = kV k := by
  unfold keyOf at h
  split at h <;> cases h
  · exact r.int
  · exact r.str
def dGet : List D → List D → Key → Option D
  | k :: ks, v :: vs, y => if keyOf k = some y then some v else dGet ks vs y
  | _, _, _ => none
theorem keyOf_kD (k : Key) : keyOf (kD k) = some k := by cases k <;> rfl
theorem dGet_rp {O : Hs} {H : Hp} : ∀ {kvs : List (Key × V)} {ds : List D} {y : Key}, RpL C O H (kvs.map (·.2)) ds → match dGet (kvs.map fun p => kD p.1) ds y with
    | some d => ∃ v, valV kvs y = some v ∧ Rp C O H v d
    | none => valV kvs y = none
  | [], _, _, .nil => rfl
  | (k, v) :: kvs, d :: ds, y, .cons a b => by
    have ih := dGet_rp (y := y) b
    rw [List.map_cons]
    unfold dGet
    rw [keyOf_kD]
    by_cases h : k = y
    · rw [if_pos (by rw [h])]
      exact ⟨v, valV_pos (p := (k, v)) h, a⟩
    · rw [if_neg (fun z => h (Option.some.inj z)), valV_neg (p := (k, v)) h]
      exact ih
def ixD (x y : D) : Option D := match x, y with
  | .tup ds, .int i => atI ds i
  | .lst ds, .int i => atI ds i
  | .frl ds, .int i => atI ds i
  | .dct ks vs, y => (keyOf y).bind (dGet ks vs)
  | _, _ => none
theorem atI_rp {O : Hs} {H : Hp} {vs : List V} {ds : List D} {i : Int} {d : D} (r : RpL C O H vs ds) (h : atI ds i = some d) : ∃ v, atI vs i = some v ∧ Rp C O H v d := by
  unfold atI at h ⊢
  rw [r.len]
  cases e : ixN ds.length i with
  | none => rw [e] at h; cases h
  | some j =>
    rw [e] at h
    exact r.atD h
theorem ve_sub (hC : C.K = X.K) (hu : X.A.units + 1 < cLine) (ha : PE X a (tV C io E ow ga)) (hb : PE X b (tV C io E ow gb)) (hs : PlainIx b := by exact fun _ _ => rfl) (hs2 : NoSl b := by exact fun _ _ => rfl) : PE X (.Subscript a b pos) (tV C io E ow (gOp ixD ga gb)) :=
  PE.imp (PE.or (pe_ix ((ix_list (X := X)).or (ix_tup (X := X))) ha hb hs) (pe_dget hu ha hb hs2)) fun σ H Q ⟨B, ρ, en, o⟩ => by
    have o := gOp_out o
    cases hg : ga ρ with
    | st => rw [hg] at o; exact o.elim
    | er c fs vs =>
      rw [hg] at o
      refine .inl ⟨B, ρ, en, ?_⟩
      rw [hg]
      exact o
    | ok r =>
      rw [hg] at o
      cases hh : gb r.2 with
      | st =>
        have o : Out C B E (gb r.2) _ := o
        rw [hh] at o
        exact o.elim
      | er c fs vs =>
        have o : Out C B E (gb r.2) _ := o
        rw [hh] at o
        refine .inl ⟨B, ρ, en, ?_⟩
        rw [hg]
        refine fun v1 H1 f1 en1 r1 => ⟨B, r.2, en1, ?_⟩
        rw [hh]
        exact o
      | ok s =>
        have o : Out C B E (gb r.2) _ := o
        rw [hh] at o
        obtain ⟨x, hx, o⟩ := o.rs
        obtain ⟨y, hy, z, hz, o⟩ := o.rs
        have seq : (∀ O H v1 v2 Q, (∀ b, O b → H b ≠ none) → Rt C O H v1 x → Rt C O H v2 y → Kv C O H z Q → rIxL X.K v1 v2 H Q ∨ rIxT X.K v1 v2 H Q) ∨ ∀ O H v1 v2 (Q : VK), (∀ b, O b → H b ≠ none) → Rt C O H v1 x → Rt C O H v2 y → Kv C O H z Q → ∃ a v, v1 = .ref a ∧ DGet H a v2 (some v) ∧ Q v H := by
          unfold ixD at hz
          split at hz
          · refine .inl fun O H v1 v2 Q hO ra rb k => ?_
            obtain ⟨p, xs, rfl, e, r⟩ := ra.tup
            obtain ⟨u, hu, ru⟩ := atI_rp r hz
            exact .inr ⟨p, xs, _, u, rfl, rb.int, hC ▸ e.sqt, hu, k.here ru⟩
          · refine .inl fun O H v1 v2 Q hO ra rb k => ?_
            obtain ⟨p, xs, rfl, e, r⟩ := ra.lst
            obtain ⟨u, hu, ru⟩ := atI_rp r hz
            exact .inl ⟨p, xs, _, u, rfl, rb.int, SqL.of e, hu, k.here ru⟩
          · refine .inl fun O H v1 v2 Q hO ra rb k => ?_
            obtain ⟨p, xs, rfl, e, r⟩ := ra.frl
            obtain ⟨u, hu, ru⟩ := atI_rp r hz
            exact .inl ⟨p, xs, _, u, rfl, rb.int, hC ▸ e, hu, k.here ru⟩
          · refine .inr fun O H v1 v2 Q hO ra rb k => ?_
            obtain ⟨p, kvs, rfl, e, rfl, r⟩ := ra.dct
            cases hk : keyOf y with
            | none => rw [hk] at hz; cases hz
            | some ky =>
              rw [hk] at hz
              have hz : dGet _ _ ky = some z := hz
              have q := dGet_rp (y := ky) r
              rw [hz] at q
              obtain ⟨v, hv, rv⟩ := q
              exact ⟨p, v, rfl, .inl ⟨kvs, ky, .inl e, keyOf_rt hk rb, hv.symm⟩, k.here rv⟩
          · cases hz
        have fin : ∀ {v1 v2 : V} {H1 H2 : Hp}, Ex (ownA ow σ) H H1 → En C io B ow H1 σ r.2 → Rw C B ow σ H1 v1 r.1 → Ex (ownA ow σ) H1 H2 → En C io B ow H2 σ s.2 → Rw C B ow σ H2 v2 s.1 → Rt C (Opn B ow σ) H2 v1 x ∧ Rt C (Opn B ow σ) H2 v2 y ∧ Kv C (Opn B ow σ) H2 z Q :=
          fun f1 en1 r1 f2 en2 r2 => ⟨(r1.keep f2).rt en2 hx, r2.rt en2 hy, fun v3 H3 f3 r3 => o v3 H3 ((f1.trans f2).trans (f3.mono fun _ z => z.elim)) (en2.grow f3) r3⟩
        rcases seq with seq | seq
        · refine .inl ⟨B, ρ, en, ?_⟩
          rw [hg]
          refine fun v1 H1 f1 en1 r1 => ⟨B, r.2, en1, ?_⟩
          rw [hh]
          intro v2 H2 f2 en2 r2
          obtain ⟨q1, q2, q3⟩ := fin f1 en1 r1 f2 en2 r2
          exact seq _ H2 v1 v2 Q en2.there q1 q2 q3
        · refine .inr ⟨B, ρ, en, ?_⟩
          rw [hg]
          refine fun v1 H1 f1 en1 r1 => ⟨B, r.2, en1, ?_⟩
          rw [hh]
          intro v2 H2 f2 en2 r2
          obtain ⟨q1, q2, q3⟩ := fin f1 en1 r1 f2 en2 r2
          exact seq _ H2 v1 v2 Q en2.there q1 q2 q3
end
end VL
namespace VL
open PySem PySem.Spec PyProof.Rows L2
section
variable {X : Cx} {C : Cf} {O : Hs} {H : Hp}
/-! ## calls of built-ins on data -/
theorem RtL.one {vs : List V} {d : D} (h : RtL C O H vs [d]) : ∃ v, vs = [v] ∧ Rt C O H v d := by
  match vs, h with
  | [v], h => exact ⟨v, rfl, h.1⟩
  | [], h => exact h.elim
  | _ :: _ :: _, h => exact h.2.elim
theorem RtL.two {vs : List V} {d c : D} (h : RtL C O H vs [d, c]) : ∃ v u, vs = [v, u] ∧ Rt C O H v d ∧ Rt C O H u c := by
  match vs, h with
  | [v, u], h => exact ⟨v, u, rfl, h.1, h.2.1⟩
  | [], h => exact h.elim
  | [_], h => exact h.2.elim
  | _ :: _ :: _ :: _, h => exact h.2.2.elim
def lenD : List D → Option D
  | [.str y] => if y.length ≤ sizeLine then some (.int y.length) else none
  | [.tup xs] => some (.int xs.length)
  | [.lst xs] => some (.int xs.length)
  | [.frl xs] => some (.int xs.length)
  | [.dct _ xs] => some (.int xs.length)
  | _ => none
theorem cD_len (hC : C.K = X.K) : CallR X (.builtin "len") (rDL C lenD) := CallR.imp (CallR.or call_len call_lenD) fun vs H Q ⟨O, ds, d, hO, ra, hF, k⟩ => by
  unfold lenD at hF
  split at hF
  · split at hF
    · cases hF
      obtain ⟨v, rfl, r⟩ := ra.one
      cases r.str
      exact .inl ⟨_, _, rfl, ⟨by assumption, rfl⟩, k.here (.int _)⟩
    · cases hF
  · cases hF
    obtain ⟨v, rfl, r⟩ := ra.one
    obtain ⟨p, xs, rfl, e, r⟩ := r.tup
    exact .inl ⟨_, _, rfl, .inr ⟨xs, hC ▸ e.sqt, r.len.symm⟩, k.here (.int _)⟩
  · cases hF
    obtain ⟨v, rfl, r⟩ := ra.one
    obtain ⟨p, xs, rfl, e, r⟩ := r.lst
    exact .inl ⟨_, _, rfl, .inl ⟨xs, SqL.of e, r.len.symm⟩, k.here (.int _)⟩
  · cases hF
    obtain ⟨v, rfl, r⟩ := ra.one
    obtain ⟨p, xs, rfl, e, r⟩ := r.frl
    exact .inl ⟨_, _, rfl, .inl ⟨xs, hC ▸ e, r.len.symm⟩, k.here (.int _)⟩
  · cases hF
    obtain ⟨v, rfl, r⟩ := ra.one
    obtain ⟨p, kvs, rfl, e, _, r⟩ := r.dct
    refine .inr ⟨p, kvs, rfl, e, ?_⟩
    have := r.len
    rw [List.length_map] at this
    rw [this]
    exact k.here (.int _)
  · cases hF
def tupleD : List D → Option D
  | [.tup xs] => some (.tup xs)
  | [.lst xs] => some (.tup xs)
  | _ => none
theorem cD_tuple (hC : C.K = X.K) : CallR X (.type "tuple") (rDL C tupleD) := CallR.imp call_tuple_of fun vs H Q ⟨O, ds, d, hO, ra, hF, k⟩ => by
  unfold tupleD at hF
  split at hF <;> cases hF
  · obtain ⟨v, rfl, r⟩ := ra.one
    obtain ⟨p, xs, rfl, e, r⟩ := r.tup
    exact ⟨p, xs, rfl, .inr ⟨hC ▸ e.sqt, k.here (.tup e r)⟩⟩
  · obtain ⟨v, rfl, r⟩ := ra.one
    obtain ⟨p, xs, rfl, e, r⟩ := r.lst
    exact ⟨p, xs, rfl, .inl ⟨SqL.of e, fun l hl => k.tup r hl⟩⟩
def listF : List D → Option D
  | [.tup xs] => some (.lst xs)
  | [.lst xs] => some (.lst xs)
  | [.dct ks _] => some (.lst ks)
  | _ => none
theorem rp_key {k : Key} : Rp C O H (kV k) (kD k) := by
  cases k with
  | inl i => exact .int i
  | inr x => exact .str x
theorem rp_keys : ∀ kvs : List (Key × V), RpL C O H (kvs.map fun kv => kV kv.1) (kvs.map fun p => kD p.1)
  | [] => .nil
  | p :: kvs => .cons rp_key (rp_keys kvs)
theorem cF_list (hc : X.calm = true) (hC : C.K = X.K) : CallR X (.type "list") (rDLF C listF) := CallR.imp (CallR.or call_list_of (call_list_dK hc)) fun vs H Q ⟨O, ds, d, hO, ra, hF, k⟩ => by
  unfold listF at hF
  split at hF <;> cases hF
  · obtain ⟨v, rfl, r⟩ := ra.one
    obtain ⟨p, xs, rfl, e, r⟩ := r.tup
    exact .inl ⟨p, xs, rfl, .inr (hC ▸ e.sqt), fun l hl => k.lst r hl⟩
  · obtain ⟨v, rfl, r⟩ := ra.one
    obtain ⟨p, xs, rfl, e, r⟩ := r.lst
    exact .inl ⟨p, xs, rfl, .inl (SqL.of e), fun l hl => k.lst r hl⟩
  · obtain ⟨v, rfl, r⟩ := ra.one
    obtain ⟨p, kvs, rfl, e, rfl, r⟩ := r.dct
    exact .inr ⟨p, kvs, rfl, e, fun l hl => k.lst (rp_keys kvs) hl⟩
/-- dict(d): a new one -/
def intD : List D → Option D
  | [.int i] => some (.int i)
  | [.bl b] => some (.int (if b then 1 else 0))
  | _ => none
theorem cD_int : CallR X (.type "int") (rDL C intD) := CallR.imp call_int1 fun vs H Q ⟨O, ds, d, hO, ra, hF, k⟩ => by
  unfold intD at hF
  split at hF <;> cases hF
  · obtain ⟨v, rfl, r⟩ := ra.one
    cases r.int
    exact .inl ⟨_, rfl, k.here (.int _)⟩
  · obtain ⟨v, rfl, r⟩ := ra.one
    cases r.bl
    exact .inr ⟨_, rfl, k.here (.int _)⟩
def maxD : List D → Option D
  | [.int i, .int j] => some (.int (if j > i then j else i))
  | _ => none
def minD : List D → Option D
  | [.int i, .int j] => some (.int (if j < i then j else i))
  | _ => none
theorem cD_max (hc : X.calm = true) : CallR X (.builtin "max") (rDL C maxD) := CallR.imp (call_max2 hc) fun vs H Q ⟨O, ds, d, hO, ra, hF, k⟩ => by
  unfold maxD at hF
  split at hF <;> cases hF
  obtain ⟨v, u, rfl, r, s⟩ := ra.two
  cases r.int
  cases s.int
  exact ⟨_, _, rfl, k.here (.int _)⟩
theorem cD_min (hc : X.calm = true) : CallR X (.builtin "min") (rDL C minD) := CallR.imp (call_min2 hc) fun vs H Q ⟨O, ds, d, hO, ra, hF, k⟩ => by
  unfold minD at hF
  split at hF <;> cases hF
  obtain ⟨v, u, rfl, r, s⟩ := ra.two
  cases r.int
  cases s.int
  exact ⟨_, _, rfl, k.here (.int _)⟩
def boolsD : List D → Option (List Bool)
  | [] => some []
  | .bl b :: ds => (boolsD ds).map (b :: ·)
  | _ :: _ => none
theorem bools_rp : ∀ {vs : List V} {ds : List D} {bs : List Bool}, RpL C O H vs ds → boolsD ds = some bs → vs = bs.map V.bl
  | _, _, _, .nil, h => by cases h; rfl
  | _, _, bs, .cons (d := d) a b, h => by
    cases d with
    | bl c =>
      unfold boolsD at h
      cases a
      rename_i ds
      cases q : boolsD ds with
      | none => rw [q] at h; cases h
      | some bs' =>
        rw [q] at h
        cases h
        rw [bools_rp b q]
        rfl
    | _ => cases h
def allD : List D → Option D
  | [.lst ds] => (boolsD ds).map fun bs => .bl (bs.all id)
  | _ => none
def anyD : List D → Option D
  | [.lst ds] => (boolsD ds).map fun bs => .bl (bs.any id)
  | _ => none
theorem cD_all (hc : X.calm = true) : CallR X (.builtin "all") (rDL C allD) := CallR.imp (cr_all hc) fun vs H Q ⟨O, ds, d, hO, ra, hF, k⟩ => by
  unfold allD at hF
  split at hF
  · obtain ⟨v, rfl, r⟩ := ra.one
    obtain ⟨p, xs, rfl, e, r⟩ := r.lst
    obtain ⟨bs, q, hF⟩ := Option.map_eq_some_iff.mp hF
    · cases hF
      exact ⟨p, bs, rfl, by rw [← bools_rp r q]; exact SqL.of e, k.here (.bl _)⟩
  · cases hF
theorem cD_any (hc : X.calm = true) : CallR X (.builtin "any") (rDL C anyD) := CallR.imp (cr_any hc) fun vs H Q ⟨O, ds, d, hO, ra, hF, k⟩ => by
  unfold anyD at hF
  split at hF
  · obtain ⟨v, rfl, r⟩ := ra.one
    obtain ⟨p, xs, rfl, e, r⟩ := r.lst
    obtain ⟨bs, q, hF⟩ := Option.map_eq_some_iff.mp hF
    · cases hF
      exact ⟨p, bs, rfl, by rw [← bools_rp r q]; exact SqL.of e, k.here (.bl _)⟩
  · cases hF
/-! ## isinstance -/
def tyN : D → String
  | .non => "NoneType"
  | .bl _ => "bool"
  | .int _ => "int"
  | .str _ => "str"
  | .tup _ => "tuple"
  | .lst _ => "list"
  | .frl _ => "list"
  | .dct .. => "dict"
  | _ => ""
def tys : List String := ["int", "bool", "tuple", "list", "str", "dict"]
/-- own classes (no errors): what is asked of their instances -/
structure Kc (C : Cf) (cs : List Str) : Prop where
  cls : ∀ c cl, c ∈ cs → C.mg c = some (.ref cl) → Cls C.K cl
  noT : ∀ c cl n, c ∈ cs → C.mg c = some (.ref cl) → n ∈ tys → PySem.W.kitOne C.K (.ref cl) (.type n) = some false
  noC : ∀ c cl n, c ∈ cs → C.mg c = some (.ref cl) → n ∈ "NoneType" :: tys → PySem.W.kitOne C.K (.type n) (.ref cl) = some false
  ins : ∀ c cl, c ∈ cs → C.mg c = some (.ref cl) → PySem.W.findIn C.K (.ref cl) "__class__" = some (some (.builtin "object.__class__")) ∧ PySem.W.specialIn C.K (.builtin "object.__class__") "__get__" = some (some (.builtin "getset_descriptor.__get__")) ∧ PySem.W.takesIn C.K (.builtin "object.__class__") = some true ∧ PySem.W.mroIn C.K cl (.type "object") = some true
  own : ∀ c cl c' cl', c ∈ cs → c' ∈ cs → C.mg c = some (.ref cl) → C.mg c' = some (.ref cl') → PySem.W.kitOne C.K (.ref cl) (.ref cl') = some (decide (c = c'))
def isB (cs : List Str) (d t : D) : Option Bool := match d, t with
  | .ins c _ _, .ty n => if c ∈ cs ∧ n ∈ tys then some false else none
  | .ins c _ _, .cls c' => if c ∈ cs ∧ c' ∈ cs then some (decide (c = c')) else none
  | .ty _, _ => none
  | .cls _, _ => none
  | d, .ty n => if n ∈ tys then kitB (tyN d) n else none
  | _, .cls c' => if c' ∈ cs then some false else none
  | _, _ => none
theorem rt_ty {v : V} {d : D} (r : Rt C O H v d) (h : tyN d ≠ "") : TyX C.K H v (.type (tyN d)) := by
  rcases r with r | ⟨p, rfl, o⟩
  · cases r with
    | non => exact .base .non
    | bl b => exact .base (.bl b)
    | int i => exact .base (.int i)
    | str x => exact .base (.str x)
    | tup e r =>
      rcases e with e | ⟨o, its, n, e, c, _⟩
      · exact .base (.tup e)
      · exact .kTuple e c
    | lst n e r => exact .base (.lst e)
    | frl e r =>
      rcases e with ⟨_, e | ⟨x, e⟩⟩ | ⟨o, its, n, e, c, _⟩
      · exact .base (.lst e)
      · exact .base (.frz e)
      · exact .kList e c
    | dct n e k r => exact .base (.dK e)
    | ins => exact absurd rfl h
    | ty => exact absurd rfl h
    | cls => exact absurd rfl h
  · cases o with
    | lst e r => exact .base (.lst e)
    | dct e k r => exact .base (.dK e)
    | ins => exact absurd rfl h
theorem rt_tyI {cs : List Str} (k : Kc C cs) {v : V} {c : Str} {fs : List Str} {ds : List D} (r : Rt C O H v (.ins c fs ds)) (h : c ∈ cs) : ∃ cl, C.mg c = some (.ref cl) ∧ TyX C.K H v (.ref cl) := by
  obtain ⟨a, cl, dx, fvs, rfl, e, g, _, _⟩ := r.ins
  obtain ⟨h1, h2, h3, h4⟩ := k.ins c cl h g
  exact ⟨cl, g, .base (.ins e (k.cls c cl h g) h1 h2 h3 h4)⟩
def isD (cs : List Str) : List D → Option D
  | [d, .tup ts] => (ts.foldr (fun t r => (isB cs d t).bind fun b => if b = true then some true else r) (some false)).map .bl
  | [d, t] => (isB cs d t).map .bl
  | _ => none
/-- the type of a thing, as the library tells it -/
def TyF (C : Cf) (d : D) (tv : Value) : Prop := match d with
  | .ins c _ _ => ∃ cl, C.mg c = some (.ref cl) ∧ tv = .ref cl
  | d => tv = .type (tyN d)
theorem TyF.uniq {d : D} {t u : Value} (a : TyF C d t) (b : TyF C d u) : t = u := by
  cases d <;> first
    | exact a.trans b.symm
    | (obtain ⟨x, h1, rfl⟩ := a; obtain ⟨y, h2, rfl⟩ := b; rw [h1] at h2; cases h2; rfl)
theorem TyF.base {d : D} (h : tyN d ≠ "") : TyF C d (.type (tyN d)) := by cases d <;> first | rfl | exact absurd rfl h
theorem kit_ok {cs : List Str} (k : Kc C cs) {v u : V} {d t : D} {b : Bool} (r : Rt C O H v d) (s : Rt C O H u t) (h : isB cs d t = some b) : ∃ tv uv, ClsV u uv ∧ TyX C.K H v tv ∧ PySem.W.kitOne C.K tv uv = some b ∧ TyF C d tv := by
  have base : ∀ {n : String}, tyN d ≠ "" → t = .ty n → n ∈ tys → kitB (tyN d) n = some b → ∃ tv uv, ClsV u uv ∧ TyX C.K H v tv ∧ PySem.W.kitOne C.K tv uv = some b ∧ TyF C d tv := by
    intro n h1 h2 h3 h4
    subst h2
    cases s.ty
    exact ⟨_, _, .ty n, rt_ty r h1, kit_ty h4, .base h1⟩
  have baseC : ∀ {c : Str}, tyN d ∈ "NoneType" :: tys → t = .cls c → c ∈ cs → b = false → ∃ tv uv, ClsV u uv ∧ TyX C.K H v tv ∧ PySem.W.kitOne C.K tv uv = some b ∧ TyF C d tv := by
    intro c h1 h2 h3 h4
    subst h2 h4
    obtain ⟨cl, rfl, g⟩ := s.cls
    have h5 : tyN d ≠ "" := fun z => by
      rw [z] at h1
      revert h1
      decide
    exact ⟨_, _, .own cl, rt_ty r h5, k.noC c cl _ h3 g h1, .base h5⟩
  unfold isB at h
  split at h
  · split at h
    · rename_i h1
      cases h
      obtain ⟨cl, g, ty⟩ := rt_tyI k r h1.1
      cases s.ty
      exact ⟨_, _, .ty _, ty, k.noT _ cl _ h1.1 g h1.2, cl, g, rfl⟩
    · cases h
  · split at h
    · rename_i h1
      cases h
      obtain ⟨cl, g, ty⟩ := rt_tyI k r h1.1
      obtain ⟨cl', rfl, g'⟩ := s.cls
      exact ⟨_, _, .own cl', ty, k.own _ cl _ cl' h1.1 h1.2 g g', cl, g, rfl⟩
    · cases h
  · cases h
  · cases h
  · split at h
    · rename_i h1
      refine base ?_ rfl h1 h
      intro z
      rw [z] at h
      revert h
      have : ∀ n, n ∈ tys → kitB "" n = none := by decide +kernel
      rw [this _ h1]
      exact fun z => nomatch z
    · cases h
  · rename_i hn1 hn2 hn3 hn4
    split at h
    · rename_i h1
      cases h
      refine baseC ?_ rfl h1 rfl
      cases d <;> first | (simp [tyN, tys]; done) | (exfalso; simp_all; done)
    · cases h
  · cases h
theorem kits_ok {cs : List Str} (k : Kc C cs) {v : V} {d : D} (r : Rt C O H v d) : ∀ {us : List V} {ts : List D} {b : Bool}, RpL C O H us ts → ts.foldr (fun t r => (isB cs d t).bind fun b => if b = true then some true else r) (some false) = some b → (∀ t, t ∈ ts → (isB cs d t).isSome = true) → ∃ uvs, Paired ClsV us uvs ∧ ∀ tv, TyF C d tv → PySem.W.kitAny C.K tv uvs = some b
  | _, [], _, .nil, h, _ => by
    cases h
    exact ⟨[], .nil, fun _ _ => rfl⟩
  | _, t :: ts, b, .cons (v := u) (vs := us) s ss, h, hs => by
    rw [List.foldr_cons] at h
    have h0 := hs t List.mem_cons_self
    cases hb : isB cs d t with
    | none => rw [hb] at h0; cases h0
    | some b0 =>
      rw [hb] at h
      have h : (if b0 = true then some true else ts.foldr (fun t r => (isB cs d t).bind fun b => if b = true then some true else r) (some false)) = some b := h
      obtain ⟨tv, uv, c1, c2, c3, c4⟩ := kit_ok k r (.inl s) hb
      cases hr : ts.foldr (fun t r => (isB cs d t).bind fun b => if b = true then some true else r) (some false) with
      | none =>
        exfalso
        have : ∀ (ts : List D), (∀ t, t ∈ ts → (isB cs d t).isSome = true) → ts.foldr (fun t r => (isB cs d t).bind fun b => if b = true then some true else r) (some false) ≠ none := by
          intro ts
          induction ts with
          | nil => exact fun _ z => nomatch z
          | cons t ts ih =>
            intro hs
            rw [List.foldr_cons]
            have h1 := hs t List.mem_cons_self
            cases hb : isB cs d t with
            | none => rw [hb] at h1; cases h1
            | some b1 =>
              show (if b1 = true then some true else _) ≠ none
              split
              · exact fun z => nomatch z
              · exact ih fun t h => hs t (List.mem_cons_of_mem _ h)
        exact this ts (fun t h => hs t (List.mem_cons_of_mem _ h)) hr
      | some b2 =>
        obtain ⟨uvs, p1, p2⟩ := kits_ok k r ss hr fun t h => hs t (List.mem_cons_of_mem _ h)
        refine ⟨uv :: uvs, .cons c1 p1, fun tv' t' => ?_⟩
        cases c4.uniq t'
        refine kitAny_cons c3 (fun z => ?_) (fun z => ?_)
        · subst z
          rw [if_neg Bool.false_ne_true, hr] at h
          cases h
          exact p2 _ c4
        · subst z
          rw [if_pos rfl] at h
          cases h
          rfl
def isDl (cs : List Str) : List D → Option D
  | [d, .tup (t :: ts)] => if (t :: ts).all (fun t => (isB cs d t).isSome) = true then ((t :: ts).foldr (fun t r => (isB cs d t).bind fun b => if b = true then some true else r) (some false)).map .bl else none
  | [d, .ty n] => (isB cs d (.ty n)).map .bl
  | [d, .cls n] => (isB cs d (.cls n)).map .bl
  | _ => none
theorem clsV_K {us : List V} {uvs vals : List Value} (p : Paired ClsV us uvs) (r : Vals us vals) : vals = uvs := ClsV.all p r
theorem cD_isi {cs : List Str} (hC : C.K = X.K) (k : Kc C cs) : CallR X (.builtin "isinstance") (rDL C (isDl cs)) := CallR.imp (CallR.or call_isi (CallR.or call_isiT call_isiK)) fun vs H Q ⟨O, ds, d, hO, ra, hF, kv⟩ => by
  unfold isDl at hF
  split at hF
  · split at hF
    · rename_i hall
      obtain ⟨b, hb, hF⟩ := Option.map_eq_some_iff.mp hF
      subst hF
      obtain ⟨v, u, rfl, r, s⟩ := ra.two
      obtain ⟨a, xs, rfl, e, rr⟩ := s.tup
      have hall' := List.all_eq_true.mp hall
      obtain ⟨uvs, p1, p2⟩ := kits_ok k r rr hb hall'
      have h0 := hall' _ List.mem_cons_self
      cases hb0 : isB cs _ _ with
      | none => rw [hb0] at h0; cases h0
      | some b0 =>
        cases rr with
        | cons s1 ss =>
          obtain ⟨tv, uv, c1, c2, c3, c4⟩ := kit_ok k r (.inl s1) hb0
          rcases e with e | ⟨o, its, n, e1, e2, e3, e4, e5⟩
          · exact .inr (.inl ⟨v, a, _, tv, uvs, b, rfl, e, p1, hC ▸ c2, hC ▸ p2 tv c4, kv.here (.bl _)⟩)
          · obtain ⟨oc, od, dt, sl⟩ := o
            simp only at e2 e3
            subst e2 e3
            have := clsV_K p1 e5
            refine .inr (.inr ⟨v, a, od, uvs, n, sl, tv, b, rfl, ?_, hC ▸ c2, hC ▸ p2 tv c4, kv.here (.bl _)⟩)
            rw [← this, ← hC, e1]
    · cases hF
  · obtain ⟨b, hb, hF⟩ := Option.map_eq_some_iff.mp hF
    subst hF
    obtain ⟨v, u, rfl, r, s⟩ := ra.two
    obtain ⟨tv, uv, c1, c2, c3, _⟩ := kit_ok k r s hb
    exact .inl ⟨v, u, tv, uv, b, rfl, c1, hC ▸ c2, hC ▸ c3, kv.here (.bl _)⟩
  · obtain ⟨b, hb, hF⟩ := Option.map_eq_some_iff.mp hF
    subst hF
    obtain ⟨v, u, rfl, r, s⟩ := ra.two
    obtain ⟨tv, uv, c1, c2, c3, _⟩ := kit_ok k r s hb
    exact .inl ⟨v, u, tv, uv, b, rfl, c1, hC ▸ c2, hC ▸ c3, kv.here (.bl _)⟩
  · cases hF
end
end VL
namespace VL
open PySem PySem.Spec PyProof.Rows L2
section
variable {X : Cx} {C : Cf} {io : Bool} {E : XK} {ow ow1 ow2 owL ts : List Nat} {e a b c o tg iter : Expr} {es : List Expr} {pos p : Pos} {g ga gb gc : G} {gr : GA} {x : Str}
/-! ## slices -/
def cutD (xs : List D) (lo hi : Option Int) : List D := (xs.drop (HT.sIx xs.length 0 lo)).take (HT.sIx xs.length xs.length hi - HT.sIx xs.length 0 lo)
theorem cut_rp {O : Hs} {H : Hp} {vs : List V} {ds : List D} (r : RpL C O H vs ds) (lo hi : Option Int) : RpL C O H (cutV vs lo hi) (cutD ds lo hi) := by
  unfold cutV cutD
  rw [r.len]
  exact (r.drop _).take _
def slD (x : D) (lo hi : Option Int) : Option D := match x with
  | .tup xs => some (.tup (cutD xs lo hi))
  | .lst xs => some (.lst (cutD xs lo hi))
  | _ => none
def slF (x : D) (lo hi : Option Int) : Option D := match x with
  | .lst xs => some (.lst (cutD xs lo hi))
  | _ => none
theorem cut_whole {xs : List D} {lo hi : Option Int} (h : HT.sIx xs.length 0 lo = 0 ∧ HT.sIx xs.length xs.length hi = xs.length) : cutD xs lo hi = xs := by
  unfold cutD
  rw [h.1, h.2, List.drop_zero, Nat.sub_zero, List.take_length]
theorem slD_ok (hC : C.K = X.K) : SlR X (rDS C slD) := SlR.imp (SlR.or sl_tupA sl_list) fun x lo hi H Q ⟨O, a, d, hO, ra, hF, k⟩ => by
  unfold slD at hF
  split at hF <;> cases hF
  · obtain ⟨q, xs, rfl, e, r⟩ := ra.tup
    refine .inl ⟨q, xs, rfl, hC ▸ e.sqt, fun h => ?_, fun _ z hz => k.tup (cut_rp r lo hi) hz⟩
    rw [r.len] at h
    rw [cut_whole h] at k
    exact k.here (.tup e r)
  · obtain ⟨q, xs, rfl, e, r⟩ := ra.lst
    exact .inr ⟨q, xs, rfl, SqL.of e, fun z hz => k.lst hO (cut_rp r lo hi) hz⟩
theorem slF_ok : SlR X (rDSF C slF) := SlR.imp sl_list fun x lo hi H Q ⟨O, a, d, hO, ra, hF, k⟩ => by
  unfold slF at hF
  split at hF <;> cases hF
  obtain ⟨q, xs, rfl, e, r⟩ := ra.lst
  exact ⟨q, xs, rfl, SqL.of e, fun z hz => k.lst (cut_rp r lo hi) hz⟩
/-! ## sorted -/
def leS (a b : Str) : Prop := a.cps.toList ≤ b.cps.toList
theorem leS_of {a b : Str} (h : ltCps b.cps.toList a.cps.toList = false) : leS a b := by
  rw [ltCps_eq] at h
  exact of_decide_eq_false h
theorem leS_to {a b : Str} (h : leS a b) : ltCps b.cps.toList a.cps.toList = false := by
  rw [ltCps_eq]
  exact decide_eq_false h
theorem leS_trans {a b c : Str} (h : leS a b) (g : leS b c) : leS a c := List.le_trans h g
theorem leS_anti {a b : Str} (h : leS a b) (g : leS b a) : a = b := by
  have e := List.le_antisymm h g
  cases a with
  | mk a =>
    cases b with
    | mk b =>
      have e : a.toList = b.toList := e
      rw [← Array.toArray_toList (xs := a), ← Array.toArray_toList (xs := b), e]
theorem rising_pw : ∀ (p : Str) (l : List Str), risingS p l = true → (p :: l).Pairwise leS
  | p, [], _ => List.pairwise_singleton _ _
  | p, x :: r, h => by
    have h : (!ltCps x.cps.toList p.cps.toList && risingS x r) = true := h
    rw [Bool.and_eq_true, Bool.not_eq_true'] at h
    have ih := rising_pw x r h.2
    have hp := leS_of h.1
    refine List.pairwise_cons.mpr ⟨fun y hy => ?_, ih⟩
    rcases List.mem_cons.mp hy with rfl | hy
    · exact hp
    · exact leS_trans hp ((List.pairwise_cons.mp ih).1 y hy)
theorem sorted_pw : ∀ (l : List Str), sortedS l = true → l.Pairwise leS
  | [], _ => .nil
  | x :: r, h => rising_pw x r h
open Classical in
noncomputable def sortS (xs : List Str) : List Str := if h : ∃ ys : List Str, ys.Perm xs ∧ ys.Pairwise leS then choose h else []
theorem sortS_of {xs ys : List Str} (h : ys.Perm xs) (s : ys.Pairwise leS) : sortS xs = ys := by
  have hx : ∃ ys : List Str, ys.Perm xs ∧ ys.Pairwise leS := ⟨ys, h, s⟩
  unfold sortS
  rw [dif_pos hx]
  obtain ⟨h1, h2⟩ := Classical.choose_spec hx
  exact (h1.trans h.symm).eq_of_pairwise (fun a b _ _ p q => leS_anti p q) h2 s
open Classical in
noncomputable def sortI (xs : List Int) : List Int := if h : ∃ ys : List Int, ys.Perm xs ∧ ys.Pairwise (· ≤ ·) then choose h else []
theorem sortI_of {xs ys : List Int} (h : ys.Perm xs) (s : ys.Pairwise (· ≤ ·)) : sortI xs = ys := by
  have hx : ∃ ys : List Int, ys.Perm xs ∧ ys.Pairwise (· ≤ ·) := ⟨ys, h, s⟩
  unfold sortI
  rw [dif_pos hx]
  obtain ⟨h1, h2⟩ := Classical.choose_spec hx
  exact PySem.W.ksm_same (h1.trans h.symm) h2 s
def strsD : List D → Option (List Str)
  | [] => some []
  | .str b :: ds => (strsD ds).map (b :: ·)
  | _ :: _ => none
def intsD : List D → Option (List Int)
  | [] => some []
  | .int b :: ds => (intsD ds).map (b :: ·)
  | _ :: _ => none
theorem strs_eq : ∀ {ds : List D} {bs : List Str}, strsD ds = some bs → ds = bs.map .str
  | [], _, h => by cases h; rfl
  | d :: ds, bs, h => by
    cases d with
    | str c =>
      unfold strsD at h
      obtain ⟨bs', q, h⟩ := Option.map_eq_some_iff.mp h
      subst h
      rw [strs_eq q]
      rfl
    | _ => cases h
theorem ints_eq : ∀ {ds : List D} {bs : List Int}, intsD ds = some bs → ds = bs.map .int
  | [], _, h => by cases h; rfl
  | d :: ds, bs, h => by
    cases d with
    | int c =>
      unfold intsD at h
      obtain ⟨bs', q, h⟩ := Option.map_eq_some_iff.mp h
      subst h
      rw [ints_eq q]
      rfl
    | _ => cases h
theorem rp_strs {O : Hs} {H : Hp} : ∀ {vs : List V} {bs : List Str}, RpL C O H vs (bs.map .str) → vs = bs.map V.str
  | _, [], .nil => rfl
  | _, b :: bs, .cons a r => by cases a; rw [rp_strs r]; rfl
theorem rp_ints {O : Hs} {H : Hp} : ∀ {vs : List V} {bs : List Int}, RpL C O H vs (bs.map .int) → vs = bs.map V.int
  | _, [], .nil => rfl
  | _, b :: bs, .cons a r => by cases a; rw [rp_ints r]; rfl
theorem strs_rp {O : Hs} {H : Hp} : ∀ bs : List Str, RpL C O H (bs.map V.str) (bs.map .str)
  | [] => .nil
  | b :: bs => .cons (.str b) (strs_rp bs)
theorem ints_rp {O : Hs} {H : Hp} : ∀ bs : List Int, RpL C O H (bs.map V.int) (bs.map .int)
  | [] => .nil
  | b :: bs => .cons (.int b) (ints_rp bs)
noncomputable def sortL (ds : List D) : Option D := if ds.length < 64 then match strsD ds with
    | some bs => some (.lst ((sortS bs).map .str))
    | none => (intsD ds).map fun bs => .lst ((sortI bs).map .int)
  else none
noncomputable def sortF : List D → Option D
  | [.lst ds] => sortL ds
  | [.dct ks _] => if ks.length < 64 then (strsD ks).map fun bs => .lst ((sortS bs).map .str) else none
  | _ => none
theorem keys_strs : ∀ {kvs : List (Key × V)} {bs : List Str}, strsD (kvs.map fun p => kD p.1) = some bs → kvs.map (·.1) = bs.map Sum.inr
  | [], _, h => by cases h; rfl
  | (.inl i, v) :: kvs, _, h => by cases h
  | (.inr x, v) :: kvs, bs, h => by
    have h : (strsD (kvs.map fun p => kD p.1)).map (x :: ·) = some bs := h
    obtain ⟨bs', q, h⟩ := Option.map_eq_some_iff.mp h
    subst h
    rw [List.map_cons, List.map_cons, keys_strs q]
theorem cF_sorted (hc : X.calm = true) : CallR X (.builtin "sorted") (rDLF C sortF) := CallR.imp (CallR.or cr_sortedS (CallR.or cr_sorted (call_sortedD hc))) fun vs H Q ⟨O, ds, d, hO, ra, hF, k⟩ => by
  unfold sortF at hF
  split at hF
  · obtain ⟨v, rfl, r⟩ := ra.one
    obtain ⟨q, xs, rfl, e, r⟩ := r.lst
    unfold sortL at hF
    split at hF
    · rename_i hl
      split at hF
      · rename_i bs hb
        cases hF
        cases strs_eq hb
        rw [rp_strs r] at e
        refine .inl ⟨q, bs, rfl, SqL.of e, by simpa using hl, fun ys z hp hs hz => ?_⟩
        rw [← sortS_of hp (sorted_pw ys hs)]
        exact k.lst (strs_rp _) hz
      · obtain ⟨bs, hb, hF⟩ := Option.map_eq_some_iff.mp hF
        subst hF
        cases ints_eq hb
        rw [rp_ints r] at e
        refine .inr (.inl ⟨q, bs, rfl, SqL.of e, by simpa using hl, fun ys z hp hs hz => ?_⟩)
        rw [← sortI_of hp hs]
        exact k.lst (ints_rp _) hz
    · cases hF
  · obtain ⟨v, rfl, r⟩ := ra.one
    obtain ⟨q, kvs, rfl, e, rfl, r⟩ := r.dct
    split at hF
    · rename_i hl
      obtain ⟨bs, hb, hF⟩ := Option.map_eq_some_iff.mp hF
      subst hF
      have hk := keys_strs hb
      refine .inr (.inr ⟨q, kvs, bs, rfl, .inl e, hk, ?_, fun ys z hp hs hz => ?_⟩)
      · have := congrArg List.length hk
        rw [List.length_map, List.length_map] at this
        rw [List.length_map] at hl
        omega
      · rw [← sortS_of hp (sorted_pw ys hs)]
        exact k.lst (strs_rp _) hz
    · cases hF
  · cases hF
/-! ## dict(d) -/
def dictF : List D → Option D
  | [.dct ks vs] => some (.dct ks vs)
  | _ => none
theorem call_dictC : CallR X (.type "dict") (fun xs H Q => ∃ a kvs, xs = [V.ref a] ∧ H a = some (.dK kvs) ∧ ∀ q, H q = none → Q (.ref q) (upd H q (.dK kvs))) := by
  rintro pins s σ H xs us Q I r ⟨a, kvs, rfl, e, q⟩
  match us, r with
  | [_], .cons r .nil =>
    cases r
    exact d_copyOf I (.inl e) fun z s' hz I' => ⟨.ref z, _, I', rfl, q z hz⟩
theorem Kf.dct {O : Hs} {H : Hp} {kvs : List (Key × V)} {ks ds : List D} {Q : VK} (k : Kf C O H (.dct ks ds) Q) (hk : ks = kvs.map fun p => kD p.1) (r : RpL C O H (kvs.map (·.2)) ds) {q : Addr} (hq : H q = none) : Q (.ref q) (upd H q (.dK kvs)) :=
  k _ _ hq (Ex.new hq) (.dct upd_same hk (rp_new hq r))
theorem cF_dict : CallR X (.type "dict") (rDLF C dictF) := CallR.imp call_dictC fun vs H Q ⟨O, ds, d, hO, ra, hF, k⟩ => by
  unfold dictF at hF
  split at hF <;> cases hF
  obtain ⟨v, rfl, r⟩ := ra.one
  obtain ⟨q, kvs, rfl, e, hk, r⟩ := r.dct
  exact ⟨q, kvs, rfl, e, fun z hz => k.dct hk r hz⟩
/-- {} -/
def gDnew : GF := fun ρ => .ok (.dct [] [], ρ)
theorem vf_dnew : PE X (.Dict [] [] pos) (tF C io E ow gDnew) := PE.imp pe_dnewK fun σ H Q ⟨B, ρ, en, o⟩ => fun q hq => o q _ (Ex.new hq) (en.new hq (Ex.new hq) (.dct upd_same rfl .nil))
/-! ## what is open is changed: x.append(e), x.pop(), x[i] = e, d[k] = e -/
def appD (d y : D) : Option D := match d with
  | .lst ds => if ds.length < big then some (.lst (ds ++ [y])) else none
  | _ => none
def isLst (ρ : Env) (k : Nat) : Bool := match ρ[k]? with
  | some (some (.lst _)) => true
  | _ => false
def gApp (k : Nat) (ge : G) : G := fun ρ => if isLst ρ k = true then (ge ρ).bind fun r => match r.1 with
    | .d y => (rs r.2 (.o k)).bind fun d => (ofO (appD d y)).bind fun d' => .ok (.d .non, r.2.set k (some d'))
    | .o _ => .st
  else .st
theorem lst_at {B : Bs} {σ : L2.St} {H : Hp} {ρ : Env} {k : Nat} (en : En C io B ow H σ ρ) (hk : k ∈ ow) (h : isLst ρ k = true) : ∃ q xs ds, σ[k]? = some (some (.ref q)) ∧ H q = some (.lst xs) ∧ ρ[k]? = some (some (.lst ds)) ∧ RpL C (Opn B ow σ) H xs ds := by
  obtain ⟨q, d', e1, e2, oo, _⟩ := en.own k hk
  unfold isLst at h
  rw [e1] at h
  cases oo with
  | lst e r => exact ⟨q, _, _, e2, e, e1, r⟩
  | dct => cases h
  | ins => cases h
theorem own_at {B : Bs} {σ : L2.St} {H : Hp} {ρ : Env} {k : Nat} {d : D} (en : En C io B ow H σ ρ) (hk : k ∈ ow) (h : rs ρ (.o k) = .ok d) : ∃ q, σ[k]? = some (some (.ref q)) ∧ Own C (Opn B ow σ) H q d := by
  obtain ⟨q, d', e1, e2, oo, _⟩ := en.own k hk
  unfold rs at h
  dsimp only at h
  rw [e1] at h
  cases h
  exact ⟨q, e2, oo⟩
theorem own_put {B : Bs} {σ : L2.St} {H : Hp} {ρ : Env} {k : Nat} {q : Addr} {u : HO} (en : En C io B ow H σ ρ) (hk : k ∈ ow) (e : σ[k]? = some (some (.ref q))) (hu : H q = some u) (nt : ∀ xs, u ≠ .tup xs) (o : HO) {vs : List V} {ds : List D} (r : RpL C (Opn B ow σ) H vs ds) :
    Ex (ownA ow σ) H (upd H q o) ∧ Ex (fun b => b = q) H (upd H q o) ∧ RpL C (Opn B ow σ) (upd H q o) vs ds := by
  have f : Ex (fun b => b = q) H (upd H q o) := Ex.put rfl hu nt
  have hm : ∀ b, b = q → ownA ow σ b := fun b z => ⟨k, hk, by rw [z]; exact e⟩
  exact ⟨f.mono hm, f, r.keep f fun b z => .inr (.inl (hm b z))⟩
theorem ve_app {k : Nat} {o e : Expr} {apos cpos : Pos} (ho : PE X o (tVar k)) (hk : k ∈ ow := by decide) (he : PE X e (tV C io E ow g)) (hbase : attributeBase o "append" X.env (eval o X.env) = eval o X.env := by rfl)
    (hfew : ((backTo cpos (starEach [e] X.env)).all (fun x => !x.1) && (backToKw cpos (keywordEach [] X.env)).all (fun x => x.1.isSome)
      && decide ([e].length + ([] : List Keyword).length + (if ([] : List Keyword).isEmpty then 0 else 1) < 30)) = true := by rfl)
    (hline : (apos.endLine == cpos.line) = true := by rfl) (hs : starEach [e] X.env = (false, eval e X.env) :: starEach [] X.env := by rfl) (hplain : (backTo cpos (starEach [] X.env)).any (·.1) = false := by rfl) :
    PE X (.Call (.Attribute o "append" apos) [e] [] cpos) (tV C io E ow (gApp k g)) :=
  PE.imp (pe_bm PySem.F.plainAttrs_list PySem.F.slot_list_append PySem.F.type_list_append mt_append ho (pa_cons he pa_nil hs) hbase hfew hline hs hplain) fun σ H Q ⟨B, ρ, en, h⟩ => by
    unfold gApp at h
    by_cases hl0 : isLst ρ k = true
    case neg => rw [if_neg hl0] at h; exact h.elim
    rw [if_pos hl0] at h
    obtain ⟨q, xs0, ds0, e2, e1, _⟩ := lst_at en hk hl0
    have ty : tyV X.K "list" (.ref q) H := .inl ⟨rfl, xs0, SqL.of e1⟩
    refine ⟨_, e2, ty, B, ρ, en, (Out.bind h).mono fun r _ h v H1 f1 en1 r1 => ?_⟩
    obtain ⟨w, ρ1⟩ := r
    cases w with
    | o j => exact h.elim
    | d y =>
      obtain ⟨d, hd, h⟩ := (Out.bind (show Out C B E ((rs ρ1 (.o k)).bind _) _ from h)).rs
      obtain ⟨d', hd', h⟩ := (Out.bind h).ofO
      obtain ⟨q', e3, o1⟩ := own_at en1 hk hd
      rw [e2] at e3
      cases e3
      unfold appD at hd'
      split at hd'
      · split at hd'
        · rename_i hl
          cases hd'
          cases o1 with
          | lst eq rr =>
            obtain ⟨f, f', r'⟩ := own_put en1 hk e2 eq (fun xs => nofun) (.lst (_ ++ [v])) (rr.snoc r1)
            exact ⟨q, _, v, rfl, rfl, eq, by rw [rr.len]; exact Nat.lt_of_lt_of_le hl (by decide), h .non _ (f1.trans f) (en1.put hk e2 f' (.lst upd_same r')) .non⟩
        · cases hd'
      · cases hd'
end
end VL
namespace VL
open PySem PySem.Spec PyProof.Rows L2
section
variable {X : Cx} {C : Cf} {io : Bool} {E : XK} {ow ow1 ow2 owL ts : List Nat} {e a b c o tg iter : Expr} {es : List Expr} {pos p : Pos} {g ga gb gc : G} {gr : GA} {x : Str} {st : Stmt}
theorem PS.or {X : Cx} {e : Stmt} {t t' : TS} (h : PS X e t) (h' : PS X e t') : PS X e fun D σ H => t D σ H ∨ t' D σ H := ⟨fun pins s σ H D I q => q.elim (h.run pins s σ H D I) (h'.run pins s σ H D I)⟩
/-! ## x[i] = e of an open list, d[k] = e of an open dict -/
def putD (ks vs : List D) (y : Key) (d : D) : List D × List D := if ks.any (fun k => decide (keyOf k = some y)) = true then (ks, List.zipWith (fun k v => if keyOf k = some y then d else v) ks vs) else (ks ++ [kD y], vs ++ [d])
theorem any_kD {y : Key} : ∀ kvs : List (Key × V), (kvs.map fun p => kD p.1).any (fun k => decide (keyOf k = some y)) = kvs.any fun kv => decide (kv.1 = y)
  | [] => rfl
  | p :: kvs => by
    rw [List.map_cons, List.any_cons, List.any_cons, any_kD kvs, keyOf_kD]
    congr 1
    exact decide_eq_decide.mpr ⟨Option.some.inj, congrArg some⟩
theorem zip_rpD {O : Hs} {H : Hp} {y : Key} {v : V} {d : D} (rv : Rp C O H v d) : ∀ {kvs : List (Key × V)} {ds : List D}, RpL C O H (kvs.map (·.2)) ds →
    RpL C O H ((kvs.map fun kv => if kv.1 = y then (kv.1, v) else kv).map (·.2)) (List.zipWith (fun k v => if keyOf k = some y then d else v) (kvs.map fun p => kD p.1) ds)
  | [], _, .nil => .nil
  | (k, u) :: kvs, c :: ds, .cons a b => by
    rw [List.map_cons, List.map_cons, List.map_cons, List.zipWith_cons_cons]
    refine .cons ?_ (zip_rpD rv b)
    rw [keyOf_kD]
    by_cases h : k = y
    · rw [if_pos h, if_pos (by rw [h])]
      exact rv
    · rw [if_neg h, if_neg (fun z => h (Option.some.inj z))]
      exact a
theorem map_keys {y : Key} {v : V} : ∀ kvs : List (Key × V), (kvs.map fun kv => if kv.1 = y then (kv.1, v) else kv).map (fun p => kD p.1) = kvs.map fun p => kD p.1
  | [] => rfl
  | (k, u) :: kvs => by
    rw [List.map_cons, List.map_cons, List.map_cons, map_keys kvs]
    congr 1
    by_cases h : k = y
    · rw [if_pos h]
    · rw [if_neg h]
theorem putD_rp {O : Hs} {H : Hp} {y : Key} {v : V} {d : D} (rv : Rp C O H v d) {kvs : List (Key × V)} {ds : List D} (r : RpL C O H (kvs.map (·.2)) ds) :
    (putD (kvs.map fun p => kD p.1) ds y d).1 = (putK kvs y v).map (fun p => kD p.1) ∧ RpL C O H ((putK kvs y v).map (·.2)) (putD (kvs.map fun p => kD p.1) ds y d).2 := by
  unfold putD putK
  rw [any_kD]
  by_cases h : (kvs.any fun kv => decide (kv.1 = y)) = true
  · rw [if_pos h, if_pos h]
    exact ⟨(map_keys kvs).symm, zip_rpD rv r⟩
  · rw [if_neg h, if_neg h]
    refine ⟨?_, ?_⟩
    · rw [List.map_append]; rfl
    · rw [List.map_append]
      exact r.snoc rv
def stD (d i y : D) : Option D := match d, i with
  | .lst ds, .int k => (ixN ds.length k).map fun j => .lst (ds.set j y)
  | .dct ks vs, i => (keyOf i).bind fun ky => if ks.length < big ∧ ks.length = vs.length then some (.dct (putD ks vs ky y).1 (putD ks vs ky y).2) else none
  | _, _ => none
/-- x[i] = e, x the open thing of slot k: first e, then i -/
def gSetIx (k : Nat) (gi ge : G) : GS := fun ρ => (ge ρ).bind fun r => match r.1 with
  | .d y => (gi r.2).bind fun s => match s.1 with
    | .d i => (rs s.2 (.o k)).bind fun d => (ofO (stD d i y)).bind fun d' => .ok (.nx (s.2.set k (some d')))
    | .o _ => .st
  | .o _ => .st
variable {i : Expr} {k : Nat} {p1 : Pos}
theorem vs_setIx (hu : X.A.units + 1 < cLine) (ho : PE X o (tVar k)) (hi : PE X i (tV C io E ow ga)) (he : PE X e (tV C io E ow g)) (hk : k ∈ ow := by decide) (hs : swapsWith e (some (.Subscript o i p1)) pos.line X.env = pure false := by rfl)
    (ha : ∀ v, assign (.Subscript o i p1) X.env v = (do
      let ov ← holding [v] (eval o X.env)
      let iv ← holding [v, ov] (eval i X.env)
      standAt p1
      holding [v, ov, iv] (setItem ov iv v)
      release [v, ov, iv] []) := by intro _; rfl) (hss : swapsWithSole [.Subscript o i p1] e pos.line X.env = pure false := by rfl) (hw : swappedStores [.Subscript o i p1] e X.env = pure none := by rfl)
    (h1 : (assignEach [.Subscript o i p1] X.env).map (·.2) = [assign (.Subscript o i p1) X.env] := by rfl) : PS X (.Assign [.Subscript o i p1] e pos) (tS C io E ow ow owL (gSetIx k ga g)) :=
  PS.imp (PS.or (ps_asg he (pg_sub ho hi set_list ha) hss hw h1) (ps_dput hu ho hi he hs)) fun D σ H ⟨B, ρ, hT, en, h⟩ => by
    have h := Out.bind h
    cases hg : g ρ with
    | st => rw [hg] at h; exact h.elim
    | er c fs vs =>
      rw [hg] at h
      refine .inl ⟨B, ρ, en, ?_⟩
      rw [hg]
      exact h
    | ok r =>
    rw [hg] at h
    obtain ⟨w, ρ1⟩ := r
    cases w with
    | o j => exact h.elim
    | d y =>
    have h := Out.bind (show Out C B E ((ga ρ1).bind _) _ from h)
    obtain ⟨q, d0, e1, e2, _, _⟩ := en.own k hk
    cases hg2 : ga ρ1 with
    | st => rw [hg2] at h; exact h.elim
    | er c fs vs =>
      rw [hg2] at h
      refine .inl ⟨B, ρ, en, ?_⟩
      rw [hg]
      refine fun v H1 f1 en1 r1 => ⟨_, e2, { B with px := [(v, y)] ++ B.px }, ρ1, hold1 en1 r1, ?_⟩
      rw [hg2]
      exact h
    | ok s =>
    rw [hg2] at h
    obtain ⟨w2, ρ2⟩ := s
    cases w2 with
    | o j => exact h.elim
    | d iD =>
    obtain ⟨d, hd, h⟩ := (Out.bind (show Out C B E ((rs ρ2 (.o k)).bind _) _ from h)).rs
    obtain ⟨d', hd', h⟩ := (Out.bind h).ofO
    unfold stD at hd'
    split at hd'
    · obtain ⟨j, hj, hd'⟩ := Option.map_eq_some_iff.mp hd'
      subst hd'
      refine .inl ⟨B, ρ, en, ?_⟩
      rw [hg]
      refine fun v H1 f1 en1 r1 => ⟨_, e2, { B with px := [(v, y)] ++ B.px }, ρ1, hold1 en1 r1, ?_⟩
      rw [hg2]
      intro u H2 f2 en2 r2
      cases r2
      obtain ⟨q', e3, o1⟩ := own_at en2 hk hd
      rw [e2] at e3
      cases e3
      have ry := en2.pin (v, y) List.mem_cons_self
      cases o1 with
      | lst eq rr =>
        obtain ⟨f, f', r'⟩ := own_put en2 hk e2 eq (fun xs => nofun) (.lst (_ : List V)) (rr.set j ry)
        exact ⟨q, _, _, j, rfl, rfl, eq, by rw [rr.len]; exact hj, h _ _ (en2.put hk e2 f' (.lst upd_same r')).unhold⟩
    · rename_i ks vs i' 
      obtain ⟨ky, hky, hd'⟩ := Option.bind_eq_some_iff.mp hd'
      split at hd'
      · rename_i hl
        cases hd'
        refine .inr ⟨B, ρ, en, ?_⟩
        rw [hg]
        refine fun v H1 f1 en1 r1 => ⟨_, e2, { B with px := [(v, y)] ++ B.px }, ρ1, hold1 en1 r1, ?_⟩
        rw [hg2]
        intro u H2 f2 en2 r2
        obtain ⟨q', e3, o1⟩ := own_at en2 hk hd
        rw [e2] at e3
        cases e3
        have ry := en2.pin (v, y) List.mem_cons_self
        cases o1 with
        | dct eq hkk rr =>
          cases hkk
          obtain ⟨p1, p2⟩ := putD_rp (y := ky) ry rr
          obtain ⟨f, f', r'⟩ := own_put en2 hk e2 eq (fun xs => nofun) (.dK (putK _ ky v)) p2
          have hlen := hl.1
          rw [List.length_map] at hlen
          exact ⟨q, _, rfl, .inl ⟨_, ky, eq, keyOf_rt hky (.inl r2), Nat.lt_of_lt_of_le hlen (by decide), rfl⟩, h _ _ (en2.put hk e2 f' (.dct upd_same p1 r')).unhold⟩
      · cases hd'
    · cases hd'
end
end VL
namespace VL
open PySem PySem.Spec PyProof.Rows L2
section
variable {X : Cx} {C : Cf} {io : Bool} {E : XK} {ow ow1 ow2 owL ts : List Nat} {e a b c o tg iter : Expr} {es : List Expr} {pos p : Pos} {g ga gb gc : G} {gr : GA} {x f : Str} {st : Stmt} {kws : List Keyword}
/-! ## keywords, tests of comprehensions -/
theorem vk_nil : PK X [] (tA C io E ow gaNil) := PK.imp pk_nil fun σ H Q ⟨B, ρ, en, h⟩ => h [] H Ex.refl en trivial
theorem vk_cons {n : Option Str} {kpos : Pos} (he : PE X e (tV C io E ow g)) (hr : PK X kws (tA C io E ow gr)) : PK X (⟨n, e, kpos⟩ :: kws) (tA C io E ow (gaCons g gr)) :=
  PK.imp (pk_cons he hr) fun σ H Q ⟨B, ρ, en, h⟩ => ⟨B, ρ, en, (Out.bind h).mono fun r _ h v H1 f1 en1 r1 => ⟨B, r.2, en1, (Out.bind h).mono fun s _ h vs H2 f2 en2 r2 => h (v :: vs) H2 (f1.trans f2) en2 ⟨r1.keep f2, r2⟩⟩⟩
def gYes : GT := fun ρ => .ok (true, ρ)
theorem PTs.imp {X : Cx} {e : List Expr} {t t' : TT} (h : PTs X e t) (i : ∀ σ H Q, t' σ H Q → t σ H Q) : PTs X e t' := ⟨fun pins s σ H Q I q => h.run pins s σ H Q I (i σ H Q q)⟩
theorem vts_nil : PTs X [] (tT C io E ow gYes) := PTs.imp pts_nil fun σ H Q ⟨B, ρ, en, h⟩ => h H Ex.refl en
theorem vts_one {tc : GT} (h : PT X c (tT C io E ow tc)) : PTs X [c] (tT C io E ow tc) := pts_one h
/-! ## an error raised -/
def gRaise (c : Str) (f : Str) (g : G) : GS := fun ρ => (g ρ).bind fun r => match r.1 with
  | .d d => .er c [f] [d]
  | .o _ => .st
theorem vs_raise {Cl : Addr} {pos2 : Pos} {j : Nat} (cE : LT.ErrC X.prog X.w X.K X.mg X.base x f Cl) (hm : X.mg = C.mg) (hc : X.calm = true) (hr : Room j X.A) (tk : Takes X (fun cls d _ H => E cls d H)) (hg : Gl X x) (he : PE X e (tV C io E ow g)) (hj : 2 ≤ j := by decide) (hdb : (x == ("__debug__" : Str)) = false := by decide)
    (hst : starEach [e] X.env = (false, eval e X.env) :: starEach [] X.env := by rfl) (hpl : (backTo pos (starEach [] X.env)).any (·.1) = false := by rfl) :
    PS X (.Raise (some (.Call (.Name x p) [e] [] pos)) none pos2) (tS C io E ow ow1 owL (gRaise x f g)) :=
  PS.imp (LT.ps_raiseC cE hc hr tk hg he hj hdb hst hpl) fun D σ H ⟨B, ρ, hT, en, h⟩ => ⟨B, ρ, en, (Out.bind h).mono fun r _ h v H1 f1 en1 r1 => LT.RaiseOk.of fun dx hdx => by
    obtain ⟨w, ρ1⟩ := r
    cases w with
    | o k => exact h.elim
    | d d =>
      refine h Cl dx _ [(f, v)] (by rw [← hm]; exact cE.gl) (en1.fr.trans (Ex.new hdx)) (dx_none en1 hdx) upd_same rfl ?_
      exact .cons (Rp.less (fun _ z => .inl z) (Rp.keep (Ex.new (M := Nil) hdx) (fun _ z => z.elim) r1)) .nil⟩
/-! ## attributes -/
def fldD (c f : Str) : D → Option D
  | .ins c' fs vs => if c' = c then (fs.zip vs).lookup f else none
  | _ => none
theorem lookup_rp {O : Hs} {H : Hp} {f : Str} : ∀ {fvs : List (Str × V)} {ds : List D} {d : D}, RpL C O H (fvs.map (·.2)) ds → ((fvs.map (·.1)).zip ds).lookup f = some d → ∃ v, fvs.lookup f = some v ∧ Rp C O H v d
  | [], _, _, .nil, h => by cases h
  | (k, v) :: fvs, c :: ds, d, .cons a b, h => by
    rw [List.map_cons, List.zip_cons_cons, List.lookup_cons] at h
    rw [List.lookup_cons]
    cases e : f == k with
    | true =>
      rw [e] at h
      cases h
      exact ⟨v, rfl, a⟩
    | false =>
      rw [e] at h
      exact lookup_rp b h
def FldOk (C : Cf) (c f : Str) : Prop := ∀ cl, C.mg c = some (.ref cl) → Cls C.K cl ∧ NoAttr C.K cl f
theorem un_out {B : Bs} {ρ : Env} {F : D → Option D} {k : W × Env → Prop} (h : Out C B E (gUn F ga ρ) k) : Out C B E (ga ρ) fun r => Out C B E (rs r.2 r.1) fun x => ∃ z, F x = some z ∧ k (.d z, r.2) :=
  (Out.bind h).mono fun _ _ h => (Out.bind h).mono fun _ _ h => (Out.bind h).ofO
theorem ve_fld {c f : Str} (hC : C.K = X.K) (k : FldOk C c f) (he : PE X e (tV C io E ow ga)) (hb : attributeBase e f X.env (eval e X.env) = eval e X.env := by rfl) : PE X (.Attribute e f pos) (tV C io E ow (gUn (fldD c f) ga)) :=
  PE.imp (pe_fld he hb) fun σ H Q ⟨B, ρ, en, h⟩ => ⟨B, ρ, en, (un_out h).mono fun r _ h v H1 f1 en1 r1 => by
    obtain ⟨d, hd, z, hz, hh⟩ := h.rs
    unfold fldD at hz
    split at hz
    · split at hz
      · rename_i hcc
        subst hcc
        obtain ⟨a, cl, dx, fvs, rfl, ea, g, rfl, rr⟩ := (r1.rt en1 hd).ins
        obtain ⟨u, hu, ru⟩ := lookup_rp rr hz
        obtain ⟨k1, k2⟩ := k cl g
        exact ⟨a, cl, dx, fvs, u, rfl, ea, hC ▸ k1, hC ▸ k2, hu, hh u H1 f1 en1 ru⟩
      · cases hz
    · cases hz⟩
/-- self.f = e, self the open thing of slot k -/
def putFD (f : Str) (y : D) : List Str → List D → List Str × List D
  | [], [] => ([f], [y])
  | h :: fs, v :: vs => if h = f then (h :: fs, y :: vs) else (h :: (putFD f y fs vs).1, v :: (putFD f y fs vs).2)
  | fs, vs => (fs, vs)
theorem putF_rp {O : Hs} {H : Hp} {f : Str} {v : V} {y : D} (rv : Rp C O H v y) : ∀ {fvs : List (Str × V)} {ds : List D}, RpL C O H (fvs.map (·.2)) ds → (putFD f y (fvs.map (·.1)) ds).1 = (putF f v fvs).map (·.1) ∧ RpL C O H ((putF f v fvs).map (·.2)) (putFD f y (fvs.map (·.1)) ds).2
  | [], _, .nil => ⟨rfl, .cons rv .nil⟩
  | (k, u) :: fvs, c :: ds, .cons a b => by
    obtain ⟨h1, h2⟩ := putF_rp (f := f) rv b
    rw [List.map_cons]
    unfold putFD putF
    by_cases h : k = f
    · rw [if_pos h, if_pos h]
      exact ⟨rfl, .cons rv b⟩
    · rw [if_neg h, if_neg h]
      exact ⟨by rw [List.map_cons, ← h1], .cons a h2⟩
def fldP (c f : Str) (d y : D) : Option D := match d with
  | .ins c' fs vs => if c' = c ∧ fs.length < 1000 then some (.ins c (putFD f y fs vs).1 (putFD f y fs vs).2) else none
  | _ => none
def gSetF' (c f : Str) (k : Nat) (ge : G) : GS := fun ρ => (ge ρ).bind fun r => match r.1 with
  | .d y => (rs r.2 (.o k)).bind fun d => (ofO (fldP c f d y)).bind fun d' => .ok (.nx (r.2.set k (some d')))
  | .o _ => .st
theorem vs_fld {c f : Str} {k : Nat} {p1 : Pos} (hC : C.K = X.K) (kf : FldOk C c f) (ho : PE X o (tVar k)) (he : PE X e (tV C io E ow g)) (hk : k ∈ ow := by decide) (hs : swapsWith e (some (.Attribute o f p1)) pos.line X.env = pure false := by rfl) : PS X (.Assign [.Attribute o f p1] e pos) (tS C io E ow ow owL (gSetF' c f k g)) :=
  PS.imp (ps_fld ho he hs) fun D σ H ⟨B, ρ, hT, en, h⟩ => ⟨B, ρ, en, (Out.bind h).mono fun r _ h v H1 f1 en1 r1 => by
    obtain ⟨w, ρ1⟩ := r
    cases w with
    | o j => exact h.elim
    | d y =>
    obtain ⟨d, hd, h⟩ := (Out.bind (show Out C B E ((rs ρ1 (.o k)).bind _) _ from h)).rs
    obtain ⟨d', hd', h⟩ := (Out.bind h).ofO
    obtain ⟨q, e3, o1⟩ := own_at en1 hk hd
    refine ⟨_, e3, ?_⟩
    unfold fldP at hd'
    split at hd'
    · split at hd'
      · rename_i hcc
        cases hd'
        obtain ⟨rfl, hlen⟩ := hcc
        cases o1 with
        | @ins cl dx fvs _ _ _ eq gg hf rr =>
          subst hf
          obtain ⟨k1, k2⟩ := kf cl gg
          obtain ⟨p1, p2⟩ := putF_rp (f := f) r1 rr
          obtain ⟨f', f'', r'⟩ := own_put en1 hk e3 eq (fun xs => nofun) (.ins cl dx (putF f v fvs)) p2
          exact ⟨q, cl, dx, fvs, rfl, eq, hC ▸ k1, hC ▸ k2, by rw [List.length_map] at hlen; exact hlen, h _ _ (en1.put hk e3 f'' (.ins upd_same gg p1 r'))⟩
      · cases hd'
    · cases hd'⟩
/-! ## methods, properties, new instances -/
def gMeth (c : Str) (n : Nat) (F : List D → Res D) (m : Str) (ga : G) (gr : GA) : G := fun ρ => (ga ρ).bind fun r => match r.1 with
  | .d (.ins c' fs vs) => if c' = c ∧ m ∉ fs then (gr r.2).bind fun s => (ofO (strL s.1)).bind fun ds => if ds.length + 1 = n then (F (.ins c' fs vs :: ds)).bind fun d => .ok (.d d, s.2) else .st else .st
  | _ => .st
theorem lookup_none {m : Str} : ∀ {fvs : List (Str × V)}, m ∉ fvs.map (·.1) → fvs.lookup m = none
  | [], _ => rfl
  | (k, v) :: fvs, h => by
    rw [List.lookup_cons]
    have h1 : (m == k) = false := beq_eq_false_iff_ne.mpr fun z => h (by rw [z]; exact List.mem_cons_self)
    rw [h1]
    exact lookup_none fun z => h (List.mem_cons_of_mem _ z)
theorem meth_core {c m : Str} {n : Nat} {F : List D → Res D} {cl : Addr} (hcl : C.mg c = some (.ref cl)) {σ : L2.St} {H : Hp} {Q : VK} (h : tV C io E ow (gMeth c n F m ga gr) σ H Q) : tMeth cl m (spD C n F) [] E (tV C io E ow ga) (tA C io E ow gr) σ H Q := by
  obtain ⟨B, ρ, en, h⟩ := h
  refine ⟨B, ρ, en, (Out.bind h).mono fun r _ h v H1 f1 en1 r1 => ?_⟩
  obtain ⟨w, ρ1⟩ := r
  cases w with
  | o k => exact h.elim
  | d d =>
  cases d with
  | ins c' fs vs =>
    dsimp only at h
    split at h
    · rename_i hcc
      obtain ⟨rfl, hm⟩ := hcc
      have r1' := r1
      cases r1 with
      | @ins a cl' dx fvs _ _ _ hno ea gg hf rr =>
      rw [hcl] at gg
      cases gg
      subst hf
      refine ⟨a, dx, fvs, rfl, ea, lookup_none hm, { B with px := [(.ref a, .ins c' (fvs.map (·.1)) vs)] ++ B.px }, ρ1, hold1 en1 r1', (Out.bind h).mono fun s _ h us H2 f2 en2 r2 => ?_⟩
      obtain ⟨ds, hd, h⟩ := (Out.bind h).ofO
      split at h
      · rename_i hl
        have rr2 := RwL.str r2 hd
        have rs2 : Rp C (Opn B ow σ) H2 (.ref a) (.ins c' (fvs.map (·.1)) vs) := by
          have := en2.pin (.ref a, .ins c' (fvs.map (·.1)) vs) (List.mem_append_left _ List.mem_cons_self)
          exact this
        rw [List.append_nil]
        refine ⟨Opn B ow σ, .ins c' (fvs.map (·.1)) vs :: ds, by rw [List.length_cons, rr2.len]; exact hl, en2.there, .cons rs2 rr2, ?_⟩
        cases hF : F (.ins c' (fvs.map (·.1)) vs :: ds) with
        | ok d =>
          rw [hF] at h
          exact fun v H3 f3 r3 => h v H3 ((f1.trans f2).trans (f3.mono fun _ z => z.elim)) (en2.grow f3).unhold r3
        | er c fs xs =>
          rw [hF] at h
          exact er_of en2.unhold h
        | st => rw [hF] at h; exact h.elim
      · exact h.elim
    · exact h.elim
  | _ => exact h.elim
theorem ve_meth {c m : Str} {n j k : Nat} {F : List D → Res D} {cl fa : Addr} {fd : FuncData} {ps : List Str} {apos : Pos} {pl : Sem Bool} (hC : C.K = X.K) (hcl : C.mg c = some (.ref cl)) (kc : Cls C.K cl) (hm : Meth X.K cl m fa) (FO : FnOk X.prog X.w X.K X.mg X.base (L2.CX X.prog X.w) k fa fd ps (spD C n F)) (hr : Room j X.A) (hb : Binds X.K fd ps []) (hx : Passes (L2.CX X.prog X.w) X E)
    (he : PE X o (tV C io E ow ga)) (ha : PA X (e :: es) (tA C io E ow gr)) (hj : k ≤ j := by decide) (hst : starEach (e :: es) X.env = (false, eval e X.env) :: starEach es X.env := by rfl) (hpl : (backTo pos (starEach es X.env)).any (·.1) = false := by rfl)
    (ht : eval (.Call (.Attribute o m apos) (e :: es) [] pos) X.env = (do
      let ov ← eval o X.env
      standAt apos.atName
      let (f, first) ← holding [ov] (getMethod ov m pl)
      callWith pos f first (backTo pos (starEach (e :: es) X.env)) (backToKw pos (keywordEach [] X.env))) := by rfl) : PE X (.Call (.Attribute o m apos) (e :: es) [] pos) (tV C io E ow (gMeth c n F m ga gr)) :=
  PE.imp (pe_meth he (hC ▸ kc) hm FO (hr.mono hj) hb .nil hx ha hst hpl ht) fun σ H Q h => meth_core hcl h
/-- e.f, a property -/
def gProp (c : Str) (F : List D → Res D) (ga : G) : G := fun ρ => (ga ρ).bind fun r => match r.1 with
  | .d (.ins c' fs vs) => if c' = c then (noE (F [.ins c' fs vs])).bind fun d => .ok (.d d, r.2) else .st
  | _ => .st
theorem ve_prop {c : Str} {j k : Nat} {F : List D → Res D} {cl pa ga' : Addr} {fd : FuncData} {ps : List Str} (hC : C.K = X.K) (hcl : C.mg c = some (.ref cl)) (kc : Cls C.K cl) (hp : PropOf X.K cl f pa ga') (FO : FnOk X.prog X.w X.K X.mg X.base (L2.CX X.prog X.w) k ga' fd ps (spD C 1 F)) (hr : Room j X.A) (hb : Binds X.K fd ps [])
    (he : PE X e (tV C io E ow ga)) (hj : k + 1 ≤ j := by decide) (hab : attributeBase e f X.env (eval e X.env) = eval e X.env := by rfl) : PE X (.Attribute e f pos) (tV C io E ow (gProp c F ga)) :=
  PE.imp (pe_prop (E := E0) he (hC ▸ kc) hp FO (hr.mono hj) hb .nil passL hab) fun σ H Q ⟨B, ρ, en, h⟩ => ⟨B, ρ, en, (Out.bind h).mono fun r _ h v H1 f1 en1 r1 => by
    obtain ⟨w, ρ1⟩ := r
    cases w with
    | o k => exact h.elim
    | d d =>
    cases d with
    | ins c' fs vs =>
      dsimp only at h
      by_cases hcc : c' = c
      case neg => rw [if_neg hcc] at h; exact h.elim
      · rw [if_pos hcc] at h
        have hh := Out.noE (Out.bind h)
        clear h
        subst hcc
        have r1' := r1
        cases r1 with
        | @ins a cl' dx fvs _ _ _ hno ea gg hf rr =>
        rw [hcl] at gg
        cases gg
        refine ⟨a, dx, fvs, rfl, ea, Opn B ow σ, [.ins c' fs vs], rfl, en1.there, .cons r1' .nil, ?_⟩
        cases hF : F [.ins c' fs vs] with
        | ok d =>
          rw [hF] at hh
          exact fun v H3 f3 r3 => hh v H3 (f1.trans (f3.mono fun _ z => z.elim)) (en1.grow f3) r3
        | er c fs xs =>
          rw [hF] at hh
          exact er_of en1 hh
        | st => rw [hF] at hh; exact hh.elim
    | _ => exact h.elim⟩
/-- C(..) -/
def gMake (c : Str) (n : Nat) (F : List D → Res (D × D)) (gr : GA) : GF := fun ρ => (gr ρ).bind fun r => (ofO (strL r.1)).bind fun ds => if ds.length + 1 = n then (F (.ins c [] [] :: ds)).bind fun t => match t.1 with
    | .non => .ok (t.2, r.2)
    | _ => .st
  else .st
theorem make_core {c : Str} {n : Nat} {F : List D → Res (D × D)} {cl : Addr} (hcl : C.mg c = some (.ref cl)) {σ : L2.St} {H : Hp} {Q : VK} (h : tF C io E ow (gMake c n F gr) σ H Q) : tMake cl (spI C n F) [] E (tA C io E ow gr) σ H Q := by
  obtain ⟨B, ρ, en, h⟩ := h
  refine ⟨B, ρ, en, (Out.bind h).mono fun r _ h vs H1 f1 en1 r1 y dx hy hdx hne => ?_⟩
  obtain ⟨ds, hd, h⟩ := (Out.bind h).ofO
  split at h
  · rename_i hl
    have rr := RwL.str r1 hd
    rw [List.append_nil]
    have g1 : Ex Nil H1 (upd H1 dx (.own y)) := Ex.new hdx
    have hy2 : upd H1 dx (.own y) y = none := by rw [upd_ne hne.symm]; exact hy
    have g2 : Ex Nil H1 (upd (upd H1 dx (.own y)) y (.ins cl dx [])) := g1.trans (Ex.new hy2)
    have hO : ∀ b, (Opn B ow σ b ∨ b = y) → upd (upd H1 dx (.own y)) y (.ins cl dx []) b ≠ none := by
      intro b hb
      by_cases e : b = y
      · rw [e, upd_same]; exact fun z => nomatch z
      · rw [upd_ne e]
        by_cases e2 : b = dx
        · rw [e2, upd_same]; exact fun z => nomatch z
        · rw [upd_ne e2]
          exact hb.elim (en1.there b) fun z => absurd z e
    refine ⟨fun b => Opn B ow σ b ∨ b = y, y, .ins c [] [], vs, ds, rfl, by rw [rr.len]; exact hl, hO, .inr rfl, .ins upd_same hcl rfl .nil, Rp.exL g2 (fun _ z => z.elim) (fun b z => z.imp id fun z => by rw [z]; exact hy) rr, ?_⟩
    cases hF : F (.ins c [] [] :: ds) with
    | ok t =>
      rw [hF] at h
      obtain ⟨t1, t2⟩ := t
      intro v H2 f2 r2 o2
      cases t1 with
      | non =>
        cases r2
        have f3 : Ex Nil H1 H2 := g2.fresh f2 fun b z => .inr (by rw [z]; exact hy)
        exact ⟨rfl, h y H2 (f1.trans (f3.mono fun _ z => z.elim)) (en1.new hy f3 o2)⟩
      | _ => exact h.elim
    | er c' fs xs =>
      rw [hF] at h
      refine fun cl' dx' H' fvs a2 f2 hd2 e4 e5 r2 => h cl' dx' H' fvs a2 (en1.fr.trans ((g2.fresh f2 fun b z => .inr (by rw [z]; exact hy)).mono fun _ z => z.elim)) (dx_none en1 ?_) e4 e5 (r2.less fun _ z => .inl (.inl z))
      exact g2.there hd2 id
    | st => rw [hF] at h; exact h.elim
  · exact h.elim
theorem vf_make {c : Str} {n j k : Nat} {F : List D → Res (D × D)} {cl fa : Addr} {fd : FuncData} {ps : List Str} (hm : X.mg = C.mg) (hcl : C.mg c = some (.ref cl)) (M : Mk X.K cl fa) (FO : FnOk X.prog X.w X.K X.mg X.base (L2.CX X.prog X.w) k fa fd ps (spI C n F)) (hr : Room j X.A) (hg : Gl X c) (hb : Binds X.K fd ps []) (hx : Passes (L2.CX X.prog X.w) X E)
    (ha : PA X (e :: es) (tA C io E ow gr)) (hj : k + 1 ≤ j := by decide) (hdb : (c == ("__debug__" : Str)) = false := by decide) (he : starEach (e :: es) X.env = (false, eval e X.env) :: starEach es X.env := by rfl) (hpl : (backTo pos (starEach es X.env)).any (·.1) = false := by rfl) : PE X (.Call (.Name c p) (e :: es) [] pos) (tF C io E ow (gMake c n F gr)) :=
  PE.imp (pe_make M FO (hr.mono hj) hg (by rw [hm]; exact hcl) hb .nil hx ha hdb he hpl) fun σ H Q h => make_core hcl h
end
end VL
namespace VL
open PySem PySem.Spec PyProof.Rows L2
section
variable {X : Cx} {C : Cf} {io : Bool} {E : XK} {ow ow1 ow2 owL ts : List Nat} {e a b c o tg iter : Expr} {es : List Expr} {pos p : Pos} {g ga gb gc : G} {gr : GA} {x f : Str} {st : Stmt}
/-! ## x.bit_length(), *xs in a display -/
def bitsD : D → Option D
  | .int i => some (.int (Builtin.Int.intBits i : Nat))
  | _ => none
theorem ve_bits {apos : Pos} (ho : PE X o (tV C io E ow ga)) (hbase : attributeBase o "bit_length" X.env (eval o X.env) = eval o X.env := by rfl) (hline : (apos.endLine == pos.line) = true := by rfl) : PE X (.Call (.Attribute o "bit_length" apos) [] [] pos) (tV C io E ow (gUn bitsD ga)) :=
  PE.imp (pe_bits ho hbase hline) fun σ H Q ⟨B, ρ, en, h⟩ => ⟨B, ρ, en, (un_out h).mono fun r _ h v H1 f1 en1 r1 => by
    obtain ⟨d, hd, z, hz, hh⟩ := h.rs
    unfold bitsD at hz
    split at hz <;> cases hz
    exact ⟨_, (r1.rt en1 hd).int, hh _ H1 f1 en1 (.int _)⟩⟩
def gaStar (ga : G) (gr : GA) : GA := fun ρ => (ga ρ).bind fun r => (rs r.2 r.1).bind fun d => (ofO (itD d)).bind fun ds => (gr r.2).bind fun s => .ok (ds.map W.d ++ s.1, s.2)
theorem rwl_app {B : Bs} {σ : L2.St} {H : Hp} : ∀ {vs us : List V} {ds : List D} {ws : List W}, RpL C (Opn B ow σ) H vs ds → RwL C B ow σ H us ws → RwL C B ow σ H (vs ++ us) (ds.map W.d ++ ws)
  | _, _, _, _, .nil, h => h
  | _, _, _, _, .cons a b, h => ⟨a, rwl_app b h⟩
theorem rwl_px {B : Bs} {σ : L2.St} {H : Hp} {q : List (V × D)} : ∀ {vs : List V} {ws : List W}, RwL C { B with px := q } ow σ H vs ws → RwL C B ow σ H vs ws
  | [], [], _ => trivial
  | [], _ :: _, h => h.elim
  | _ :: _, [], h => h.elim
  | _ :: _, .d _ :: _, h => ⟨h.1, rwl_px h.2⟩
  | _ :: _, .o _ :: _, h => ⟨h.1, rwl_px h.2⟩
theorem va_star {sp : Pos} (hC : C.K = X.K) (he : PE X e (tV C io E ow ga)) (hr : PA X es (tA C io E ow gr)) (hs : starEach (.Starred e sp :: es) X.env = (true, eval e X.env) :: starEach es X.env := by rfl) : PA X (.Starred e sp :: es) (tA C io E ow (gaStar ga gr)) :=
  PA.imp (StX.pa_star he hr hs) fun σ H Q ⟨B, ρ, en, h⟩ => ⟨B, ρ, en, (Out.bind h).mono fun r _ h v H1 f1 en1 r1 => by
    obtain ⟨d, hd, h⟩ := (Out.bind h).rs
    obtain ⟨ds, hds, h⟩ := (Out.bind h).ofO
    have rt := r1.rt en1 hd
    have key : ∃ a xs, v = .ref a ∧ (SqT X.K H1 a xs ∨ SqL X.K H1 a xs) ∧ RpL C (Opn B ow σ) H1 xs ds := by
      unfold itD at hds
      split at hds <;> cases hds
      · obtain ⟨a, xs, rfl, e, r⟩ := rt.tup
        exact ⟨a, xs, rfl, .inl (hC ▸ e.sqt), r⟩
      · obtain ⟨a, xs, rfl, e, r⟩ := rt.lst
        exact ⟨a, xs, rfl, .inr (SqL.of e), r⟩
    obtain ⟨a, xs, rfl, hx, rr⟩ := key
    refine ⟨a, xs, rfl, hx, { B with px := xs.zip ds ++ B.px }, r.2, en1.hold (rp_zip rr), (Out.bind h).mono fun s _ h us H2 f2 en2 r2 => ?_⟩
    have rr2 : RpL C (Opn B ow σ) H2 xs ds := zip_rp rr.len fun q hq => en2.pin q (List.mem_append_left _ hq)
    exact h (xs ++ us) H2 (f1.trans f2) en2.unhold (rwl_app rr2 (rwl_px r2))⟩
/-! ## a, b = new, new -/
variable {i j : Nat} {y : Str} {px py pt pt2 : Pos} {kt k2 : Nat}
def gPar2F (i j : Nat) (ga gb : GF) : GS := fun ρ => (ga ρ).bind fun r => (gb r.2).bind fun s => if i < s.2.length ∧ j < s.2.length then .ok (.nx ((s.2.set i (some r.1)).set j (some s.1))) else .st
theorem vs_par2F {gfa gfb : GF} (hc : X.calm = true) (hN : X.N.Nodup) (hi : X.N[i]? = some x) (hj : X.N[j]? = some y) (hij : i ≠ j)
    (hx : X.env.scope.names.lookup x = some .local) (hy : X.env.scope.names.lookup y = some .local) (ha : PE X a (tF C io E ow gfa)) (hb : PE X b (tF C io E ow gfb)) (h0 : io = true → i ≠ 0 ∧ j ≠ 0 := by decide)
    (hw : swappedStores [.Tuple [.Name x px, .Name y py] kt pt] (.Tuple [a, b] k2 pt2) X.env = pure (some [x, y]) := by rfl)
    (hs : swapsWithSole [.Tuple [.Name x px, .Name y py] kt pt] (.Tuple [a, b] k2 pt2) pos.line X.env = pure false := by rfl)
    (hs1 : starEach [a, b] X.env = (false, eval a X.env) :: starEach [b] X.env := by rfl) (hs2 : starEach [b] X.env = (false, eval b X.env) :: starEach [] X.env := by rfl) :
    PS X (.Assign [.Tuple [.Name x px, .Name y py] kt pt] (.Tuple [a, b] k2 pt2) pos) (tS C io E ow (addO i (addO j ow)) owL (gPar2F i j gfa gfb)) :=
  PS.imp (ps_par hc hN hi hj hij hx hy (pa_cons ha (pa_cons hb pa_nil hs2) hs1) hw hs) fun D σ H ⟨B, ρ, hT, en, h⟩ => by
    refine ⟨B, ρ, en, (Out.bind h).mono fun r _ h q H1 f1 en1 => ⟨{ B with T := (q, r.1) :: B.T }, r.2, en1, (Out.bind h).mono fun s _ h q2 H2 f2 en2 => ⟨_, _, rfl, ?_⟩⟩⟩
    split at h
    · rename_i hl
      have e1 := en2.setO (B := { B with T := (q, r.1) :: B.T }) hl.2 fun z => (h0 z).2
      have e2 := e1.setO (B := B) (i := i) (by rw [List.length_set]; exact hl.1) fun z => (h0 z).1
      rw [List.set_comm _ _ (Ne.symm hij), List.set_comm _ _ (Ne.symm hij)] at e2
      exact h _ _ e2
    · exact h.elim
/-! ## x[lo:hi] = e -/
variable {lo hi : Option Expr} {gl gh : GO} {p1 p2 : Pos}
def gSubSl (to : TE) (tl th : TO) : TG := fun v σ H Q => to σ H fun u H1 => tl σ H1 fun l H2 => th σ H2 fun m H3 => ∃ q b xs ys, u = .ref q ∧ v = .ref b ∧ H3 q = some (.lst xs) ∧ H3 b = some (.lst ys) ∧ q ≠ b ∧
  ∃ i j : Int, l = some i ∧ m = some j ∧ 0 ≤ i ∧ i ≤ j ∧ j ≤ xs.length ∧ xs.length + ys.length ≤ sizeLine ∧ Q σ (upd H3 q (.lst (xs.take i.toNat ++ ys ++ xs.drop j.toNat)))
theorem pg_subSl {to : TE} {tl th : TO} (ho : PE X o to) (hl : PO X lo tl) (hu : PO X hi th)
    (ha : ∀ v, assign (.Subscript o (.Slice lo hi none p2) p1) X.env v = (do
      let ov ← holding [v] (eval o X.env)
      let iv ← holding [v, ov] (eval (.Slice lo hi none p2) X.env)
      standAt p1
      holding [v, ov, iv] (setItem ov iv v)
      release [iv, v, ov] []) := by intro _; rfl) : PG X (.Subscript o (.Slice lo hi none p2) p1) (gSubSl to tl th) := by
  constructor
  intro pins s σ H v u Q I r h
  rw [ha]
  apply wpAny_bind
  refine wpAny_holding (thn (ho.run pins s σ H _ I h) ?_)
  rintro ov s1 ⟨x1, H1, I1, r1, q1⟩
  apply wpAny_bind
  apply wpAny_holding
  apply wpAny_Slice
  refine thn (hl.run pins s1 σ H1 _ I1 q1) ?_
  rintro vl s2 ⟨l, H2, I2, pl, q2⟩
  refine thn (hu.run pins s2 σ H2 _ I2 q2) ?_
  rintro vu s3 ⟨m, H3, I3, pu, q, b, xs, ys, rfl, rfl, hq, hb, hne, i, j, rfl, rfl, h0, hij, hj, hz, fin⟩
  rw [evalPart_none]
  refine wpAny_pure ?_
  cases r
  cases r1
  have J : Inv X pins σ H3 { s3 with heap := s3.heap.push { cls := .type "slice", data := .fields #[vl, vu, .none] } } := I3.kept (t' := s3.toks) fun c ob z => Heap.get?_push_of_some _ z
  apply wpAny_bind
  apply wpAny_standAt
  apply wpAny_bind
  apply wpAny_holding
  have rl : RelV (.int i) vl := by cases pl; exact ⟨_, rfl⟩
  have ru : RelV (.int j) vu := by cases pu; exact ⟨_, rfl⟩
  refine set_slice J hq hb hne (Heap.IsSliceOf.new _ vl vu .none) rl ru h0 hij hj hz fun s' I' => ?_
  exact wpAny_release ⟨σ, _, I', fin⟩
def slSet (d y : D) (l m : Option Int) : Option D := match d, y, l, m with
  | .lst xs, .lst ys, some i, some j => if 0 ≤ i ∧ i ≤ j ∧ j ≤ xs.length ∧ xs.length + ys.length ≤ big then some (.lst (xs.take i.toNat ++ ys ++ xs.drop j.toNat)) else none
  | _, _, _, _ => none
theorem slSet_ok {d y d' : D} {l m : Option Int} (h : slSet d y l m = some d') : ∃ xs ys i j, d = .lst xs ∧ y = .lst ys ∧ l = some i ∧ m = some j ∧ (0 ≤ i ∧ i ≤ j ∧ j ≤ xs.length ∧ xs.length + ys.length ≤ big) ∧ d' = .lst (xs.take i.toNat ++ ys ++ xs.drop j.toNat) := by
  unfold slSet at h
  split at h
  · split at h
    · rename_i hcc
      cases h
      exact ⟨_, _, _, _, rfl, rfl, rfl, rfl, hcc, rfl⟩
    · cases h
  · cases h
def gSetSl (k : Nat) (gl gh : GO) (ge : G) : GS := fun ρ => (ge ρ).bind fun r => match r.1 with
  | .d y => (gl r.2).bind fun s => (gh s.2).bind fun t => (rs t.2 (.o k)).bind fun d => (ofO (slSet d y s.1 t.1)).bind fun d' => .ok (.nx (t.2.set k (some d')))
  | .o _ => .st
theorem vs_setSl {k : Nat} (ho : PE X o (tVar k)) (hl : PO X lo (tO C io E ow gl)) (hu : PO X hi (tO C io E ow gh)) (he : PE X e (tV C io E ow g)) (hk : k ∈ ow := by decide)
    (ha : ∀ v, assign (.Subscript o (.Slice lo hi none p2) p1) X.env v = (do
      let ov ← holding [v] (eval o X.env)
      let iv ← holding [v, ov] (eval (.Slice lo hi none p2) X.env)
      standAt p1
      holding [v, ov, iv] (setItem ov iv v)
      release [iv, v, ov] []) := by intro _; rfl)
    (hss : swapsWithSole [.Subscript o (.Slice lo hi none p2) p1] e pos.line X.env = pure false := by rfl) (hw : swappedStores [.Subscript o (.Slice lo hi none p2) p1] e X.env = pure none := by rfl)
    (h1 : (assignEach [.Subscript o (.Slice lo hi none p2) p1] X.env).map (·.2) = [assign (.Subscript o (.Slice lo hi none p2) p1) X.env] := by rfl) :
    PS X (.Assign [.Subscript o (.Slice lo hi none p2) p1] e pos) (tS C io E ow ow owL (gSetSl k gl gh g)) :=
  PS.imp (ps_asg he (pg_subSl ho hl hu ha) hss hw h1) fun D σ H ⟨B, ρ, hT, en, h⟩ => ⟨B, ρ, en, (Out.bind h).mono fun r _ h v H1 f1 en1 r1 => by
    obtain ⟨w, ρ1⟩ := r
    cases w with
    | o j => exact h.elim
    | d y =>
    obtain ⟨q, d0, e1, e2, _, _⟩ := en1.own k hk
    refine ⟨_, e2, { B with px := [(v, y)] ++ B.px }, ρ1, hold1 en1 r1, (Out.bind (show Out C B E ((gl ρ1).bind _) _ from h)).mono fun s _ h H2 f2 en2 => ⟨{ B with px := [(v, y)] ++ B.px }, s.2, en2, (Out.bind h).mono fun t _ h H3 f3 en3 => ?_⟩⟩
    obtain ⟨d, hd, h⟩ := (Out.bind h).rs
    obtain ⟨d', hd', h⟩ := (Out.bind h).ofO
    obtain ⟨q', e3, o1⟩ := own_at en3 hk hd
    rw [e2] at e3
    cases e3
    have ry : Rp C (Opn B ow σ) H3 v y := en3.pin (v, y) (List.mem_append_left _ List.mem_cons_self)
    obtain ⟨xs, ys, i, j, rfl, rfl, h5, h6, ⟨c0, c1, c2, c3⟩, rfl⟩ := slSet_ok hd'
    cases ry with
    | @lst b vys _ hno eb rb =>
    cases o1 with
    | @lst vxs _ eq rr =>
      have hne : q ≠ b := fun z => hno (by rw [← z]; exact .inr (.inl ⟨k, hk, e2⟩))
      obtain ⟨ff, f', r'⟩ := own_put en3 hk e2 eq (fun xs => nofun) (.lst (vxs.take i.toNat ++ vys ++ vxs.drop j.toNat)) (((rr.take i.toNat).app rb).app (rr.drop j.toNat))
      exact ⟨q, b, vxs, vys, rfl, rfl, eq, eb, hne, i, j, h5, h6, c0, c1, by rw [rr.len]; exact c2, by rw [rr.len, rb.len]; exact big_line c3, h _ _ (en3.put hk e2 f' (.lst upd_same r')).unhold⟩⟩
end
end VL
namespace VL
open PySem PySem.Spec PyProof.Rows L2
section
variable {X : Cx} {C : Cf} {io : Bool} {E : XK} {ow ts : List Nat} {e tg iter : Expr} {pos : Pos} {gi : GI} {gg : GG}
/-! ## {k: v for ..} -/
def keyW : W → Option Key
  | .d d => keyOf d
  | .o _ => none
def dcL (gg : GG) (tt : GT) (tk tv : G) (vs : List Nat) : List D → Env → List D → List D → Res ((List D × List D) × Env)
  | [], ρ, ks, xs => .ok ((ks, xs), ρ)
  | d :: ds, ρ, ks, xs => (noE (gg d ρ)).bind fun ρ1 => (noE (tt ρ1)).bind fun r => if r.1 = true then (noE (tk r.2)).bind fun s => (ofO (keyW s.1)).bind fun ky => (noE (tv s.2)).bind fun t => match t.1 with
      | .d y => if ks.length < big then dcL gg tt tk tv vs ds (wipeR t.2 vs) (putD ks xs ky y).1 (putD ks xs ky y).2 else .st
      | .o _ => .st
    else dcL gg tt tk tv vs ds (wipeR r.2 vs) ks xs
def gDc (gi : GI) (gg : GG) (tt : GT) (tk tv : G) (vs : List Nat) : GF := fun ρ => (gi ρ).bind fun r => (noE (dcL gg tt tk tv vs r.1 (wipeR r.2 vs) [] [])).bind fun s => .ok (.dct s.1.1 s.1.2, back r.2 s.2 vs)
theorem noE_inv {α : Type} {r : Res α} {a : α} (h : noE r = .ok a) : r = .ok a := by
  cases r with
  | ok b => exact h
  | er => cases h
  | st => cases h
/-- behind a comprehension's block: the names that it used are as before, what was made is held aside -/
theorem En.fin {B : Bs} {H1 H2 : Hp} {σ : L2.St} {ρ1 ρ2 : Env} {vs : List Nat} {Dd : Addr} {d : D} (hD : H1 Dd = none) (en1 : En C io B ow H1 σ ρ1) (f2 : Ex (ownA ow σ) H1 H2) (en2 : En C io { B with T := (Dd, d) :: B.T } ow H2 (L2.wipe σ vs) ρ2) (how : ∀ i, i ∈ ow → i ∉ vs) :
    En C io { B with T := (Dd, d) :: B.T } ow H2 σ (VL.back ρ1 ρ2 vs) := by
  have e3 : ∀ b, Opn { B with T := (Dd, d) :: B.T } ow σ b → Opn B ow σ b ∨ H1 b = none := by
    rintro b (h | h | ⟨x, h⟩)
    · exact .inl (.inl h)
    · exact .inl (.inr (.inl h))
    · rcases List.mem_cons.mp h with h | h
      · cases h; exact .inr hD
      · exact .inl (.inr (.inr ⟨x, h⟩))
  have hO : Opn { B with T := (Dd, d) :: B.T } ow (L2.wipe σ vs) = Opn { B with T := (Dd, d) :: B.T } ow σ := by unfold Opn; rw [ownA_wipe how]
  have hl : ρ2.length = ρ1.length := by rw [← en2.len, wipe_length, en1.len]
  refine ⟨en2.fr, en2.o0, ?_, by rw [back_len, hl]; exact en1.len, fun i d hd hn => ?_, fun i hi => ?_, en1.dis, fun q d hq => ?_, en2.tnd, fun q hq => by have := en2.pin q hq; rw [hO] at this; exact this⟩
  · have q := en2.iom
    cases io with
    | true =>
      obtain ⟨q, e1, e2, hk, e3⟩ := q
      exact ⟨q, e1, e2, hk, by rw [wipe_out (how 0 hk)] at e3; exact e3⟩
    | false => exact q
  · by_cases hi : i ∈ vs
    · obtain ⟨v, e1, r⟩ := en1.val i d (back_in hl hi hd) hn
      exact ⟨v, e1, r.ex f2 (fun _ z => .inr (.inl z)) e3⟩
    · rw [back_out hi] at hd
      have q := en2.val i d hd hn
      rw [wipe_out hi, hO] at q
      exact q
  · have q := en2.own i hi
    rw [wipe_out (how i hi), hO] at q
    rw [back_out (how i hi)]
    exact q
  · have := en2.tmp q d hq
    rw [ownA_wipe how, hO] at this
    exact this
theorem ofO_ne {α : Type} {r : Option α} {c : Str} {fs : List Str} {xs : List D} : ofO r ≠ .er c fs xs := by cases r <;> exact fun z => nomatch z
theorem vf_dc {kx vx : Expr} {scope : Scope} {own : List (Str × Nat)} {ifs : List Expr} {gt : GT} {gk ge : G} (hc : X.calm = true) (hN : X.N.Nodup) (hi : PI X tg iter (tI C io E ow gi)) (ok : BlkOk X.N X.env.scope scope own)
    (hg : ∀ (s : Shared) (H : Hp) (A : Addr) (cl : List (Str × Addr)) (fp : List Addr), PG (X.blk s H scope (compEnvC scope cl A X.env) fp) tg (tG C io E0 ow ts gg)) (ht : ∀ (s : Shared) (H : Hp) (A : Addr) (cl : List (Str × Addr)) (fp : List Addr), PTs (X.blk s H scope (compEnvC scope cl A X.env) fp) ifs (tT C io E0 ow gt))
    (hk : ∀ (s : Shared) (H : Hp) (A : Addr) (cl : List (Str × Addr)) (fp : List Addr), PE (X.blk s H scope (compEnvC scope cl A X.env) fp) kx (tV C io E0 ow gk))
    (he : ∀ (s : Shared) (H : Hp) (A : Addr) (cl : List (Str × Addr)) (fp : List Addr), PE (X.blk s H scope (compEnvC scope cl A X.env) fp) vx (tV C io E0 ow ge)) (hts : ∀ i, i ∈ ts → i ∈ own.map (·.2) := by decide) (how : ∀ i, i ∈ ow → i ∉ own.map (·.2) := by decide)
    (hs : ∀ x, foldedSetIterable iter X.env x = pure x := by intro _; rfl) : PE X (.DictComp kx vx [⟨tg, iter, ifs, 0⟩] scope pos) (tF C io E ow (gDc gi gg gt gk ge (own.map (·.2)))) :=
  PE.imp (pe_dc hc hN hi ok hg ht hk he hs) fun σ H Q ⟨B, ρ, en, o⟩ => by
    generalize own.map (·.2) = vs at hts how o ⊢
    refine ⟨B, ρ, en, (Out.bind o).mono fun r _ o J q H1 f1 en1 wk hn Dd hD => ?_⟩
    obtain ⟨ds, ρ1⟩ := r
    have o := Out.bind o
    cases hL : noE (dcL gg gt gk ge vs ds (wipeR ρ1 vs) [] []) with
    | st => rw [hL] at o; exact o.elim
    | er c fs xs => exact absurd hL noE_ne
    | ok s =>
    rw [hL] at o
    have hL' := noE_inv hL
    have st1 : En C io { B with px := q ++ B.px, T := (Dd, .dct [] []) :: B.T } ow (upd H1 Dd (.dK [])) σ ρ1 := en1.new hD (Ex.new hD) (.dct upd_same rfl .nil)
    refine ⟨fun i m H => ∃ ρ ks xs, i + m = ds.length ∧ En C io { B with px := q ++ B.px, T := (Dd, .dct ks xs) :: B.T } ow H (wipe σ vs) ρ ∧ Ex (ownA ow σ) H1 H ∧ dcL gg gt gk ge vs (ds.drop i) ρ ks xs = .ok s,
      ⟨ds.length, wipeR ρ1 vs, [], [], Nat.zero_add _, st1.wipe how, Ex.new hD, by rw [List.drop_zero]; exact hL'⟩, ?_⟩
    rintro i m H2 ⟨ρ2, ks, xs, hm, en2, f2, hr⟩
    have hq : ∀ x, x ∈ q → Rp C (Opn { B with px := q ++ B.px, T := (Dd, .dct ks xs) :: B.T } ow (wipe σ vs)) H2 x.1 x.2 := fun x hx => en2.pin x (List.mem_append_left _ hx)
    cases m with
    | zero =>
      rw [Nat.add_zero] at hm
      subst hm
      rw [List.drop_length] at hr
      cases hr
      refine .inl ⟨wk.stop _ _ hq, ?_⟩
      have e9 := En.fin (B := { B with px := q ++ B.px }) hD en1 f2 en2 how
      exact o Dd H2 (f1.trans f2) e9.unhold
    | succ m =>
      have hi : i < ds.length := by omega
      refine .inr ⟨wk.go _ _ i hq hi, fun H' => ∃ ρ ks xs, (i + 1) + m = ds.length ∧ En C io { B with px := q ++ B.px, T := (Dd, .dct ks xs) :: B.T } ow H' (wipe σ vs) ρ ∧ Ex (ownA ow σ) H1 H' ∧ dcL gg gt gk ge vs (ds.drop (i + 1)) ρ ks xs = .ok s,
        fun H' h => ⟨m, Nat.lt_succ_self m, h⟩, fun x H3 hy => ?_⟩
      obtain ⟨d, hd, f3, r3⟩ := wk.yld _ _ i x H3 en2.there hq hi hy
      have e3 : ds.drop i = d :: ds.drop (i + 1) := by
        rw [List.drop_eq_getElem_cons hi]
        rw [List.getElem?_eq_getElem hi] at hd
        cases hd
        rfl
      rw [e3] at hr
      have oL : Out C { B with px := q ++ B.px, T := (Dd, .dct ks xs) :: B.T } E0 (dcL gg gt gk ge vs (d :: ds.drop (i + 1)) ρ2 ks xs) (fun t => t = s) := by rw [hr]; rfl
      unfold dcL at oL
      refine ⟨_, ρ2, d, en2.grow f3, r3, (Out.noE (Out.bind oL)).mono fun ρ3 _ oL σ4 ag4 en4 => ?_⟩
      have hw : wipe σ4 vs = wipe σ vs := (wipe_ag ag4 hts).trans wipe_wipe
      have hA : ownA ow σ4 = ownA ow σ := by rw [← ownA_wipe (σ := σ4) how, hw, ownA_wipe how]
      refine ⟨hw, _, ρ3, en4, (Out.noE (Out.bind oL)).mono fun t _ oL H5 f5 en5 => ?_⟩
      obtain ⟨k, ρ5⟩ := t
      have g5 : Ex (ownA ow σ) H1 H5 := (f2.trans (f3.mono fun _ z => z.elim)).trans (hA ▸ f5)
      have ends : ∀ {ρ6 : Env} {k2 x2 : List D}, Out C { B with px := q ++ B.px, T := (Dd, .dct ks xs) :: B.T } E0 (dcL gg gt gk ge vs (ds.drop (i + 1)) ρ6 k2 x2) (fun t => t = s) → (∀ c fs ys, dcL gg gt gk ge vs (ds.drop (i + 1)) ρ6 k2 x2 ≠ .er c fs ys) → dcL gg gt gk ge vs (ds.drop (i + 1)) ρ6 k2 x2 = .ok s := by
        intro ρ6 k2 x2 h hne
        cases hz : dcL gg gt gk ge vs (ds.drop (i + 1)) ρ6 k2 x2 with
        | ok a => rw [hz] at h; rw [show a = s from h]
        | er => exact absurd hz (hne _ _ _)
        | st => rw [hz] at h; exact h.elim
      have ne : ∀ (l : List D) (ρ6 : Env) (k2 x2 : List D) c fs ys, dcL gg gt gk ge vs l ρ6 k2 x2 ≠ .er c fs ys := by
        intro l
        induction l with
        | nil => exact fun _ _ _ _ _ _ z => nomatch z
        | cons d l ih =>
          intro ρ6 k2 x2 c fs ys
          unfold dcL
          refine bind_ne noE_ne fun _ => bind_ne noE_ne fun r => ?_
          split
          · refine bind_ne noE_ne fun _ => bind_ne ofO_ne fun _ => bind_ne noE_ne fun t => ?_
            split
            · split
              · exact ih _ _ _ _ _ _
              · exact fun z => nomatch z
            · exact fun z => nomatch z
          · exact ih _ _ _ _ _ _
      cases k with
      | false =>
        rw [if_neg Bool.false_ne_true]
        rw [if_neg Bool.false_ne_true] at oL
        exact ⟨wipeR ρ5 vs, ks, xs, by omega, hw ▸ en5.wipe how, g5, ends oL (ne _ _ _ _)⟩
      | true =>
        rw [if_pos rfl]
        rw [if_pos rfl] at oL
        refine ⟨_, ρ5, en5, (Out.noE (Out.bind oL)).mono fun t _ oL y H6 f6 en6 r6 => ?_⟩
        obtain ⟨w, ρ6⟩ := t
        obtain ⟨ky, hky, oL⟩ := (Out.bind oL).ofO
        refine ⟨_, ρ6, en6, (Out.noE (Out.bind oL)).mono fun u _ oL z H7 f7 en7 r7 => ?_⟩
        obtain ⟨w2, ρ7⟩ := u
        cases w2 with
        | o k => exact oL.elim
        | d yd =>
          dsimp only at oL
          by_cases hl : ks.length < big
          case neg => rw [if_neg hl] at oL; exact oL.elim
          rw [if_pos hl] at oL
          have oF := ends oL (ne _ _ _ _)
          clear oL
          cases w with
          | o k => cases hky
          | d yk =>
          have hy2 : y = kV ky := keyOf_rt hky (.inl r6)
          obtain ⟨_, _, oD⟩ := en7.tmp Dd (.dct ks xs) List.mem_cons_self
          cases oD with
          | @dct kvs _ _ eD hks rD =>
            subst hks
            obtain ⟨p1, p2⟩ := putD_rp (y := ky) (show Rp C _ H7 z yd from r7) rD
            have fz : Ex (fun b => b = Dd) H7 (upd H7 Dd (.dK (putK kvs ky z))) := Ex.put rfl eD fun xs => (fun z => nomatch z)
            refine ⟨kvs, ky, hy2, eD, by rw [List.length_map] at hl; exact Nat.lt_of_lt_of_le hl (by decide), wipeR ρ7 vs, (putD (kvs.map fun p => kD p.1) xs ky yd).1, (putD (kvs.map fun p => kD p.1) xs ky yd).2, by omega, ?_, ?_, oF⟩
            · rw [← hw]
              refine (En.tput (B := { B with px := q ++ B.px }) en7 fz (.dct upd_same p1 ?_)).wipe how
              exact RpL.keep fz (fun b z => by subst z; exact .inr (.inr ⟨_, List.mem_cons_self⟩)) p2
            · exact ((g5.trans (hA ▸ f6)).trans (hA ▸ f7)).fresh (N := fun b => b = Dd) fz fun x z => .inr (by rw [z]; exact hD)
end
end VL
namespace VL
open PySem PySem.Spec PyProof.Rows L2
section
variable {X : Cx} {C : Cf} {io : Bool} {E : XK} {ow ow1 owL : List Nat} {st : Stmt} {s1 : GS}
/-- the open slots behind a statement, as they are written -/
theorem vs_ow {ow2 : List Nat} (h : PS X st (tS C io E ow ow1 owL s1)) (e : ow1 = ow2 := by decide) : PS X st (tS C io E ow ow2 owL s1) := e ▸ h
/-- a def as a term of calls -/
theorem Cal.mk' {P : Program} {w : World} {K : PySem.W.Frag} {mg : Str → Option Value} {base : Heap} {x : Str} {k : Nat} {ps : List Str} {sp : Sp} {f : Addr} {fd : FuncData} (F : FnOk P w K mg base (L2.CX P w) k f fd ps sp) (m : mg x = some (.ref f)) (n : PySem.W.keepIn K (.ref f) = true) (b : Binds K fd ps []) :
    LT.Cal P w K mg base (L2.CX P w) x k ps sp := ⟨f, fd, F, m, n, b⟩
end
/-- one own class's method, property -/
structure MethOk (P : Program) (w : World) (K : PySem.W.Frag) (mg : Str → Option Value) (base : Heap) (c m : Str) (k n : Nat) (F : List D → Res D) : Prop where
  ex : ∃ cl fa fd ps, mg c = some (.ref cl) ∧ Cls K cl ∧ Meth K cl m fa ∧ FnOk P w K mg base (L2.CX P w) k fa fd ps (spD ⟨K, mg⟩ n F) ∧ Binds K fd ps []
structure PropOk (P : Program) (w : World) (K : PySem.W.Frag) (mg : Str → Option Value) (base : Heap) (c m : Str) (k : Nat) (F : List D → Res D) : Prop where
  ex : ∃ cl pa fa fd ps, mg c = some (.ref cl) ∧ Cls K cl ∧ L2.PropOf K cl m pa fa ∧ FnOk P w K mg base (L2.CX P w) k fa fd ps (spD ⟨K, mg⟩ 1 F) ∧ Binds K fd ps []
structure MakeOk (P : Program) (w : World) (K : PySem.W.Frag) (mg : Str → Option Value) (base : Heap) (c : Str) (k n : Nat) (F : List D → Res (D × D)) : Prop where
  ex : ∃ cl fa fd ps, mg c = some (.ref cl) ∧ Mk K cl fa ∧ FnOk P w K mg base (L2.CX P w) k fa fd ps (spI ⟨K, mg⟩ n F) ∧ Binds K fd ps []
section
variable {X : Cx} {C : Cf} {io : Bool} {E : XK} {ow : List Nat} {e o : Expr} {es : List Expr} {pos p : Pos} {ga : G} {gr : GA} {c m : Str} {n j k : Nat}
theorem ve_methM {F : List D → Res D} {apos : Pos} {pl : Sem Bool} (M : MethOk X.prog X.w X.K X.mg X.base c m k n F) (hC : C = ⟨X.K, X.mg⟩) (hr : Room j X.A) (hx : Passes (L2.CX X.prog X.w) X E)
    (he : PE X o (tV C io E ow ga)) (ha : PA X (e :: es) (tA C io E ow gr)) (hj : k ≤ j := by decide) (hst : starEach (e :: es) X.env = (false, eval e X.env) :: starEach es X.env := by rfl) (hpl : (backTo pos (starEach es X.env)).any (·.1) = false := by rfl)
    (ht : eval (.Call (.Attribute o m apos) (e :: es) [] pos) X.env = (do
      let ov ← eval o X.env
      standAt apos.atName
      let (f, first) ← holding [ov] (getMethod ov m pl)
      callWith pos f first (backTo pos (starEach (e :: es) X.env)) (backToKw pos (keywordEach [] X.env))) := by rfl) : PE X (.Call (.Attribute o m apos) (e :: es) [] pos) (tV C io E ow (gMeth c n F m ga gr)) := by
  subst hC
  obtain ⟨cl, fa, fd, ps, h1, h2, h3, h4, h5⟩ := M.ex
  exact ve_meth rfl h1 h2 h3 h4 hr h5 hx he ha hj hst hpl ht
theorem ve_propP {F : List D → Res D} (M : PropOk X.prog X.w X.K X.mg X.base c m k F) (hC : C = ⟨X.K, X.mg⟩) (hr : Room j X.A) (he : PE X e (tV C io E ow ga)) (hj : k + 1 ≤ j := by decide) (hab : attributeBase e m X.env (eval e X.env) = eval e X.env := by rfl) : PE X (.Attribute e m pos) (tV C io E ow (gProp c F ga)) := by
  subst hC
  obtain ⟨cl, pa, fa, fd, ps, h1, h2, h3, h4, h5⟩ := M.ex
  exact ve_prop rfl h1 h2 h3 h4 hr h5 he hj hab
theorem vf_makeM {F : List D → Res (D × D)} (M : MakeOk X.prog X.w X.K X.mg X.base c k n F) (hC : C = ⟨X.K, X.mg⟩) (hr : Room j X.A) (hg : Gl X c) (hx : Passes (L2.CX X.prog X.w) X E)
    (ha : PA X (e :: es) (tA C io E ow gr)) (hj : k + 1 ≤ j := by decide) (hdb : (c == ("__debug__" : Str)) = false := by decide) (he : starEach (e :: es) X.env = (false, eval e X.env) :: starEach es X.env := by rfl) (hpl : (backTo pos (starEach es X.env)).any (·.1) = false := by rfl) : PE X (.Call (.Name c p) (e :: es) [] pos) (tF C io E ow (gMake c n F gr)) := by
  subst hC
  obtain ⟨cl, fa, fd, ps, h1, h3, h4, h5⟩ := M.ex
  exact vf_make rfl h1 h3 h4 hr hg h5 hx ha hj hdb he hpl
/-- an own class as a value -/
theorem ve_cls {u : Value} (h : PE X e (tC (.ref j))) (hm : C.mg c = some (.ref j)) : PE X e (tV C io E ow (gC (.cls c))) := ve_c h fun _ _ => .cls hm
end
section
variable {X : Cx} {C : Cf} {io : Bool} {E : XK} {ow : List Nat} {e : Expr} {ga : G}
/-- a tuple, a list, a text walked -/
def itA : D → Option (List D)
  | .tup ds => some ds
  | .lst ds => some ds
  | .str x => if x.length ≤ sizeLine then some (x.cps.toList.map fun c => D.str ⟨#[c]⟩) else none
  | _ => none
def gItA (ga : G) : GI := fun ρ => (ga ρ).bind fun r => match r.1 with
  | .d d => (ofO (itA d)).bind fun ds => .ok (ds, r.2)
  | .o _ => .st
theorem vi_any {tg : Expr} (hC : C.K = X.K) (he : PE X e (tV C io E ow ga)) : PI X tg e (tI C io E ow (gItA ga)) :=
  PI.imp (PI.or (vi_seq (tg := tg) hC he) (vi_str (tg := tg) he)) fun σ H R ⟨B, ρ, en, o⟩ => by
    have o' := Out.bind o
    cases hg : ga ρ with
    | st => rw [hg] at o'; exact o'.elim
    | er c fs vs =>
      rw [hg] at o'
      refine .inl ⟨B, ρ, en, ?_⟩
      unfold gIt
      rw [hg]
      exact o'
    | ok r =>
      rw [hg] at o'
      obtain ⟨w, ρ'⟩ := r
      cases w with
      | o k => exact o'.elim
      | d d =>
        obtain ⟨ds, hds, o2⟩ := (Out.bind (show Out C B E ((ofO (itA d)).bind fun ds => .ok (ds, ρ')) _ from o')).ofO
        cases d with
        | tup ds' =>
          cases hds
          refine .inl ⟨B, ρ, en, ?_⟩
          unfold gIt
          rw [hg]
          exact o2
        | lst ds' =>
          cases hds
          refine .inl ⟨B, ρ, en, ?_⟩
          unfold gIt
          rw [hg]
          exact o2
        | str x =>
          unfold itA at hds
          dsimp only at hds
          split at hds
          · rename_i hx
            cases hds
            refine .inr ⟨B, ρ, en, ?_⟩
            unfold gItS
            rw [hg]
            show Out C B E (if x.length ≤ sizeLine then _ else _) _
            rw [if_pos hx]
            exact o2
          · cases hds
        | _ => cases hds
theorem ve_const {x : Str} {i : Int} {pos : Pos} (h : ∃ t, X.mg x = some (.int i t)) (hg : Gl X x) (hd : (x == ("__debug__" : Str)) = false := by decide) : PE X (.Name x pos) (tV C io E ow (gC (.int i))) := by
  obtain ⟨t, h⟩ := h
  exact ve_int (pe_glob (v := .int i) hg h ⟨t, rfl⟩ hd)
end
end VL
namespace VL
open PySem PySem.Spec PyProof.Rows L2
section
variable {X : Cx} {C : Cf} {io : Bool} {E : XK} {ow : List Nat} {a : Expr} {pos p p2 pos2 : Pos} {ga : G}
/-! ## tuple(range(n)), list(range(n)) -/
def rgT : D → Option D
  | .int n => if -1000000000 ≤ n ∧ n ≤ 1000000 then some (.tup (rngL 0 n.toNat)) else none
  | _ => none
def rgF : D → Option D
  | .int n => if -1000000000 ≤ n ∧ n ≤ 1000000 then some (.lst (rngL 0 n.toNat)) else none
  | _ => none
theorem rg_rp {O : Hs} {H : Hp} (n : Int) : RpL C O H (rgV 0 n) (rngL 0 n.toNat) := by
  unfold rgV rngL
  rw [Int.sub_zero]
  generalize List.range n.toNat = l
  induction l with
  | nil => exact .nil
  | cons i l ih => exact .cons (.int _) ih
theorem ve_tupRg (hc : X.calm = true) (hg : Gl X "tuple") (hm : X.mg "tuple" = none) (hg2 : Gl X "range") (hm2 : X.mg "range" = none) (he : PE X a (tV C io E ow ga)) (na : starEach [a] X.env = (false, eval a X.env) :: starEach [] X.env := by rfl)
    (nb : starEach [.Call (.Name "range" p2) [a] [] pos2] X.env = (false, eval (.Call (.Name "range" p2) [a] [] pos2) X.env) :: starEach [] X.env := by rfl) : PE X (.Call (.Name "tuple" p) [.Call (.Name "range" p2) [a] [] pos2] [] pos) (tV C io E ow (gUn rgT ga)) :=
  PE.imp (pe_tupRg hc hg hm (prg_1 hg2 hm2 he na) nb) fun σ H Q ⟨B, ρ, en, h⟩ => ⟨B, ρ, en, (un_out h).mono fun r _ h v H1 f1 en1 r1 => by
    obtain ⟨d, hd, z, hz, hh⟩ := h.rs
    unfold rgT at hz
    split at hz
    · split at hz
      · rename_i n hn
        cases hz
        refine ⟨n, (r1.rt en1 hd).int, ⟨by decide, by decide, by omega, by omega, by omega⟩, fun q hq => ?_⟩
        exact hh _ _ (f1.trans (Ex.new hq)) (en1.grow (Ex.new hq)) (.tup (.inl upd_same) ((rg_rp n).keep (Ex.new (M := Nil) hq) fun _ z => z.elim))
      · cases hz
    · cases hz⟩
theorem vf_listRg (hc : X.calm = true) (hg : Gl X "list") (hm : X.mg "list" = none) (hg2 : Gl X "range") (hm2 : X.mg "range" = none) (he : PE X a (tV C io E ow ga)) (na : starEach [a] X.env = (false, eval a X.env) :: starEach [] X.env := by rfl)
    (nb : starEach [.Call (.Name "range" p2) [a] [] pos2] X.env = (false, eval (.Call (.Name "range" p2) [a] [] pos2) X.env) :: starEach [] X.env := by rfl) : PE X (.Call (.Name "list" p) [.Call (.Name "range" p2) [a] [] pos2] [] pos) (tF C io E ow (gUnF rgF ga)) :=
  PE.imp (pe_listRg hc hg hm (prg_1 hg2 hm2 he na) nb) fun σ H Q ⟨B, ρ, en, h⟩ => ⟨B, ρ, en, (Out.bind h).mono fun r _ h v H1 f1 en1 r1 => by
    obtain ⟨d, hd, h⟩ := (Out.bind h).rs
    obtain ⟨z, hz, hh⟩ := (Out.bind h).ofO
    unfold rgF at hz
    split at hz
    · split at hz
      · rename_i n hn
        cases hz
        refine ⟨n, (r1.rt en1 hd).int, ⟨by decide, by decide, by omega, by omega, by omega⟩, fun q hq => ?_⟩
        exact hh _ _ (f1.trans (Ex.new hq)) (en1.new hq (Ex.new hq) (.lst upd_same (rp_new hq (rg_rp n))))
      · cases hz
    · cases hz⟩
/-! ## len(set(t)), t a tuple of ints -/
def ded : List Int → List Int
  | [] => []
  | x :: xs => if x ∈ xs then ded xs else x :: ded xs
theorem mem_ded {y : Int} : ∀ {xs : List Int}, y ∈ ded xs ↔ y ∈ xs
  | [] => Iff.rfl
  | x :: xs => by
    unfold ded
    split
    · rename_i h
      rw [mem_ded, List.mem_cons]
      exact ⟨.inr, fun z => z.elim (fun z => z ▸ h) id⟩
    · rw [List.mem_cons, List.mem_cons, mem_ded]
theorem nodup_ded : ∀ xs : List Int, (ded xs).Nodup
  | [] => List.nodup_nil
  | x :: xs => by
    unfold ded
    split
    · exact nodup_ded xs
    · rename_i h
      exact List.nodup_cons.mpr ⟨fun z => h (mem_ded.mp z), nodup_ded xs⟩
theorem nodup_len {a b : List Int} (ha : a.Nodup) (hb : b.Nodup) (h : ∀ x, x ∈ a ↔ x ∈ b) : a.length = b.length := ((List.perm_ext_iff_of_nodup ha hb).mpr h).length_eq
def lsD : D → Option D
  | .tup ds => (intsD ds).bind fun ns => if ns.length ≤ 4000 then some (.int ((ded ns).length : Nat)) else none
  | _ => none
def tLenSetT (K : PySem.W.Frag) (te : TE) : TE := fun σ H Q => te σ H fun x H1 => ∃ (l : Addr) (ns : List Int), x = V.ref l ∧ SqT K H1 l (ns.map V.int) ∧ ns.length ≤ 4000 ∧ Q (.int ((ded ns).length : Nat)) H1
theorem pe_lenSetT {te : TE} (hc : X.calm = true) (hg : Gl X "len") (hm : X.mg "len" = none) (hg2 : Gl X "set") (hm2 : X.mg "set" = none) (ha : PE X a te)
    (na : starEach [a] X.env = (false, eval a X.env) :: starEach [] X.env := by rfl) : PE X (.Call (.Name "len" p) [.Call (.Name "set" p2) [a] [] pos2] [] pos) (tLenSetT X.K te) := by
  constructor
  intro pins s σ H Q I h
  refine Call_ (ld_blt I hg hm PySem.boot_len ?_)
  refine PyProof.Rows.callWith_builtin1 (PyProof.Rows.args_cons ?_ rfl) rfl rfl
  refine Call_ (ld_blt I hg2 hm2 PyProof.Rows.boot_set ?_)
  refine PyProof.Rows.callWith_type1 (PyProof.Rows.args_cons (thn (ha.run pins s σ H _ I h) ?_) na) na rfl
  rintro v s1 ⟨x, H1, I1, r1, l, ns, rfl, hq, hn, q1⟩
  apply PyProof.Rows.args_nil
  cases r1
  obtain ⟨its, r, pl, hz⟩ := I1.tuple hq
  refine call_set_tupI ns (I1.ok.hd hc) (show s1.heap.IsTuple l its.toArray from pl) (by simpa using r.ints) (by unfold scanBound; omega) ?_
  intro h' tk c hS hcl hk
  apply PyProof.Rows.args_nil
  obtain ⟨ob, es, ep, t, ho, hex, hd, _, nd, mem, hsz, hf, hn2, _⟩ := hS
  have hcount : c = (ded ns).length := by
    rw [← hn2, ← Array.length_toList, ← List.length_map (f := L2.keyOf)]
    refine nodup_len nd (nodup_ded ns) fun k => ?_
    rw [← mem k, mem_ded]
    exact decide_eq_true_iff
  have I2 : Inv X pins σ H1 { s1 with heap := h', toks := tk } := I1.kept hk
  exact call_len_set ho hex hd hf (by rw [hn2]; omega) ⟨.int ((ded ns).length : Nat), H1, I2.tok _, ⟨_, by rw [hn2, hcount]⟩, q1⟩
theorem ve_lenSet (hC : C.K = X.K) (hc : X.calm = true) (hg : Gl X "len") (hm : X.mg "len" = none) (hg2 : Gl X "set") (hm2 : X.mg "set" = none) (he : PE X a (tV C io E ow ga)) (na : starEach [a] X.env = (false, eval a X.env) :: starEach [] X.env := by rfl) :
    PE X (.Call (.Name "len" p) [.Call (.Name "set" p2) [a] [] pos2] [] pos) (tV C io E ow (gUn lsD ga)) :=
  PE.imp (pe_lenSetT hc hg hm hg2 hm2 he na) fun σ H Q ⟨B, ρ, en, h⟩ => ⟨B, ρ, en, (un_out h).mono fun r _ h v H1 f1 en1 r1 => by
    obtain ⟨d, hd, z, hz, hh⟩ := h.rs
    unfold lsD at hz
    split at hz
    · obtain ⟨ns, hns, hz⟩ := Option.bind_eq_some_iff.mp hz
      split at hz
      · rename_i hl
        cases hz
        cases ints_eq hns
        obtain ⟨l, xs, rfl, e, rr⟩ := (r1.rt en1 hd).tup
        rw [rp_ints rr] at e
        exact ⟨l, ns, rfl, hC ▸ e.sqt, hl, hh _ H1 f1 en1 (.int _)⟩
      · cases hz
    · cases hz⟩
end
end VL
namespace VL
open PySem PySem.Spec PyProof.Rows L2
section
variable {X : Cx} {C : Cf} {io : Bool} {E : XK} {ow : List Nat} {a : Expr} {pos p p2 pos2 : Pos} {ga : G}
/-! ## {k: v, ..} -/
def pairsG : List (G × G) → Env → Res (List (Key × D) × Env)
  | [], ρ => .ok ([], ρ)
  | (gk, gv) :: r, ρ => (gk ρ).bind fun a => (ofO (keyW a.1)).bind fun k => (gv a.2).bind fun b => match b.1 with
    | .d d => (pairsG r b.2).bind fun t => .ok ((k, d) :: t.1, t.2)
    | .o _ => .st
def putP (acc : List D × List D) (kv : Key × D) : List D × List D := putD acc.1 acc.2 kv.1 kv.2
def gDisp (gs : List (G × G)) : GF := fun ρ => (pairsG gs ρ).bind fun t => if t.1.length ≤ 15 then .ok (.dct (t.1.foldl putP ([], [])).1 (t.1.foldl putP ([], [])).2, t.2) else .st
def trsG (C : Cf) (io : Bool) (E : XK) (ow : List Nat) (gs : List (G × G)) : List (TE × TE) := gs.map fun p => (tV C io E ow p.1, tV C io E ow p.2)
theorem vps_nil : PPs X pos [] [] (trsG C io E ow []) := pps_nil
theorem vps_cons {k v : Expr} {ks : List (Option Expr)} {vs : List Expr} {gk gv : G} {gs : List (G × G)} (hk : PE X k (tV C io E ow gk)) (hv : PE X v (tV C io E ow gv)) (hr : PPs X pos ks vs (trsG C io E ow gs)) : PPs X pos (some k :: ks) (v :: vs) (trsG C io E ow ((gk, gv) :: gs)) := pps_cons hk hv hr
theorem pairs_core {σ : L2.St} : ∀ (gs : List (G × G)) {B : Bs} {ρ : Env} {H : Hp} {R : List (V × V) → Hp → Prop}, En C io B ow H σ ρ → Out C B E (pairsG gs ρ) (fun t => ∀ (kvs : List (Key × V)) H', Ex (ownA ow σ) H H' → En C io B ow H' σ t.2 → kvs.map (·.1) = t.1.map (·.1) → RpL C (Opn B ow σ) H' (kvs.map (·.2)) (t.1.map (·.2)) → R (kvs.map fun kv => (kV kv.1, kv.2)) H') → tPairs (trsG C io E ow gs) σ H R
  | [], B, ρ, H, R, en, h => h [] H Ex.refl en rfl .nil
  | (gk, gv) :: gs, B, ρ, H, R, en, h => by
    refine ⟨B, ρ, en, (Out.bind h).mono fun r _ h y H1 f1 en1 r1 => ?_⟩
    obtain ⟨w, ρ1⟩ := r
    obtain ⟨ky, hky, h⟩ := (Out.bind h).ofO
    cases w with
    | o k => cases hky
    | d yk =>
    have hy : y = kV ky := keyOf_rt hky (.inl r1)
    subst hy
    refine ⟨B, ρ1, en1, (Out.bind h).mono fun r _ h v H2 f2 en2 r2 => ?_⟩
    obtain ⟨w, ρ2⟩ := r
    cases w with
    | o k => exact h.elim
    | d d =>
    refine pairs_core gs (B := { B with px := [(v, d)] ++ B.px }) (hold1 en2 r2) ((Out.bind (show Out C { B with px := [(v, d)] ++ B.px } E ((pairsG gs ρ2).bind _) _ from h)).mono fun t _ h kvs H3 f3 en3 e1 e2 => ?_)
    have rv : Rp C (Opn B ow σ) H3 v d := en3.pin (v, d) (List.mem_append_left _ List.mem_cons_self)
    exact h ((ky, v) :: kvs) H3 ((f1.trans f2).trans f3) en3.unhold (by rw [List.map_cons, List.map_cons, e1]) (.cons rv e2)
theorem merge_rp {O : Hs} {H : Hp} : ∀ (kvs acc : List (Key × V)) (l : List (Key × D)) (ks vs : List D), kvs.map (·.1) = l.map (·.1) → RpL C O H (kvs.map (·.2)) (l.map (·.2)) → ks = acc.map (fun p => kD p.1) → RpL C O H (acc.map (·.2)) vs →
    (l.foldl putP (ks, vs)).1 = (mergeK acc kvs).map (fun p => kD p.1) ∧ RpL C O H ((mergeK acc kvs).map (·.2)) (l.foldl putP (ks, vs)).2
  | [], acc, [], ks, vs, _, _, h1, h2 => ⟨h1, h2⟩
  | [], _, _ :: _, _, _, h, _, _, _ => by cases h
  | _ :: _, _, [], _, _, h, _, _, _ => by cases h
  | (k, v) :: kvs, acc, (k', d) :: l, ks, vs, h, .cons a b, h1, h2 => by
    rw [List.map_cons, List.map_cons] at h
    obtain ⟨e1, e2⟩ := List.cons.inj h
    have e1 : k = k' := e1
    subst e1 h1
    obtain ⟨p1, p2⟩ := putD_rp (y := k) a h2
    exact merge_rp kvs (putK acc k v) l _ _ e2 b p1 p2
theorem vf_disp {keys : List (Option Expr)} {values : List Expr} {gs : List (G × G)} (h : PPs X pos keys values (trsG C io E ow gs)) (hall : keys.all (·.isSome) = true := by rfl) (hl : keys.length = values.length := by rfl) (h0 : keys ≠ [] := by exact fun z => nomatch z) (h15 : keys.length ≤ 15 := by decide) :
    PE X (.Dict keys values pos) (tF C io E ow (gDisp gs)) :=
  PE.imp (pe_disp h hall hl h0 h15) fun σ H Q ⟨B, ρ, en, o⟩ => by
    intro q hq
    have e1 := en.new hq (Ex.new hq) (Own.dct (C := C) (upd_same (o := .dK [])) rfl .nil)
    refine pairs_core gs (B := { B with T := (q, .dct [] []) :: B.T }) e1 ((Out.bind (show Out C { B with T := (q, .dct [] []) :: B.T } E ((pairsG gs ρ).bind _) _ from o)).mono fun t _ o kvs H2 f2 en2 k1 k2 => ?_)
    split at o
    · rename_i hl
      obtain ⟨_, _, oD⟩ := en2.tmp q (.dct [] []) List.mem_cons_self
      cases oD with
      | @dct kvs0 _ _ eD hks rD =>
        have hn : kvs0 = [] := by
          cases kvs0 with
          | nil => rfl
          | cons => cases hks
        subst hn
        have hlen : kvs.length = t.1.length := by
          have := congrArg List.length k1
          simpa using this
        obtain ⟨p1, p2⟩ := merge_rp kvs [] t.1 [] [] k1 k2 rfl .nil
        have fz : Ex (fun b => b = q) H2 (upd H2 q (.dK (mergeK [] kvs))) := Ex.put rfl eD fun xs => (fun z => nomatch z)
        refine ⟨eD, kvs, rfl, by omega, o q _ ?_ (En.tput en2 fz (.dct upd_same p1 (RpL.keep fz (fun b z => by subst z; exact .inr (.inr ⟨_, List.mem_cons_self⟩)) p2)))⟩
        exact (((Ex.new hq : Ex (ownA ow σ) H _).trans f2)).fresh (N := fun b => b = q) fz fun x z => .inr (by rw [z]; exact hq)
    · exact o.elim
end
end VL
namespace VL
open PySem PySem.Spec PyProof.Rows L2
section
variable {P : Program} {w : World} {K : PySem.W.Frag} {mg : Str → Option Value} {base : Heap}
theorem okID {x qual : Str} {params : Arguments} {body : List Stmt} {scope : Scope} {dvs : List V} {kws : List (Str × V)} {f : Addr} {fd : FuncData} {N ps : List Str} {k n m : Nat} {ow : List Nat} {g : GS} {Fd : List D → Res (D × D)} (hF : Fd = runI m g) (F : FunD K x qual params body scope dvs kws f fd) (S : FnScope N ps scope) (hN : N.length = m) (hn : ps.length = n) (hio : 0 ∈ ow)
    (hb : ∀ (cdv : Value) (A : Around) (outer : List PySem.Env) (s : Shared) (H : Hp) (E : XK), Room k (A.deeper (envOfC qual scope s.heap.objs.size f cdv)) → PSs (cxOf (L2.CX P w) P w K mg base N qual scope f cdv A outer s H E) body (tS ⟨K, mg⟩ true E [0] ow [0] g)) :
    FnOk P w K mg base (L2.CX P w) (k + 1) f fd ps (spI ⟨K, mg⟩ n Fd) := by
  subst hF hN
  exact F.ok S (fun vs H Q E h => (len_spI vs H Q E h).trans hn.symm) fun cdv A outer s H vs Q E hr h => ⟨_, hb cdv A outer s H E hr, fin_I hio h⟩
theorem bindsAll {x qual : Str} {params : Arguments} {body : List Stmt} {scope : Scope} {dvs : List V} {f : Addr} {fd : FuncData} {ps : List Str} (F : FunD K x qual params body scope dvs [] f fd) (hd : dvs ≠ [])
    (h : ∀ (T : Addr) (kV doc pm : Value) (an : Option Addr) (cdv ct : Value) (us its : List Value), us.length = ps.length → its.length = dvs.length →
      ∃ k, bindArgs (PySem.W.fnOf x qual params body scope (.ref T) kV doc pm an cdv ct) ⟨us, []⟩ = seqItems? (.ref T) >>= k ∧ k (some its.toArray) = pure (ps.zip us)) : Binds K fd ps [] := by
  obtain ⟨ds, r, b⟩ := F.binds1 (ps := ps) ps.length dvs.length hd (by omega) fun T kV doc pm an cdv ct us its h1 h2 => by
    obtain ⟨k, e1, e2⟩ := h T kV doc pm an cdv ct us its h1 h2
    refine ⟨k, e1, ?_⟩
    rw [e2, ← h2, List.drop_length, List.append_nil]
  rw [List.drop_length] at r
  cases r
  exact b
end
section
variable {K : PySem.W.Frag} {mg : Str → Option Value}
/-- what is asked of an own class (no error), fs its instances' attributes -/
def suB (K : PySem.W.Frag) (C : Addr) (fs : List Str) : Bool := PySem.W.plainGet K C Str.empty && (PySem.W.hasDictIn K C && (PySem.W.plainOver K C && (decide (PySem.W.findIn K (.ref C) "__setattr__" = some (some (.builtin "object.__setattr__"))) &&
  (tys.all (fun n => decide (PySem.W.kitOne K (.ref C) (.type n) = some false)) && (("NoneType" :: tys).all (fun n => decide (PySem.W.kitOne K (.type n) (.ref C) = some false)) && (decide (PySem.W.findIn K (.ref C) "__class__" = some (some (.builtin "object.__class__"))) &&
  (decide (PySem.W.specialIn K (.builtin "object.__class__") "__get__" = some (some (.builtin "getset_descriptor.__get__"))) && (decide (PySem.W.takesIn K (.builtin "object.__class__") = some true) && (decide (PySem.W.mroIn K C (.type "object") = some true) && (decide (PySem.W.kitOne K (.ref C) (.ref C) = some true) &&
  fs.all (fun f => decide (PySem.W.findIn K (.ref C) f = some none))))))))))))
theorem suB_ok {c : Str} {C : Addr} {fs : List Str} (hm : mg c = some (.ref C)) (h : suB K C fs = true) : Kc ⟨K, mg⟩ [c] ∧ ∀ f, f ∈ fs → FldOk ⟨K, mg⟩ c f := by
  obtain ⟨h1, h⟩ := Bool.and_eq_true_iff.mp h
  obtain ⟨h2, h⟩ := Bool.and_eq_true_iff.mp h
  obtain ⟨h3, h⟩ := Bool.and_eq_true_iff.mp h
  obtain ⟨h4, h⟩ := Bool.and_eq_true_iff.mp h
  obtain ⟨h5, h⟩ := Bool.and_eq_true_iff.mp h
  obtain ⟨h6, h⟩ := Bool.and_eq_true_iff.mp h
  obtain ⟨h7, h⟩ := Bool.and_eq_true_iff.mp h
  obtain ⟨h8, h⟩ := Bool.and_eq_true_iff.mp h
  obtain ⟨h9, h⟩ := Bool.and_eq_true_iff.mp h
  obtain ⟨h10, h⟩ := Bool.and_eq_true_iff.mp h
  obtain ⟨h11, h12⟩ := Bool.and_eq_true_iff.mp h
  have only : ∀ c' cl, c' ∈ [c] → mg c' = some (.ref cl) → c' = c ∧ cl = C := by
    intro c' cl hc' hcl
    have e := List.mem_singleton.mp hc'
    subst e
    rw [hm] at hcl
    cases hcl
    exact ⟨rfl, rfl⟩
  have kc : Cls K C := ⟨h1, h2, h3, of_decide_eq_true h4⟩
  refine ⟨⟨fun c' cl a b => ?_, fun c' cl n a b hn => ?_, fun c' cl n a b hn => ?_, fun c' cl a b => ?_, fun c1 cl1 c2 cl2 a1 a2 b1 b2 => ?_⟩, fun f hf cl hcl => ?_⟩
  · rw [(only c' cl a b).2]; exact kc
  · rw [(only c' cl a b).2]; exact of_decide_eq_true (List.all_eq_true.mp h5 n hn)
  · rw [(only c' cl a b).2]; exact of_decide_eq_true (List.all_eq_true.mp h6 n hn)
  · rw [(only c' cl a b).2]; exact ⟨of_decide_eq_true h7, of_decide_eq_true h8, of_decide_eq_true h9, of_decide_eq_true h10⟩
  · obtain ⟨e1, e2⟩ := only c1 cl1 a1 b1
    obtain ⟨e3, e4⟩ := only c2 cl2 a2 b2
    rw [e2, e4, e1, e3, decide_eq_true rfl]
    exact of_decide_eq_true h11
  · rw [(only c cl (List.mem_singleton.mpr rfl) hcl).2]
    exact ⟨kc, show PySem.W.findIn K (.ref C) f = some none from of_decide_eq_true (List.all_eq_true.mp h12 f hf)⟩
theorem suB_cls {C : Addr} {fs : List Str} (h : suB K C fs = true) : Cls K C := by
  obtain ⟨h1, h⟩ := Bool.and_eq_true_iff.mp h
  obtain ⟨h2, h⟩ := Bool.and_eq_true_iff.mp h
  obtain ⟨h3, h⟩ := Bool.and_eq_true_iff.mp h
  obtain ⟨h4, h⟩ := Bool.and_eq_true_iff.mp h
  exact ⟨h1, h2, h3, of_decide_eq_true h4⟩
/-- a property's own facts -/
def prB (K : PySem.W.Frag) (p : Addr) : Bool := decide (PySem.W.specialIn K (.ref p) "__get__" = some (some (.builtin "property.__get__"))) && decide (PySem.W.takesIn K (.ref p) = some true)
theorem prB_ok {C p g : Addr} {f : Str} {rest : List Value} (h1 : PySem.W.findIn K (.ref C) f = some (some (.ref p))) (h2 : prB K p = true) (h3 : PySem.W.recIn K p "property" = some (.ref g :: rest)) : L2.PropOf K C f p g := by
  obtain ⟨a, b⟩ := Bool.and_eq_true_iff.mp h2
  exact ⟨h1, of_decide_eq_true a, of_decide_eq_true b, rest, h3⟩
end
/-- the law's promise, as the ends want it -/
def spLaw (K : PySem.W.Frag) : Sp := fun vs H Q _ => ∃ (a : Addr) (ns : List Int), vs = [.ref a] ∧ SqL K H a (ns.map V.int) ∧ ns.length ≤ 63 ∧ ∀ H', Q (.bl true) H'
theorem noErr {P : Program} {w : World} {outer : List PySem.Env} {H : Hp} {s s' : Shared} {e : Value} (h : L2.CX P w outer H s E0 e s') : False := by
  obtain ⟨_, _, _, _, _, _, _, _, _, _, _, _, z⟩ := h
  exact z
theorem law_end {P : Program} {w : World} {K : PySem.W.Frag} {mg : Str → Option Value} {base : Heap} {k : Nat} {f : Addr} {fd : FuncData} {F : List D → Res D} (F0 : FnOk P w K mg base (L2.CX P w) k f fd ["_law_script"] (spD ⟨K, mg⟩ 1 F)) (hm : ∀ ns : List Int, ns.length ≤ 63 → F [.frl (ns.map .int)] = .ok (.bl true)) :
    FnOk P w K mg base CX0 k f fd ["_law_script"] (spLaw K) := by
  have F1 : FnOk P w K mg base (L2.CX P w) k f fd ["_law_script"] (spLaw K) := F0.imp fun vs H Q E ⟨a, ns, e, hS, hl, q⟩ => by
    refine ⟨fun _ => False, [.frl (ns.map .int)], by rw [e]; rfl, fun _ z => z.elim, ?_, ?_⟩
    · rw [e]
      refine .cons (.frl (hS.imp (fun h => ⟨fun z => z, h⟩) id) ?_) .nil
      exact ints_rp ns
    · rw [hm ns hl]
      intro v H' _ r
      cases r
      exact q H'
  refine ⟨fun vs H Q E ⟨a, ns, e, _⟩ => by rw [e]; rfl, fun A outer s H args us vs Q E hr he hb hv hs => codeAny_mono (F1.run A outer s H args us vs Q E0 hr he hb hv hs) fun r s' hq => ?_⟩
  cases r with
  | ok fl => cases fl <;> exact hq
  | error e => exact (noErr hq).elim
end VL
namespace VL
open PySem PySem.Spec PyProof.Rows L2
/-! ## what the functions give, reckoned -/
section
theorem bind_ok {α β : Type} (a : α) (f : α → Res β) : (Res.ok a).bind f = f a := rfl
theorem bind_er {α β : Type} (c : Str) (fs : List Str) (vs : List D) (f : α → Res β) : (Res.er (α := α) c fs vs).bind f = .er c fs vs := rfl
theorem rs_d (ρ : Env) (x : D) : rs ρ (.d x) = .ok x := rfl
theorem noE_o {α : Type} (a : α) : noE (Res.ok a) = .ok a := rfl
theorem ofO_some {α : Type} (a : α) : ofO (some a) = .ok a := rfl
theorem gVar_ap (i : Nat) (ρ : Env) : gVar i ρ = (match ρ[i]? with
  | some (some d) => .ok (.d d, ρ)
  | _ => .st) := rfl
theorem gOwn_ap (i : Nat) (ρ : Env) : gOwn i ρ = (.ok (.o i, ρ)) := rfl
theorem gC_ap (d : D) (ρ : Env) : gC d ρ = (.ok (.d d, ρ)) := rfl
theorem gOp_ap (F : D → D → Option D) (ga gb : G) (ρ : Env) : gOp F ga gb ρ = ((ga ρ).bind fun r => (gb r.2).bind fun s => (rs s.2 r.1).bind fun x => (rs s.2 s.1).bind fun y => (ofO (F x y)).bind fun z => .ok (.d z, s.2)) := rfl
theorem gB_ap (g : G) (ρ : Env) : gB g ρ = ((g ρ).bind fun r => match r.1 with
  | .d (.bl k) => .ok (k, r.2)
  | _ => .st) := rfl
theorem gCh_ap (F F' : D → D → Option D) (ga gb gc : G) (ρ : Env) : gCh F F' ga gb gc ρ = ((ga ρ).bind fun r => (gb r.2).bind fun s => (rs s.2 r.1).bind fun x => (rs s.2 s.1).bind fun y => (ofO (F x y)).bind fun z => match z with
  | .bl true => (gc s.2).bind fun t => (rs t.2 s.1).bind fun y => (rs t.2 t.1).bind fun u => (ofO (F' y u)).bind fun z => .ok (.d z, t.2)
  | .bl false => .ok (.d (.bl false), s.2)
  | _ => .st) := rfl
theorem gAndT_ap (ta tb : GT) (ρ : Env) : gAndT ta tb ρ = ((ta ρ).bind fun r => if r.1 = true then tb r.2 else .ok (false, r.2)) := rfl
theorem gOrT_ap (ta tb : GT) (ρ : Env) : gOrT ta tb ρ = ((ta ρ).bind fun r => if r.1 = true then .ok (true, r.2) else tb r.2) := rfl
theorem gNotT_ap (ta : GT) (ρ : Env) : gNotT ta ρ = ((ta ρ).bind fun r => .ok (!r.1, r.2)) := rfl
theorem gAnd_ap (ga gb : G) (ρ : Env) : gAnd ga gb ρ = ((gB ga ρ).bind fun r => if r.1 = true then gb r.2 else .ok (.d (.bl false), r.2)) := rfl
theorem gOr_ap (ga gb : G) (ρ : Env) : gOr ga gb ρ = ((gB ga ρ).bind fun r => if r.1 = true then .ok (.d (.bl true), r.2) else gb r.2) := rfl
theorem gNot_ap (ga : G) (ρ : Env) : gNot ga ρ = ((gB ga ρ).bind fun r => .ok (.d (.bl (!r.1)), r.2)) := rfl
theorem gIf_ap (t : GT) (ga gb : G) (ρ : Env) : gIf t ga gb ρ = ((t ρ).bind fun r => if r.1 = true then ga r.2 else gb r.2) := rfl
theorem gaNil_ap (ρ : Env) : gaNil  ρ = (.ok ([], ρ)) := rfl
theorem gaCons_ap (ga : G) (gr : GA) (ρ : Env) : gaCons ga gr ρ = ((ga ρ).bind fun r => (gr r.2).bind fun s => .ok (r.1 :: s.1, s.2)) := rfl
theorem gTup_ap (ga : GA) (ρ : Env) : gTup ga ρ = ((ga ρ).bind fun r => (ofO (strL r.1)).bind fun ds => if ds.length ≤ 1000 then .ok (.d (.tup ds), r.2) else .st) := rfl
theorem gLst_ap (ga : GA) (ρ : Env) : gLst ga ρ = ((ga ρ).bind fun r => (ofO (strL r.1)).bind fun ds => if ds.length ≤ 1000 then .ok (.lst ds, r.2) else .st) := rfl
theorem gF_ap (g : GF) (ρ : Env) : gF g ρ = ((g ρ).bind fun r => .ok (.d r.1, r.2)) := rfl
theorem gCB_ap (F : List D → Option D) (ga : GA) (ρ : Env) : gCB F ga ρ = ((ga ρ).bind fun r => (rsL r.2 r.1).bind fun ds => (ofO (F ds)).bind fun d => .ok (.d d, r.2)) := rfl
theorem gCBF_ap (F : List D → Option D) (ga : GA) (ρ : Env) : gCBF F ga ρ = ((ga ρ).bind fun r => (rsL r.2 r.1).bind fun ds => (ofO (F ds)).bind fun d => .ok (d, r.2)) := rfl
theorem gOpF_ap (F : D → D → Option D) (ga gb : G) (ρ : Env) : gOpF F ga gb ρ = ((ga ρ).bind fun r => (gb r.2).bind fun s => (rs s.2 r.1).bind fun x => (rs s.2 s.1).bind fun y => (ofO (F x y)).bind fun z => .ok (z, s.2)) := rfl
theorem gTru_ap (g : G) (ρ : Env) : gTru g ρ = ((g ρ).bind fun r => (rs r.2 r.1).bind fun x => (ofO (truD x)).bind fun b => .ok (b, r.2)) := rfl
theorem gNoPart_ap (ρ : Env) : gNoPart  ρ = (.ok (none, ρ)) := rfl
theorem gPart_ap (g : G) (ρ : Env) : gPart g ρ = ((g ρ).bind fun r => match r.1 with
  | .d (.int i) => .ok (some i, r.2)
  | _ => .st) := rfl
theorem gSl_ap (F : D → Option Int → Option Int → Option D) (ga : G) (gl gh : GO) (ρ : Env) : gSl F ga gl gh ρ = ((ga ρ).bind fun r => (gl r.2).bind fun s => (gh s.2).bind fun t => (rs t.2 r.1).bind fun x => (ofO (F x s.1 t.1)).bind fun z => .ok (.d z, t.2)) := rfl
theorem gSlF_ap (F : D → Option Int → Option Int → Option D) (ga : G) (gl gh : GO) (ρ : Env) : gSlF F ga gl gh ρ = ((ga ρ).bind fun r => (gl r.2).bind fun s => (gh s.2).bind fun t => (rs t.2 r.1).bind fun x => (ofO (F x s.1 t.1)).bind fun z => .ok (z, t.2)) := rfl
theorem gNil_ap (ρ : Env) : gNil  ρ = (.ok (.nx ρ)) := rfl
theorem gSeq_ap (s1 s2 : GS) (ρ : Env) : gSeq s1 s2 ρ = ((s1 ρ).bind fun f => match f with
  | .nx ρ' => s2 ρ'
  | f => .ok f) := rfl
theorem gPass_ap (ρ : Env) : gPass  ρ = (.ok (.nx ρ)) := rfl
theorem gBrk_ap (ρ : Env) : gBrk  ρ = (.ok (.bk ρ)) := rfl
theorem gCont_ap (ρ : Env) : gCont  ρ = (.ok (.ct ρ)) := rfl
theorem gExpr_ap (g : G) (ρ : Env) : gExpr g ρ = ((g ρ).bind fun r => .ok (.nx r.2)) := rfl
theorem gRet_ap (io : Bool) (g : G) (ρ : Env) : gRet io g ρ = ((g ρ).bind fun r => match r.1 with
  | .d d => .ok (.rt d r.2)
  | .o k => if io = true ∧ k = 0 then .st else (rs r.2 (.o k)).bind fun d => .ok (.rt d r.2)) := rfl
theorem gRetF_ap (g : GF) (ρ : Env) : gRetF g ρ = ((g ρ).bind fun r => .ok (.rf r.1 r.2)) := rfl
theorem gRetN_ap (ρ : Env) : gRetN  ρ = (.ok (.rt .non ρ)) := rfl
theorem gIfS_ap (t : GT) (s1 s2 : GS) (ρ : Env) : gIfS t s1 s2 ρ = ((t ρ).bind fun r => if r.1 = true then s1 r.2 else s2 r.2) := rfl
theorem gSet_ap (i : Nat) (g : G) (ρ : Env) : gSet i g ρ = ((g ρ).bind fun r => match r.1 with
  | .d d => .ok (.nx (r.2.set i (some d)))
  | .o _ => .st) := rfl
theorem gSetF_ap (i : Nat) (g : GF) (ρ : Env) : gSetF i g ρ = ((g ρ).bind fun r => if i < r.2.length then .ok (.nx (r.2.set i (some r.1))) else .st) := rfl
theorem ggName_ap (i : Nat) (d : D) (ρ : Env) : ggName i d ρ = (.ok (ρ.set i (some d))) := rfl
theorem ggNil_ap (ds : List D) (ρ : Env) : ggNil  ds ρ = (match ds with
  | [] => .ok ρ
  | _ => .st) := rfl
theorem ggCons_ap (g : GG) (gs : GGs) (ds : List D) (ρ : Env) : ggCons g gs ds ρ = (match ds with
  | d :: ds => (g d ρ).bind fun ρ' => gs ds ρ'
  | [] => .st) := rfl
theorem ggTup_ap (n : Nat) (gs : GGs) (d : D) (ρ : Env) : ggTup n gs d ρ = (match d with
  | .tup ds => if ds.length = n then gs ds ρ else .st
  | .lst ds => if ds.length = n then gs ds ρ else .st
  | _ => .st) := rfl
theorem gAsg_ap (ga : G) (gg : GG) (ρ : Env) : gAsg ga gg ρ = ((ga ρ).bind fun r => match r.1 with
  | .d d => (gg d r.2).bind fun ρ' => .ok (.nx ρ')
  | .o _ => .st) := rfl
theorem gIt_ap (ga : G) (ρ : Env) : gIt ga ρ = ((ga ρ).bind fun r => match r.1 with
  | .d d => (ofO (itD d)).bind fun ds => .ok (ds, r.2)
  | .o _ => .st) := rfl
theorem gRng_ap (f : List W → Option (List D)) (ga : GA) (ρ : Env) : gRng f ga ρ = ((ga ρ).bind fun r => (ofO (f r.1)).bind fun ds => .ok (ds, r.2)) := rfl
theorem gItS_ap (ga : G) (ρ : Env) : gItS ga ρ = ((ga ρ).bind fun r => match r.1 with
  | .d (.str x) => if x.length ≤ sizeLine then .ok (x.cps.toList.map fun c => D.str ⟨#[c]⟩, r.2) else .st
  | _ => .st) := rfl
theorem gFor_ap (gi : GI) (gg : GG) (s : GS) (ρ : Env) : gFor gi gg s ρ = ((gi ρ).bind fun r => forL gg s r.1 r.2) := rfl
theorem gLc_ap (gi : GI) (gg : GG) (tt : GT) (te : G) (vs : List Nat) (ρ : Env) : gLc gi gg tt te vs ρ = ((gi ρ).bind fun r => (noE (lcL gg tt te vs r.1 (wipeR r.2 vs))).bind fun s => .ok (.lst s.1, back r.2 s.2 vs)) := rfl
theorem gCall_ap (n : Nat) (F : List D → Res D) (ga : GA) (ρ : Env) : gCall n F ga ρ = ((ga ρ).bind fun r => (ofO (strL r.1)).bind fun ds => if ds.length = n then (F ds).bind fun d => .ok (.d d, r.2) else .st) := rfl
theorem gCallF_ap (n : Nat) (F : List D → Res D) (ga : GA) (ρ : Env) : gCallF n F ga ρ = ((ga ρ).bind fun r => (ofO (strL r.1)).bind fun ds => if ds.length = n then (F ds).bind fun d => .ok (d, r.2) else .st) := rfl
theorem gCallI_ap (n : Nat) (F : List D → Res (D × D)) (ga : GA) (ρ : Env) : gCallI n F ga ρ = ((ga ρ).bind fun r => match r.1 with
  | .o k :: ws => (rs r.2 (.o k)).bind fun d0 => (ofO (strL ws)).bind fun ds => if ds.length + 1 = n then (F (d0 :: ds)).bind fun t => .ok (.d t.1, r.2.set k (some t.2)) else .st
  | _ => .st) := rfl
theorem gCallK_ap (n : Nat) (F : List D → Res D) (idx : List Nat) (ga : GA) (ρ : Env) : gCallK n F idx ga ρ = ((ga ρ).bind fun r => (ofO (strL r.1)).bind fun ds => if ds.length = n ∧ idx.length = n then (F (pick .non idx ds)).bind fun d => .ok (.d d, r.2) else .st) := rfl
theorem gUn_ap (F : D → Option D) (ga : G) (ρ : Env) : gUn F ga ρ = ((ga ρ).bind fun r => (rs r.2 r.1).bind fun x => (ofO (F x)).bind fun z => .ok (.d z, r.2)) := rfl
theorem gUnF_ap (F : D → Option D) (ga : G) (ρ : Env) : gUnF F ga ρ = ((ga ρ).bind fun r => (rs r.2 r.1).bind fun x => (ofO (F x)).bind fun z => .ok (z, r.2)) := rfl
theorem gDnew_ap (ρ : Env) : gDnew  ρ = (.ok (.dct [] [], ρ)) := rfl
theorem gApp_ap (k : Nat) (ge : G) (ρ : Env) : gApp k ge ρ = (if isLst ρ k = true then (ge ρ).bind fun r => match r.1 with
    | .d y => (rs r.2 (.o k)).bind fun d => (ofO (appD d y)).bind fun d' => .ok (.d .non, r.2.set k (some d'))
    | .o _ => .st
  else .st) := rfl
theorem gSetIx_ap (k : Nat) (gi ge : G) (ρ : Env) : gSetIx k gi ge ρ = ((ge ρ).bind fun r => match r.1 with
  | .d y => (gi r.2).bind fun s => match s.1 with
    | .d i => (rs s.2 (.o k)).bind fun d => (ofO (stD d i y)).bind fun d' => .ok (.nx (s.2.set k (some d')))
    | .o _ => .st
  | .o _ => .st) := rfl
theorem gYes_ap (ρ : Env) : gYes  ρ = (.ok (true, ρ)) := rfl
theorem gRaise_ap (c : Str) (f : Str) (g : G) (ρ : Env) : gRaise c f g ρ = ((g ρ).bind fun r => match r.1 with
  | .d d => .er c [f] [d]
  | .o _ => .st) := rfl
theorem gSetF'_ap (c f : Str) (k : Nat) (ge : G) (ρ : Env) : gSetF' c f k ge ρ = ((ge ρ).bind fun r => match r.1 with
  | .d y => (rs r.2 (.o k)).bind fun d => (ofO (fldP c f d y)).bind fun d' => .ok (.nx (r.2.set k (some d')))
  | .o _ => .st) := rfl
theorem gMeth_ap (c : Str) (n : Nat) (F : List D → Res D) (m : Str) (ga : G) (gr : GA) (ρ : Env) : gMeth c n F m ga gr ρ = ((ga ρ).bind fun r => match r.1 with
  | .d (.ins c' fs vs) => if c' = c ∧ m ∉ fs then (gr r.2).bind fun s => (ofO (strL s.1)).bind fun ds => if ds.length + 1 = n then (F (.ins c' fs vs :: ds)).bind fun d => .ok (.d d, s.2) else .st else .st
  | _ => .st) := rfl
theorem gProp_ap (c : Str) (F : List D → Res D) (ga : G) (ρ : Env) : gProp c F ga ρ = ((ga ρ).bind fun r => match r.1 with
  | .d (.ins c' fs vs) => if c' = c then (noE (F [.ins c' fs vs])).bind fun d => .ok (.d d, r.2) else .st
  | _ => .st) := rfl
theorem gMake_ap (c : Str) (n : Nat) (F : List D → Res (D × D)) (gr : GA) (ρ : Env) : gMake c n F gr ρ = ((gr ρ).bind fun r => (ofO (strL r.1)).bind fun ds => if ds.length + 1 = n then (F (.ins c [] [] :: ds)).bind fun t => match t.1 with
    | .non => .ok (t.2, r.2)
    | _ => .st
  else .st) := rfl
theorem gaStar_ap (ga : G) (gr : GA) (ρ : Env) : gaStar ga gr ρ = ((ga ρ).bind fun r => (rs r.2 r.1).bind fun d => (ofO (itD d)).bind fun ds => (gr r.2).bind fun s => .ok (ds.map W.d ++ s.1, s.2)) := rfl
theorem gPar2F_ap (i j : Nat) (ga gb : GF) (ρ : Env) : gPar2F i j ga gb ρ = ((ga ρ).bind fun r => (gb r.2).bind fun s => if i < s.2.length ∧ j < s.2.length then .ok (.nx ((s.2.set i (some r.1)).set j (some s.1))) else .st) := rfl
theorem gSetSl_ap (k : Nat) (gl gh : GO) (ge : G) (ρ : Env) : gSetSl k gl gh ge ρ = ((ge ρ).bind fun r => match r.1 with
  | .d y => (gl r.2).bind fun s => (gh s.2).bind fun t => (rs t.2 (.o k)).bind fun d => (ofO (slSet d y s.1 t.1)).bind fun d' => .ok (.nx (t.2.set k (some d')))
  | .o _ => .st) := rfl
theorem gDc_ap (gi : GI) (gg : GG) (tt : GT) (tk tv : G) (vs : List Nat) (ρ : Env) : gDc gi gg tt tk tv vs ρ = ((gi ρ).bind fun r => (noE (dcL gg tt tk tv vs r.1 (wipeR r.2 vs) [] [])).bind fun s => .ok (.dct s.1.1 s.1.2, back r.2 s.2 vs)) := rfl
theorem gItA_ap (ga : G) (ρ : Env) : gItA ga ρ = ((ga ρ).bind fun r => match r.1 with
  | .d d => (ofO (itA d)).bind fun ds => .ok (ds, r.2)
  | .o _ => .st) := rfl
theorem gDisp_ap (gs : List (G × G)) (ρ : Env) : gDisp gs ρ = ((pairsG gs ρ).bind fun t => if t.1.length ≤ 15 then .ok (.dct (t.1.foldl putP ([], [])).1 (t.1.foldl putP ([], [])).2, t.2) else .st) := rfl
theorem runD_ap (n : Nat) (g : GS) (ds : List D) : runD n g ds = (g (startR n ds)).bind fun f => match f with
  | .rt d _ => .ok d
  | .rf d _ => .ok d
  | .nx _ => .ok .non
  | _ => .st := rfl
theorem runF_ap (n : Nat) (g : GS) (ds : List D) : runF n g ds = (g (startR n ds)).bind fun f => match f with
  | .rf d _ => .ok d
  | _ => .st := rfl
end
theorem bind_inv {α β : Type} {r : Res α} {f : α → Res β} {b : β} (h : r.bind f = .ok b) : ∃ a, r = .ok a ∧ f a = .ok b := by
  cases r with
  | ok a => exact ⟨a, rfl, h⟩
  | er => cases h
  | st => cases h
/-! a loop with a thing that holds throughout -/
theorem forL_fold {α β : Type} {c : α → D} {gg : GG} {s : GS} (st : β → α → β) (I : β → Env → Prop) : ∀ {xs : List α} {a : β} {ρ : Env}, I a ρ → (∀ x ∈ xs, ∀ a ρ, I a ρ → ∃ ρ2, (gg (c x) ρ).bind s = .ok (.nx ρ2) ∧ I (st a x) ρ2) → ∃ ρ', forL gg s (xs.map c) ρ = .ok (.nx ρ') ∧ I (xs.foldl st a) ρ'
  | [], a, ρ, i, _ => ⟨ρ, rfl, i⟩
  | d :: ds, a, ρ, i, h => by
    obtain ⟨ρ2, e, i2⟩ := h d List.mem_cons_self a ρ i
    obtain ⟨ρ1, e1, e2⟩ := bind_inv e
    obtain ⟨ρ', e, i'⟩ := forL_fold st I i2 fun d hd => h d (List.mem_cons_of_mem _ hd)
    exact ⟨ρ', by rw [List.map_cons]; unfold forL; rw [e1, bind_ok, e2]; exact e, i'⟩
/-- .. counted -/
theorem forL_at {gg : GG} {s : GS} (I : Nat → Env → Prop) : ∀ {ds : List D} {n : Nat} {ρ : Env}, I n ρ → (∀ i d, ds[i]? = some d → ∀ ρ, I (n + i) ρ → ∃ ρ2, (gg d ρ).bind s = .ok (.nx ρ2) ∧ I (n + i + 1) ρ2) → ∃ ρ', forL gg s ds ρ = .ok (.nx ρ') ∧ I (n + ds.length) ρ'
  | [], n, ρ, i, _ => ⟨ρ, rfl, i⟩
  | d :: ds, n, ρ, i, h => by
    obtain ⟨ρ2, e, i2⟩ := h 0 d rfl ρ i
    obtain ⟨ρ1, e1, e2⟩ := bind_inv e
    obtain ⟨ρ', e, i'⟩ := forL_at (n := n + 1) I i2 fun i d hd ρ q => by
      have := h (i + 1) d hd ρ (by rw [show n + (i + 1) = n + 1 + i by omega]; exact q)
      rw [show n + (i + 1) + 1 = n + 1 + i + 1 by omega] at this
      exact this
    exact ⟨ρ', by unfold forL; rw [e1, bind_ok, e2]; exact e, by rw [List.length_cons, show n + (ds.length + 1) = n + 1 + ds.length by omega]; exact i'⟩
/-- a list from a list, nothing else touched -/
theorem lcL_mapA {α : Type} {c : α → D} (f : α → D) {gg : GG} {te : G} {vs : List Nat} {ρ : Env} : ∀ {xs : List α}, (∀ x ∈ xs, ((gg (c x) ρ).bind fun ρ1 => (te ρ1).bind fun r => .ok (r.1, wipeR r.2 vs)) = .ok (.d (f x), ρ)) → lcL gg gYes te vs (xs.map c) ρ = .ok (xs.map f, ρ)
  | [], _ => rfl
  | x :: xs, h => by
    obtain ⟨ρ1, e1, e⟩ := bind_inv (h x List.mem_cons_self)
    obtain ⟨⟨w, ρ2⟩, e2, e⟩ := bind_inv e
    have ih := lcL_mapA (gg := gg) (te := te) (vs := vs) (c := c) f (ρ := ρ) (xs := xs) fun d hd => h d (List.mem_cons_of_mem _ hd)
    injection e with e
    injection e with ew e3
    cases ew
    rw [List.map_cons]
    unfold lcL
    rw [e1]
    show (noE (te ρ1)).bind _ = _
    rw [e2]
    show (lcL gg gYes te vs (xs.map c) (wipeR ρ2 vs)).bind _ = _
    rw [show wipeR ρ2 vs = ρ from e3, ih]
    rfl
theorem lcL_inv {gg : GG} {te : G} {vs : List Nat} (I : Nat → Env → Prop) (P : D → Prop) : ∀ {ds : List D} {n : Nat} {ρ : Env}, I n ρ → (∀ d ∈ ds, ∀ m ρ, I m ρ → ∃ y ρ2, (gg d ρ).bind te = .ok (.d y, ρ2) ∧ I (m + 1) (wipeR ρ2 vs) ∧ P y) → ∃ ys ρ', lcL gg gYes te vs ds ρ = .ok (ys, ρ') ∧ ys.length = ds.length ∧ (∀ y ∈ ys, P y) ∧ I (n + ds.length) ρ'
  | [], n, ρ, i, _ => ⟨[], ρ, rfl, rfl, (fun _ z => nomatch z), i⟩
  | d :: ds, n, ρ, i, h => by
    obtain ⟨y, ρ2, e, i2, p⟩ := h d List.mem_cons_self n ρ i
    obtain ⟨ρ1, e1, e2⟩ := bind_inv e
    obtain ⟨ys, ρ', e, hl, hp, i'⟩ := lcL_inv I P i2 fun d hd => h d (List.mem_cons_of_mem _ hd)
    refine ⟨y :: ys, ρ', ?_, congrArg (· + 1) hl, fun z hz => ?_, by rw [List.length_cons, show n + (ds.length + 1) = n + 1 + ds.length by omega]; exact i'⟩
    · unfold lcL
      rw [e1]
      show (noE (te ρ1)).bind _ = _
      rw [e2]
      show (lcL gg gYes te vs ds (wipeR ρ2 vs)).bind _ = _
      rw [e]
      rfl
    · rcases List.mem_cons.mp hz with rfl | hz
      · exact p
      · exact hp z hz
theorem allD_mapA {α : Type} (P : α → Bool) (xs : List α) : allD [.lst (xs.map fun d => .bl (P d))] = some (.bl (xs.all P)) := by
  have h : ∀ xs : List α, boolsD (xs.map fun d => .bl (P d)) = some (xs.map P) := fun xs => by
    induction xs with
    | nil => rfl
    | cons d ds ih =>
      show (boolsD (ds.map fun d => .bl (P d))).map (P d :: ·) = _
      rw [ih]
      rfl
  show (boolsD (xs.map fun d => .bl (P d))).map _ = _
  rw [h xs]
  show some (D.bl ((xs.map P).all id)) = _
  rw [List.all_map]
  rfl
end VL
namespace VL
open PySem PySem.Spec PyProof.Rows L2
/-! ## equality of data -/
structure Okd (k : Nat) (d : D) : Prop where
  p : VL.plain d = true
  c : (toPD d).canLay0 = true
  z : (toPD d).depth ≤ k
  e : eqB d d = true
structure Oks (k : Nat) (ds : List D) : Prop where
  p : VL.plains ds = true
  c : PyData.canLayAll0 (toPDs ds) = true
  z : PyData.depthAll (toPDs ds) ≤ k
  e : PyData.eqvAll (toPDs ds) (toPDs ds) = true
theorem Okd.int {k : Nat} (i : Int) : Okd k (.int i) := ⟨rfl, rfl, by simp [toPD, PyData.depth], by simp [eqB, toPD, PyData.eqv]⟩
theorem Okd.bl {k : Nat} (i : Bool) : Okd k (.bl i) := ⟨rfl, rfl, by simp [toPD, PyData.depth], by simp [eqB, toPD, PyData.eqv]⟩
theorem Okd.non {k : Nat} : Okd k .non := ⟨rfl, rfl, by simp [toPD, PyData.depth], by simp [eqB, toPD, PyData.eqv]⟩
theorem Okd.str {k : Nat} {x : Str} (h : PyData.strOk x = true) : Okd k (.str x) := ⟨rfl, h, by simp [toPD, PyData.depth], by simp [eqB, toPD, PyData.eqv]⟩
theorem Oks.of {k : Nat} : ∀ {ds : List D}, (∀ d ∈ ds, Okd k d) → Oks k ds
  | [], _ => ⟨rfl, rfl, by simp [toPDs, PyData.depthAll], rfl⟩
  | d :: ds, h => by
    have a := h d List.mem_cons_self
    have b := Oks.of fun d hd => h d (List.mem_cons_of_mem _ hd)
    have ae := a.e
    unfold eqB at ae
    have az := a.z
    have bz := b.z
    exact ⟨by simp [plains, a.p, b.p], by simp [toPDs, PyData.canLayAll0, a.c, b.c], by simp only [toPDs, PyData.depthAll]; omega, by simp [toPDs, PyData.eqvAll, ae, b.e]⟩
theorem Okd.tup {k : Nat} {ds : List D} (h : ∀ d ∈ ds, Okd k d) : Okd (k + 1) (.tup ds) := by
  have b := Oks.of h
  have bz := b.z
  exact ⟨b.p, b.c, by simp only [toPD, PyData.depth]; omega, b.e⟩
theorem Okd.lst {k : Nat} {ds : List D} (h : ∀ d ∈ ds, Okd k d) : Okd (k + 1) (.lst ds) := by
  have b := Oks.of h
  have bz := b.z
  exact ⟨b.p, b.c, by simp only [toPD, PyData.depth]; omega, b.e⟩
theorem Okd.ok {k : Nat} {d : D} (h : Okd k d) (hk : k ≤ 64 := by decide) : okEq d = true := by
  unfold okEq SeqAt.shaped
  rw [h.p, h.c, decide_eq_true (Nat.le_trans h.z hk)]
  rfl
theorem eqD_self {k : Nat} {d : D} (h : Okd k d) (hk : k ≤ 64 := by decide) : eqD d d = some (.bl true) := by
  unfold eqD
  rw [if_pos ⟨h.ok hk, h.ok hk⟩, h.e]
theorem neD_self {k : Nat} {d : D} (h : Okd k d) (hk : k ≤ 64 := by decide) : neD d d = some (.bl false) := by
  unfold neD
  rw [if_pos ⟨h.ok hk, h.ok hk⟩, h.e]
  rfl
theorem eqD_of {k : Nat} {a b : D} (h : Okd k a) (g : Okd k b) (hk : k ≤ 64 := by decide) : eqD a b = some (.bl (eqB a b)) := by
  unfold eqD
  rw [if_pos ⟨h.ok hk, g.ok hk⟩]
theorem neD_of {k : Nat} {a b : D} (h : Okd k a) (g : Okd k b) (hk : k ≤ 64 := by decide) : neD a b = some (.bl (!eqB a b)) := by
  unfold neD
  rw [if_pos ⟨h.ok hk, g.ok hk⟩]
theorem eqD_int (a b : Int) : eqD (.int a) (.int b) = some (.bl (decide (a = b))) := by
  rw [eqD_of (k := 0) (.int a) (.int b)]
  simp [eqB, toPD, PyData.eqv]
  rfl
theorem neD_int (a b : Int) : neD (.int a) (.int b) = some (.bl (!decide (a = b))) := by
  rw [neD_of (k := 0) (.int a) (.int b)]
  simp [eqB, toPD, PyData.eqv]
  rfl
theorem eqB_ints : ∀ a b : List Int, PyData.eqvAll (toPDs (a.map .int)) (toPDs (b.map .int)) = decide (a = b)
  | [], [] => rfl
  | [], _ :: _ => rfl
  | _ :: _, [] => rfl
  | x :: a, y :: b => by
    show (PyData.eqv (.int x) (.int y) && PyData.eqvAll (toPDs (a.map .int)) (toPDs (b.map .int))) = _
    rw [eqB_ints a b]
    by_cases h1 : x = y
    · by_cases h2 : a = b
      · simp [PyData.eqv, h1, h2]
      · simp [PyData.eqv, h1, h2]
    · simp [PyData.eqv, h1]
def iT (xs : List Int) : D := .tup (xs.map .int)
theorem okd_iT {k : Nat} (xs : List Int) : Okd (k + 1) (iT xs) := .tup fun d hd => by
  obtain ⟨x, _, rfl⟩ := List.mem_map.mp hd
  exact .int x
theorem eqD_iT (a b : List Int) : eqD (iT a) (iT b) = some (.bl (decide (a = b))) := by
  rw [eqD_of (k := 1) (okd_iT a) (okd_iT b)]
  exact congrArg (fun z => some (D.bl z)) (eqB_ints a b)
theorem kb_int : kitB "int" "int" = some true := by decide +kernel
theorem kb_ib : kitB "int" "bool" = some false := by decide +kernel
theorem kb_bb : kitB "bool" "bool" = some true := by decide +kernel
theorem kb_tt : kitB "tuple" "tuple" = some true := by decide +kernel
theorem kb_dd : kitB "dict" "dict" = some true := by decide +kernel
theorem kb_ss : kitB "str" "str" = some true := by decide +kernel
theorem kb_ll : kitB "list" "list" = some true := by decide +kernel
theorem kb_tl : kitB "tuple" "list" = some false := by decide +kernel
theorem kb_lt : kitB "list" "tuple" = some false := by decide +kernel
/-! ## places of ints -/
theorem atI_nat {α : Type} (xs : List α) (n : Nat) : atI xs (n : Int) = xs[n]? := by
  unfold atI ixN
  rw [if_pos (by omega)]
  by_cases h : (n : Int) < xs.length
  · rw [if_pos h]
    show xs[(n : Int).toNat]? = _
    rw [Int.toNat_natCast]
  · rw [if_neg h, List.getElem?_eq_none (by omega)]
    rfl
theorem atI_in {α : Type} {xs : List α} {i : Int} (h0 : 0 ≤ i) (h1 : i < xs.length) : atI xs i = some (xs[i.toNat]'(by omega)) := by
  obtain ⟨n, rfl⟩ := Int.eq_ofNat_of_zero_le h0
  rw [atI_nat, List.getElem?_eq_getElem (by omega)]
  rfl
end VL
namespace VL
open PySem PySem.Spec PyProof.Rows L2
/-! ## dicts of text keys -/
theorem eqD_str {x y : Str} (hx : PyData.strOk x = true) (hy : PyData.strOk y = true) : eqD (.str x) (.str y) = some (.bl (x == y)) := eqD_of (k := 0) (.str hx) (.str hy)
def dS {α : Type} (g : α → D) (kvs : List (Str × α)) : D := .dct (kvs.map fun p => .str p.1) (kvs.map fun p => g p.2)
theorem dGet_in {α : Type} {g : α → D} : ∀ {kvs : List (Str × α)}, (kvs.map (·.1)).Nodup → ∀ p ∈ kvs, dGet (kvs.map fun p => .str p.1) (kvs.map fun p => g p.2) (.inr p.1) = some (g p.2)
  | [], _, _, h => nomatch h
  | q :: kvs, nd, p, h => by
    have nd' := List.nodup_cons.mp nd
    show (if keyOf (.str q.1) = some (Sum.inr p.1) then some (g q.2) else dGet (kvs.map fun p => .str p.1) (kvs.map fun p => g p.2) (.inr p.1)) = _
    rcases List.mem_cons.mp h with rfl | h
    · rw [if_pos (show keyOf (.str p.1) = some (Sum.inr p.1) from rfl)]
    · rw [if_neg]
      · exact dGet_in nd'.2 p h
      · intro e
        have e : some (Sum.inr q.1 : Key) = some (Sum.inr p.1) := e
        injection e with e
        injection e with e
        exact nd'.1 (List.mem_map.mpr ⟨p, h, e.symm⟩)
theorem ixD_in {α : Type} {g : α → D} {kvs : List (Str × α)} (nd : (kvs.map (·.1)).Nodup) {p : Str × α} (h : p ∈ kvs) : ixD (dS g kvs) (.str p.1) = some (g p.2) := dGet_in nd p h
theorem putD_new {ks vs : List D} {y : Key} {d : D} (h : ∀ k ∈ ks, keyOf k ≠ some y) : putD ks vs y d = (ks ++ [kD y], vs ++ [d]) := by
  unfold putD
  rw [if_neg]
  intro e
  obtain ⟨k, hk, e⟩ := List.any_eq_true.mp e
  exact h k hk (of_decide_eq_true e)
theorem dcL_new {α : Type} {c : α → D} (fk : α → Key) (fv : α → D) {gg : GG} {tk tv : G} {vs : List Nat} {ρ : Env} : ∀ {xs : List α} {ks ys : List D}, (∀ x ∈ xs, ((gg (c x) ρ).bind fun ρ1 => (tk ρ1).bind fun s => (tv s.2).bind fun t => .ok ((s.1, t.1), wipeR t.2 vs)) = .ok ((.d (kD (fk x)), .d (fv x)), ρ)) → (xs.map fk).Nodup → (∀ x ∈ xs, ∀ k ∈ ks, keyOf k ≠ some (fk x)) → ks.length + xs.length < big →
    dcL gg gYes tk tv vs (xs.map c) ρ ks ys = .ok ((ks ++ xs.map (fun x => kD (fk x)), ys ++ xs.map fv), ρ)
  | [], ks, ys, _, _, _, _ => by
    show Res.ok ((ks, ys), ρ) = _
    simp
  | x :: xs, ks, ys, h, nd, hn, hl => by
    obtain ⟨ρ1, e1, e⟩ := bind_inv (h x List.mem_cons_self)
    obtain ⟨⟨w, ρ2⟩, e2, e⟩ := bind_inv e
    obtain ⟨⟨w', ρ3⟩, e3, e⟩ := bind_inv e
    injection e with e
    injection e with ew e4
    injection ew with ew ew'
    cases ew
    cases ew'
    have nd' := List.nodup_cons.mp nd
    have ih := dcL_new (c := c) fk fv (gg := gg) (tk := tk) (tv := tv) (vs := vs) (ρ := ρ) (xs := xs) (ks := ks ++ [kD (fk x)]) (ys := ys ++ [fv x]) (fun d hd => h d (List.mem_cons_of_mem _ hd)) nd'.2 (fun z hz k hk => by
      rcases List.mem_append.mp hk with hk | hk
      · exact hn z (List.mem_cons_of_mem _ hz) k hk
      · rcases List.mem_singleton.mp hk with rfl
        rw [keyOf_kD]
        intro e
        injection e with e
        exact nd'.1 (e ▸ List.mem_map.mpr ⟨z, hz, rfl⟩)) (by rw [List.length_append]; simp only [List.length_cons, List.length_nil] at hl ⊢; omega)
    rw [List.map_cons]
    unfold dcL
    rw [e1]
    show (noE (tk ρ1)).bind _ = _
    rw [e2]
    show (ofO (keyOf (kD (fk x)))).bind _ = _
    rw [keyOf_kD]
    show (noE (tv ρ2)).bind _ = _
    rw [e3]
    have hk : ks.length < big := by simp only [List.length_cons] at hl; omega
    show (if ks.length < big then dcL gg gYes tk tv vs (xs.map c) (wipeR ρ3 vs) (putD ks ys (fk x) (fv x)).1 (putD ks ys (fk x) (fv x)).2 else .st) = _
    rw [if_pos hk, show wipeR ρ3 vs = ρ from e4, putD_new (hn x List.mem_cons_self), ih]
    simp
theorem strsD_map {α : Type} (f : α → Str) : ∀ xs : List α, strsD (xs.map fun x => .str (f x)) = some (xs.map f)
  | [] => rfl
  | x :: xs => by
    show (strsD (xs.map fun x => .str (f x))).map (f x :: ·) = _
    rw [strsD_map f xs]
    rfl
/-- the keys of a dict, sorted -/
theorem sortF_dS {α : Type} {g : α → D} {kvs kvs' : List (Str × α)} (hl : kvs.length < 64) (hp : kvs'.Perm kvs) (hs : (kvs'.map (·.1)).Pairwise leS) : sortF [dS g kvs] = some (.lst (kvs'.map fun p => .str p.1)) := by
  show (if (kvs.map fun p => D.str p.1).length < 64 then (strsD (kvs.map fun p => D.str p.1)).map fun bs => D.lst ((sortS bs).map .str) else none) = _
  rw [if_pos (by rw [List.length_map]; exact hl), strsD_map (fun p : Str × α => p.1)]
  show some (D.lst ((sortS (kvs.map fun p => p.1)).map .str)) = _
  rw [sortS_of (hp.map (·.1)) hs, List.map_map]
  rfl
end VL
namespace VL
open PySem PySem.Spec PyProof.Rows L2 RZ
/-! ## zip of two lists, of two tuples -/
def zipL (ds es : List D) : List D := List.zipWith (fun a b => .tup [a, b]) ds es
theorem zipL_len {ds es : List D} : (zipL ds es).length = min ds.length es.length := List.length_zipWith
theorem zipL_at {ds es : List D} {i : Nat} {d e : D} (h : ds[i]? = some d) (g : es[i]? = some e) : (zipL ds es)[i]? = some (.tup [d, e]) := by
  unfold zipL
  rw [List.getElem?_zipWith, h, g]
section
variable {X : Cx} {C : Cf} {io : Bool} {E : XK} {ow : List Nat} {a b : Expr} {p pos : Pos} {gr : GA}
theorem wk_zipL {K : PySem.W.Frag} (hK : C.K = K) {a b : Addr} {ds es : List D} : Wk C (Itz K a b) [(.ref a, .lst ds), (.ref b, .lst es)] (zipL ds es) where
  go := fun O H i hq hi => by
    have r := hq _ List.mem_cons_self
    have s := hq _ (List.mem_cons_of_mem _ List.mem_cons_self)
    rw [zipL_len] at hi
    cases r with
    | lst _ e rr =>
      cases s with
      | lst _ f ss =>
        subst hK
        obtain ⟨v, hv, _⟩ := rr.atD (List.getElem?_eq_getElem (show i < ds.length by omega))
        obtain ⟨u, hu, _⟩ := ss.atD (List.getElem?_eq_getElem (show i < es.length by omega))
        exact ⟨_, _, v, u, SqL.of e, SqL.of f, hv, hu⟩
  stop := fun O H hq => by
    have r := hq _ List.mem_cons_self
    have s := hq _ (List.mem_cons_of_mem _ List.mem_cons_self)
    rw [zipL_len]
    cases r with
    | lst _ e rr =>
      cases s with
      | lst _ f ss =>
        subst hK
        have h1 := rr.len
        have h2 := ss.len
        exact ⟨_, _, SqL.of e, SqL.of f, by omega⟩
  yld := fun O H i x H' hO hq hi hy => by
    have r := hq _ List.mem_cons_self
    have s := hq _ (List.mem_cons_of_mem _ List.mem_cons_self)
    cases r with
    | lst _ e rr =>
      cases s with
      | lst _ f ss =>
        subst hK
        obtain ⟨T, y, z, rfl, hT, rfl, hy, hz⟩ := hy
        obtain ⟨d, hd, rd⟩ := rr.at (hy _ (SqL.of e))
        obtain ⟨c, hc, rc⟩ := ss.at (hz _ (SqL.of f))
        exact ⟨_, zipL_at hd hc, Ex.new hT, pair_new hO hT rd rc⟩
theorem wk_zipT {K : PySem.W.Frag} (hK : C.K = K) {a b : Addr} {ds es : List D} : Wk C (ItzT K a b) [(.ref a, .tup ds), (.ref b, .tup es)] (zipL ds es) where
  go := fun O H i hq hi => by
    have r := hq _ List.mem_cons_self
    have s := hq _ (List.mem_cons_of_mem _ List.mem_cons_self)
    rw [zipL_len] at hi
    cases r with
    | tup e rr =>
      cases s with
      | tup f ss =>
        have e := e.sqt
        have f := f.sqt
        subst hK
        obtain ⟨v, hv, _⟩ := rr.atD (List.getElem?_eq_getElem (show i < ds.length by omega))
        obtain ⟨u, hu, _⟩ := ss.atD (List.getElem?_eq_getElem (show i < es.length by omega))
        exact ⟨_, _, v, u, e, f, hv, hu⟩
  stop := fun O H hq => by
    have r := hq _ List.mem_cons_self
    have s := hq _ (List.mem_cons_of_mem _ List.mem_cons_self)
    rw [zipL_len]
    cases r with
    | tup e rr =>
      cases s with
      | tup f ss =>
        have e := e.sqt
        have f := f.sqt
        subst hK
        have h1 := rr.len
        have h2 := ss.len
        exact ⟨_, _, e, f, by omega⟩
  yld := fun O H i x H' hO hq hi hy => by
    have r := hq _ List.mem_cons_self
    have s := hq _ (List.mem_cons_of_mem _ List.mem_cons_self)
    cases r with
    | tup e rr =>
      cases s with
      | tup f ss =>
        have e := e.sqt
        have f := f.sqt
        subst hK
        obtain ⟨T, y, z, rfl, hT, rfl, hy, hz⟩ := hy
        obtain ⟨d, hd, rd⟩ := rr.at (hy _ e)
        obtain ⟨c, hc, rc⟩ := ss.at (hz _ f)
        exact ⟨_, zipL_at hd hc, Ex.new hT, pair_new hO hT rd rc⟩
def zipD : List W → Option (List D)
  | [.d (.tup ds), .d (.tup es)] => some (zipL ds es)
  | [.d (.lst ds), .d (.lst es)] => some (zipL ds es)
  | _ => none
theorem vi_zip {elts : List Expr} {kk : Nat} {tpos : Pos} (hC : C.K = X.K) (hg : Gl X "zip") (hm : X.mg "zip" = none) (ha : PA X [a, b] (tA C io E ow gr))
    (hs : starEach [a, b] X.env = (false, eval a X.env) :: starEach [b] X.env := by rfl) (hpl : (backTo pos (starEach [b] X.env)).any (·.1) = false := by rfl) : PI X (.Tuple elts kk tpos) (.Call (.Name "zip" p) [a, b] [] pos) (tI C io E ow (gRng zipD gr)) :=
  PI.imp (pi_zipA hg hm (PA.sz ha) hs hpl) fun σ H R ⟨B, ρ, en, o⟩ => by
    refine ⟨B, ρ, en, ?_⟩
    unfold gRng at o
    refine (Out.bind o).mono fun r _ o vs H1 f1 en1 r1 sz => ?_
    obtain ⟨ws, ρ'⟩ := r
    obtain ⟨ds, hds, o⟩ := (Out.bind (show Out C B E ((ofO (zipD ws)).bind fun ds => .ok (ds, ρ')) _ from o)).ofO
    have hl : ∀ {x y : V} {d e : D}, Rp C (Opn B ow σ) H1 x d → Rp C (Opn B ow σ) H1 y e → En C io { B with px := [(x, d), (y, e)] ++ B.px } ow H1 σ ρ' := fun r s => en1.hold fun x hx => by
      rcases List.mem_cons.mp hx with rfl | hx
      · exact r
      · rw [List.mem_singleton.mp hx]
        exact s
    unfold zipD at hds
    split at hds
    · cases hds
      match vs, r1 with
      | [v, u], r1 =>
        have r2 := r1.1
        have r3 := r1.2.1
        cases r2 with
        | tup e rr =>
          cases r3 with
          | tup f ss =>
            refine ⟨_, _, _, _, rfl, .inr ⟨hC ▸ e.sqt, hC ▸ f.sqt, o _ _ _ f1 (hl (.tup e rr) (.tup f ss)) (wk_zipT hC) ?_⟩⟩
            have := sz.tup _ _ (hC ▸ e.sqt)
            have h1 := rr.len
            rw [zipL_len]
            omega
    · cases hds
      match vs, r1 with
      | [v, u], r1 =>
        have r2 := r1.1
        have r3 := r1.2.1
        cases r2 with
        | lst n e rr =>
          cases r3 with
          | lst n' f ss =>
            refine ⟨_, _, _, _, rfl, .inl ⟨SqL.of e, SqL.of f, o _ _ _ f1 (hl (.lst n e rr) (.lst n' f ss)) (wk_zipL hC) ?_⟩⟩
            have := sz.lst _ _ (SqL.of e)
            have h1 := rr.len
            rw [zipL_len]
            omega
    · cases hds
end
end VL
namespace VL
open PySem PySem.Spec PyProof.Rows L2
section
variable {X : Cx} {C : Cf} {io : Bool} {E : XK} {ow : List Nat} {a b : Expr} {p p1 p2 pos px py pt pt2 : Pos} {gr : GA} {i j k kt k2 : Nat} {x y : Str} {n : Int} {owL : List Nat}
/-! ## a number below zero -/
theorem pe_negc : PE X (.UnaryOp .USub (.Constant (.int n) k p1) p2) (tC (.int (-n))) := PE.imp (pe_un un_neg pe_int) fun σ H Q q => ⟨n, rfl, q⟩
/-! ## x, y = a, b: two values at once -/
def gPar2 (i j : Nat) (gr : GA) : GS := fun ρ => (gr ρ).bind fun r => match r.1 with
  | [.d x, .d y] => .ok (.nx ((r.2.set i (some x)).set j (some y)))
  | _ => .st
theorem gPar2_ap (i j : Nat) (gr : GA) (ρ : VL.Env) : gPar2 i j gr ρ = ((gr ρ).bind fun r => match r.1 with
  | [.d x, .d y] => .ok (.nx ((r.2.set i (some x)).set j (some y)))
  | _ => .st) := rfl
theorem vs_par2 (hc : X.calm = true) (hN : X.N.Nodup) (hi : X.N[i]? = some x) (hj : X.N[j]? = some y) (hij : i ≠ j)
    (hx : X.env.scope.names.lookup x = some .local) (hy : X.env.scope.names.lookup y = some .local) (ha : PA X [a, b] (tA C io E ow gr)) (ni : i ∉ ow := by decide) (nj : j ∉ ow := by decide)
    (hw : swappedStores [.Tuple [.Name x px, .Name y py] kt pt] (.Tuple [a, b] k2 pt2) X.env = pure (some [x, y]) := by rfl)
    (hs : swapsWithSole [.Tuple [.Name x px, .Name y py] kt pt] (.Tuple [a, b] k2 pt2) pos.line X.env = pure false := by rfl) :
    PS X (.Assign [.Tuple [.Name x px, .Name y py] kt pt] (.Tuple [a, b] k2 pt2) pos) (tS C io E ow ow owL (gPar2 i j gr)) :=
  PS.imp (ps_par hc hN hi hj hij hx hy ha hw hs) fun D σ H ⟨B, ρ, hT, en, h⟩ => ⟨B, ρ, en, (Out.bind h).mono fun r _ h vs H1 f1 en1 r1 => by
    obtain ⟨ws, ρ'⟩ := r
    dsimp only at h r1
    split at h
    · match vs, r1 with
      | [v, u], r1 => exact ⟨v, u, rfl, h _ _ ((en1.set ni r1.1).set nj (by rw [opn_set ni]; exact r1.2.1))⟩
      | [], r1 => exact r1.elim
      | [_], r1 => exact r1.2.elim
      | _ :: _ :: _ :: _, r1 => exact r1.2.2.elim
    · exact h.elim⟩
end
end VL
namespace VL
open PySem PySem.Spec PyProof.Rows L2
section
variable {X : Cx} {C : Cf} {io : Bool} {E : XK} {ow : List Nat} {g : G}
/-! ## x.extend(list) -/
def extD (d y : D) : Option D := match d, y with
  | .lst ds, .lst es => if ds.length + es.length ≤ big then some (.lst (ds ++ es)) else none
  | _, _ => none
def gExt (k : Nat) (ge : G) : G := fun ρ => if isLst ρ k = true then (ge ρ).bind fun r => match r.1 with
    | .d y => (rs r.2 (.o k)).bind fun d => (ofO (extD d y)).bind fun d' => .ok (.d .non, r.2.set k (some d'))
    | .o _ => .st
  else .st
theorem gExt_ap (k : Nat) (ge : G) (ρ : VL.Env) : gExt k ge ρ = (if isLst ρ k = true then (ge ρ).bind fun r => match r.1 with
    | .d y => (rs r.2 (.o k)).bind fun d => (ofO (extD d y)).bind fun d' => .ok (.d .non, r.2.set k (some d'))
    | .o _ => .st
  else .st) := rfl
theorem ve_ext {k : Nat} {o e : Expr} {apos cpos : Pos} (ho : PE X o (tVar k)) (hk : k ∈ ow := by decide) (he : PE X e (tV C io E ow g)) (hbase : attributeBase o "extend" X.env (eval o X.env) = eval o X.env := by rfl)
    (hfew : ((backTo cpos (starEach [e] X.env)).all (fun x => !x.1) && (backToKw cpos (keywordEach [] X.env)).all (fun x => x.1.isSome)
      && decide ([e].length + ([] : List Keyword).length + (if ([] : List Keyword).isEmpty then 0 else 1) < 30)) = true := by rfl)
    (hline : (apos.endLine == cpos.line) = true := by rfl) (hs : starEach [e] X.env = (false, eval e X.env) :: starEach [] X.env := by rfl) (hplain : (backTo cpos (starEach [] X.env)).any (·.1) = false := by rfl) :
    PE X (.Call (.Attribute o "extend" apos) [e] [] cpos) (tV C io E ow (gExt k g)) :=
  PE.imp (pe_bm PySem.F.plainAttrs_list PySem.F.slot_list_extend PySem.F.type_list_extend mt_extend ho (pa_cons he pa_nil hs) hbase hfew hline hs hplain) fun σ H Q ⟨B, ρ, en, h⟩ => by
    unfold gExt at h
    by_cases hl0 : isLst ρ k = true
    case neg => rw [if_neg hl0] at h; exact h.elim
    rw [if_pos hl0] at h
    obtain ⟨q, xs0, ds0, e2, e1, _⟩ := lst_at en hk hl0
    have ty : tyV X.K "list" (.ref q) H := .inl ⟨rfl, xs0, SqL.of e1⟩
    refine ⟨_, e2, ty, B, ρ, en, (Out.bind h).mono fun r _ h v H1 f1 en1 r1 => ?_⟩
    obtain ⟨w, ρ1⟩ := r
    cases w with
    | o j => exact h.elim
    | d y =>
      obtain ⟨d, hd, h⟩ := (Out.bind (show Out C B E ((rs ρ1 (.o k)).bind _) _ from h)).rs
      obtain ⟨d', hd', h⟩ := (Out.bind h).ofO
      obtain ⟨q', e3, o1⟩ := own_at en1 hk hd
      rw [e2] at e3
      cases e3
      unfold extD at hd'
      split at hd'
      · split at hd'
        · rename_i hl
          cases hd'
          cases o1 with
          | lst eq rr =>
            have r2 : Rp C (Opn B ow σ) H1 v (.lst _) := r1
            cases r2 with
            | lst n eb sr =>
              obtain ⟨f, f', r'⟩ := own_put en1 hk e2 eq (fun xs => nofun) (.lst (_ ++ _)) (rr.app sr)
              exact ⟨q, _, _, _, rfl, rfl, eq, eb, by rw [rr.len, sr.len]; exact big_line hl, h .non _ (f1.trans f) (en1.put hk e2 f' (.lst upd_same r')) .non⟩
        · cases hd'
      · cases hd'
end
end VL
namespace VL
open PySem PySem.Spec PyProof.Rows L2
section
variable {X : Cx} {C : Cf} {io : Bool} {E : XK} {ow : List Nat} {a b c tg : Expr} {p pos : Pos} {gr : GA}
/-! ## range downward -/
def rngC (lo c : Int) (n : Nat) : List D := (List.range n).map fun (k : Nat) => D.int (lo + (k : Int) * c)
theorem wk_rngC {lo c : Int} {n : Nat} : Wk C (Itc lo c n) [] (rngC lo c n) where
  go := fun O H i _ hi => by
    show i < n
    simpa [rngC] using hi
  stop := fun O H _ => by simp [Itc, rngC]
  yld := fun O H i x H' _ _ hi hy => by
    obtain ⟨rfl, rfl⟩ := hy
    refine ⟨_, ?_, Ex.refl, .int _⟩
    unfold rngC at hi ⊢
    rw [List.getElem?_map, List.getElem?_range (by simpa using hi)]
    rfl
def rng3 : List W → Option (List D)
  | [.d (.int i), .d (.int j), .d (.int k)] => if k = -1 ∧ -1000000000 ≤ i ∧ i ≤ 1000000000 ∧ -1000000000 ≤ j ∧ j ≤ 1000000000 ∧ i - j ≤ 1000000 then some (rngC i (-1) (i - j).toNat) else none
  | _ => none
theorem rng3_ok : ∀ {ws : List W} {ds : List D}, rng3 ws = some ds → ∃ i j, ws = [.d (.int i), .d (.int j), .d (.int (-1))] ∧ (-1000000000 ≤ i ∧ i ≤ 1000000000 ∧ -1000000000 ≤ j ∧ j ≤ 1000000000 ∧ i - j ≤ 1000000) ∧ ds = rngC i (-1) (i - j).toNat := by
  intro ws ds h
  unfold rng3 at h
  split at h
  · split at h
    · rename_i hj
      obtain ⟨rfl, hj⟩ := hj
      cases h
      exact ⟨_, _, rfl, hj, rfl⟩
    · cases h
  · cases h
theorem vi_range3 (hg : Gl X "range") (hm : X.mg "range" = none) (ha : PA X [a, b, c] (tA C io E ow gr))
    (hs : starEach [a, b, c] X.env = (false, eval a X.env) :: starEach [b, c] X.env := by rfl) (hpl : (backTo pos (starEach [b, c] X.env)).any (·.1) = false := by rfl) : PI X tg (.Call (.Name "range" p) [a, b, c] [] pos) (tI C io E ow (gRng rng3 gr)) :=
  PI.imp (pi_range3 hg hm ha hs hpl) fun σ H R ⟨B, ρ, en, o⟩ => ⟨B, ρ, en, (Out.bind o).mono fun r _ o vs H1 f1 en1 r1 => by
    obtain ⟨ws, ρ'⟩ := r
    obtain ⟨ds, hd, o⟩ := (Out.bind o).ofO
    obtain ⟨i, j, rfl, h1, rfl⟩ := rng3_ok hd
    match vs, r1 with
    | [v, u, w], r1 =>
      have r2 := r1.1
      have r3 := r1.2.1
      have r4 := r1.2.2.1
      cases r2
      cases r3
      cases r4
      refine ⟨i, j, -1, _, rfl, RgC.neg (by omega) (by omega) (by omega) (by omega), o _ [] _ f1 en1 wk_rngC ?_⟩
      unfold rngC
      rw [List.length_map, List.length_range]
      exact small_n (by omega)
    | [], r1 => exact r1.elim
    | [_], r1 => exact r1.2.elim
    | [_, _], r1 => exact r1.2.2.elim
    | _ :: _ :: _ :: _ :: _, r1 => exact r1.2.2.2.elim⟩
/-! ## reversed(list) -/
theorem wk_rev {K : PySem.W.Frag} (hK : C.K = K) {a : Addr} {ds : List D} : Wk C (Itv K a ds.length) [(.ref a, .lst ds)] ds.reverse where
  go := fun O H i hq hi => by
    have r := hq _ List.mem_cons_self
    rw [List.length_reverse] at hi
    cases r with
    | lst _ e rr =>
      subst hK
      obtain ⟨v, hv, _⟩ := rr.atD (List.getElem?_eq_getElem (show ds.length - 1 - i < ds.length by omega))
      exact ⟨hi, _, v, SqL.of e, hv⟩
  stop := fun O H hq => by
    rw [List.length_reverse]
    exact Nat.le_refl _
  yld := fun O H i x H' hO hq hi hy => by
    have r := hq _ List.mem_cons_self
    rw [List.length_reverse] at hi
    cases r with
    | lst n e rr =>
      subst hK
      obtain ⟨rfl, hy⟩ := hy
      obtain ⟨d, hd, rd⟩ := rr.at (hy _ (SqL.of e))
      exact ⟨d, by rw [List.getElem?_reverse hi]; exact hd, Ex.refl, rd⟩
def rvD : List W → Option (List D)
  | [.d (.lst ds)] => some ds.reverse
  | _ => none
theorem vi_rev (hC : C.K = X.K) (hg : Gl X "reversed") (hm : X.mg "reversed" = none) (ha : PA X [a] (tA C io E ow gr)) (hs : starEach [a] X.env = [(false, eval a X.env)] := by rfl) : PI X tg (.Call (.Name "reversed" p) [a] [] pos) (tI C io E ow (gRng rvD gr)) :=
  PI.imp (pi_reversed hg hm (PA.sz ha) hs) fun σ H R ⟨B, ρ, en, o⟩ => by
    refine ⟨B, ρ, en, ?_⟩
    unfold gRng at o
    refine (Out.bind o).mono fun r _ o vs H1 f1 en1 r1 sz => ?_
    obtain ⟨ws, ρ'⟩ := r
    obtain ⟨ds, hds, o⟩ := (Out.bind (show Out C B E ((ofO (rvD ws)).bind fun ds => .ok (ds, ρ')) _ from o)).ofO
    unfold rvD at hds
    split at hds
    · cases hds
      match vs, r1 with
      | [v], r1 =>
        have r2 := r1.1
        cases r2 with
        | lst n e rr =>
          refine ⟨_, _, rfl, SqL.of e, ?_⟩
          rw [rr.len]
          refine o _ _ _ f1 (hold1 en1 (.lst n e rr)) (wk_rev hC) ?_
          rw [List.length_reverse, ← rr.len]
          exact sz.lst _ _ (SqL.of e)
    · cases hds
end
end VL
namespace VL
open PySem PySem.Spec PyProof.Rows L2
/-! ## two new lists held in a new list, compared, unpacked, changed -/
section
variable {C : Cf} {io : Bool} {B : Bs} {ow ow' : List Nat} {H H' : Hp} {σ : L2.St} {ρ : Env}
theorem En.setN (e : En C io B ow H σ ρ) {i : Nat} {v : V} (hi : i ∉ ow) : En C io B ow H (σ.set i (some v)) (ρ.set i none) where
  fr := e.fr
  o0 := e.o0
  iom := by
    have q := e.iom
    cases io with
    | true =>
      obtain ⟨p, e1, e2, hk, e3⟩ := q
      exact ⟨p, e1, e2, hk, by rw [List.getElem?_set_ne (fun (z : i = 0) => hi (z ▸ hk))]; exact e3⟩
    | false => exact q
  len := by rw [List.length_set, List.length_set]; exact e.len
  val := fun j c h n => by
    rw [opn_set hi]
    by_cases hj : i = j
    · subst hj
      rw [List.getElem?_set] at h
      split at h
      · split at h
        · cases h
        · cases h
      · contradiction
    · rw [List.getElem?_set_ne hj] at h
      obtain ⟨u, a, q⟩ := e.val j c h n
      exact ⟨u, by rw [List.getElem?_set_ne hj]; exact a, q⟩
  own := fun j h => by
    rw [opn_set hi]
    have ne : i ≠ j := fun z => hi (z ▸ h)
    obtain ⟨p, c, a, b, o, z⟩ := e.own j h
    exact ⟨p, c, by rw [List.getElem?_set_ne ne]; exact a, by rw [List.getElem?_set_ne ne]; exact b, o, z⟩
  dis := fun a b p ha hb h1 h2 => by
    rw [List.getElem?_set_ne (fun (z : i = a) => hi (z ▸ ha))] at h1
    rw [List.getElem?_set_ne (fun (z : i = b) => hi (z ▸ hb))] at h2
    exact e.dis a b p ha hb h1 h2
  tmp := fun p c h => by rw [opn_set hi, ownA_set hi]; exact e.tmp p c h
  tnd := e.tnd
  pin := fun q h => by rw [opn_set hi]; exact e.pin q h
end
/-- a new thing may be taken as a value -/
theorem spF_D {C : Cf} {n : Nat} {F : List D → Res D} {vs : List V} {H : Hp} {Q : VK} {E : XK} (h : spD C n F vs H Q E) : spF C n F vs H Q E := by
  obtain ⟨O, ds, hn, hO, r, h⟩ := h
  refine ⟨O, ds, hn, hO, r, ?_⟩
  cases hF : F ds with
  | ok d => rw [hF] at h; exact fun q H' f hq o => h (.ref q) H' f (o.rp (fun _ z => .inl z) fun z => hO q z hq)
  | er c fs xs => rw [hF] at h; exact h
  | st => rw [hF] at h; exact h
section
variable {X : Cx} {C : Cf} {io : Bool} {E : XK} {ow ow2 owL : List Nat} {e1 e2 e3 : Expr} {g1 g2 : GF} {g3 : G} {body rest : List Stmt} {sb sr : GS} {i a b : Nat} {x xa xb : Str}
theorem pe_appv {k : Nat} {o e : Expr} {c : V} {apos cpos : Pos} (ho : PE X o (tVar k)) (he : PE X e (tC c)) (hbase : attributeBase o "append" X.env (eval o X.env) = eval o X.env := by rfl)
    (hfew : ((backTo cpos (starEach [e] X.env)).all (fun x => !x.1) && (backToKw cpos (keywordEach [] X.env)).all (fun x => x.1.isSome)
      && decide ([e].length + ([] : List Keyword).length + (if ([] : List Keyword).isEmpty then 0 else 1) < 30)) = true := by rfl)
    (hline : (apos.endLine == cpos.line) = true := by rfl) (hs : starEach [e] X.env = (false, eval e X.env) :: starEach [] X.env := by rfl) (hplain : (backTo cpos (starEach [] X.env)).any (·.1) = false := by rfl) :
    PE X (.Call (.Attribute o "append" apos) [e] [] cpos) (fun σ H Q => ∃ q xs, σ[k]? = some (some (.ref q)) ∧ H q = some (.lst xs) ∧ xs.length < big ∧ Q .non (upd H q (.lst (xs ++ [c])))) :=
  PE.imp (pe_bm PySem.F.plainAttrs_list PySem.F.slot_list_append PySem.F.type_list_append mt_append ho (pa_cons he pa_nil hs) hbase hfew hline hs hplain) fun σ H Q ⟨q, xs, h2, h1, hl, h⟩ =>
    ⟨_, h2, .inl ⟨rfl, xs, SqL.of h1⟩, q, xs, c, rfl, rfl, h1, Nat.lt_of_lt_of_le hl (by decide), h⟩
def shortL : D → Bool
  | .lst ds => decide (ds.length < big)
  | _ => false
theorem shortL_ok {O : Hs} {H : Hp} {p : Addr} {d : D} (o : Own C O H p d) (h : shortL d = true) : ∃ xs ds, d = .lst ds ∧ H p = some (.lst xs) ∧ RpL C O H xs ds ∧ xs.length < big := by
  cases o with
  | lst e r => exact ⟨_, _, rfl, e, r, by rw [r.len]; exact of_decide_eq_true h⟩
  | dct => cases h
  | ins => cases h
theorem Own.lstAt {O : Hs} {H : Hp} {p : Addr} {xs : List V} {ds : List D} (o : Own C O H p (.lst ds)) (h : H p = Option.some (.lst xs)) : RpL C O H xs ds := by
  cases o with
  | lst e r => rw [h] at e; cases e; exact r
theorem En.tperm {B : Bs} {H : Hp} {σ : L2.St} {ρ : Env} {T T' : List (Addr × D)} (h : T.Perm T') (e : En C io { B with T := T } ow H σ ρ) : En C io { B with T := T' } ow H σ ρ := by
  have hO : Opn { B with T := T } ow σ = Opn { B with T := T' } ow σ := by
    funext b
    unfold Opn
    simp only [h.mem_iff]
  exact ⟨e.fr, e.o0, e.iom, e.len, hO ▸ e.val, hO ▸ e.own, e.dis, fun p d hp => hO ▸ e.tmp p d (h.mem_iff.mpr hp), (h.map (·.1)).nodup_iff.mp e.tnd, hO ▸ e.pin⟩
theorem En.tapp {B : Bs} {H : Hp} {σ : L2.St} {ρ : Env} {q : Addr} {xs : List V} {ds : List D} {v : V} {c : D} (e : En C io { B with T := (q, .lst ds) :: B.T } ow H σ ρ) (hx : H q = some (.lst xs)) (r : RpL C (Opn { B with T := (q, .lst ds) :: B.T } ow σ) H xs ds) (rv : ∀ O H, Rp C O H v c) :
    En C io { B with T := (q, .lst (ds ++ [c])) :: B.T } ow (upd H q (.lst (xs ++ [v]))) σ ρ := by
  have f : Ex (fun b => b = q) H (upd H q (.lst (xs ++ [v]))) := Ex.put rfl hx fun xs => nofun
  have ho : ∀ b, b = q → Opn { B with T := (q, .lst ds) :: B.T } ow σ b := fun b z => by subst z; exact .inr (.inr ⟨_, List.mem_cons_self⟩)
  exact e.tput f (.lst upd_same ((RpL.keep f ho r).snoc (rv _ _)))
/-- i = [g1, g2]; if i != g3: sb; a, b = i; a.append(..); b.append(..): what a and b are behind it is not told -/
def gTwo (i a b : Nat) (g1 g2 : GF) (g3 : G) (sb : GS) : GS := fun ρ => (g1 ρ).bind fun r => (g2 r.2).bind fun s => if ¬ (i < s.2.length ∧ a < s.2.length ∧ b < s.2.length) then .st else (g3 (s.2.set i none)).bind fun t => (rs t.2 t.1).bind fun y => (ofO (neD (.lst [r.1, s.1]) y)).bind fun z => match z with
  | .bl true => (sb t.2).bind fun f => match f with
    | .rt d ρ' => .ok (.rt d ρ')
    | _ => .st
  | .bl false => if shortL r.1 = true ∧ shortL s.1 = true then .ok (.nx ((t.2.set a none).set b none)) else .st
  | _ => .st
theorem gTwo_ap (i a b : Nat) (g1 g2 : GF) (g3 : G) (sb : GS) (ρ : Env) : gTwo i a b g1 g2 g3 sb ρ = ((g1 ρ).bind fun r => (g2 r.2).bind fun s => if ¬ (i < s.2.length ∧ a < s.2.length ∧ b < s.2.length) then .st else (g3 (s.2.set i none)).bind fun t => (rs t.2 t.1).bind fun y => (ofO (neD (.lst [r.1, s.1]) y)).bind fun z => match z with
  | .bl true => (sb t.2).bind fun f => match f with
    | .rt d ρ' => .ok (.rt d ρ')
    | _ => .st
  | .bl false => if shortL r.1 = true ∧ shortL s.1 = true then .ok (.nx ((t.2.set a none).set b none)) else .st
  | _ => .st) := rfl
theorem vss_two {p1 p2 p3 p4 p5 p6 p7 p8 p9 p10 p11 : Pos} {kt : Nat} {eo eo2 callA callB : Expr} {ca cb : V} {da db : D} (hc : X.calm = true) (hC : C.K = X.K) (hN : X.N.Nodup)
    (hi : X.N[i]? = some x) (hx : Loc X.env.scope x) (ha : X.N[a]? = some xa) (hxa : Loc X.env.scope xa) (hb : X.N[b]? = some xb) (hxb : Loc X.env.scope xb)
    (h1 : PE X e1 (tF C io E ow g1)) (h2 : PE X e2 (tF C io E ow g2)) (hn : PE X eo (tVar i)) (hn2 : PE X eo2 (tVar i)) (h3 : PE X e3 (tV C io E ow g3)) (hop : OpR X (compareOp .NotEq) (rD C neD))
    (hbody : PSs X body (tS C io E ow ow owL sb)) (rva : ∀ O H, Rp C O H ca da) (rvb : ∀ O H, Rp C O H cb db) (hrest : PSs X rest (tS C io E ow ow2 owL sr))
    (ni : i ∉ ow) (na : a ∉ ow) (nb : b ∉ ow) (nab : a ≠ b) 
    (f1 : X.fn x = true ∨ X.env.scope.names.lookup x = some .local) (f2 : X.fn xa = true ∨ X.env.scope.names.lookup xa = some .local) (f3 : X.fn xb = true ∨ X.env.scope.names.lookup xb = some .local)
    (s1 : swapsWith (.List [e1, e2] p2) (some (.Name x p1)) p3.line X.env = pure false)
    (t1 : starEach [e1, e2] X.env = (false, eval e1 X.env) :: starEach [e2] X.env) (t2 : starEach [e2] X.env = (false, eval e2 X.env) :: starEach [] X.env)
    (hm : behindInMarks .NotEq e3 = false)
    (s2 : swapsWithSole [.Tuple [.Name xa p6, .Name xb p7] kt p8] eo2 p9.line X.env = pure false) (s3 : swappedStores [.Tuple [.Name xa p6, .Name xb p7] kt p8] eo2 X.env = pure none)
    (s4 : (assignEach [.Tuple [.Name xa p6, .Name xb p7] kt p8] X.env).map (·.2) = [assign (.Tuple [.Name xa p6, .Name xb p7] kt p8) X.env])
    (s5 : (assignEach [.Name xa p6, .Name xb p7] X.env).map (·.2) = assign (.Name xa p6) X.env :: (assignEach [.Name xb p7] X.env).map (·.2))
    (s6 : (assignEach [.Name xb p7] X.env).map (·.2) = assign (.Name xb p7) X.env :: (assignEach [] X.env).map (·.2))
    (s7 : (assignEach [.Name xa p6, .Name xb p7] X.env).length = 2) (s8 : (assignEach [.Name xa p6, .Name xb p7] X.env).findIdx? (·.1) = none)
    (hcA : PE X callA (fun σ H Q => ∃ q xs, σ[a]? = some (some (.ref q)) ∧ H q = some (.lst xs) ∧ xs.length < big ∧ Q .non (upd H q (.lst (xs ++ [ca])))))
    (hcB : PE X callB (fun σ H Q => ∃ q xs, σ[b]? = some (some (.ref q)) ∧ H q = some (.lst xs) ∧ xs.length < big ∧ Q .non (upd H q (.lst (xs ++ [cb])))))
    (s9 : swapsWith callA none p10.line X.env = pure false) (s10 : swapsWith callB none p11.line X.env = pure false) :
    PSs X (.Assign [.Name x p1] (.List [e1, e2] p2) p3 :: .If (.Compare eo [.NotEq] [e3] p4) body [] p5 :: .Assign [.Tuple [.Name xa p6, .Name xb p7] kt p8] eo2 p9 :: .Expr callA p10 :: .Expr callB p11 :: rest)
      (tS C io E ow ow2 owL (gSeq (gTwo i a b g1 g2 g3 sb) sr)) := by
  refine PSs.imp (pss_cons (ps_set hN hi hx (pe_lst (pa_cons h1 (pa_cons h2 pa_nil t2) t1)) s1 f1) (pss_cons (ps_if (pt_cmpR hop hn h3 hm) hbody pss_nil) (pss_cons (ps_asg hn2 (pg_lst hc (pgs_cons (pg_name hN ha hxa f2) (pgs_cons (pg_name hN hb hxb f3) pgs_nil s6) s5) s7 s8) s2 s3 s4)
    (pss_cons (ps_expr hcA s9) (pss_cons (ps_expr hcB s10) hrest))))) fun D σ H ⟨B, ρ, hT, en, o⟩ => ?_
  refine ⟨B, ρ, en, (Out.bind (Out.bind o)).mono fun r _ o q1 H1 f1 en1 => ⟨_, r.2, en1, (Out.bind o).mono fun s _ o q2 H2 f2 en2 => ⟨show 2 ≤ sizeLine by decide, fun p hp => ?_⟩⟩⟩
  split at o
  · exact o.elim
  rename_i hlen
  have hlen : i < s.2.length ∧ a < s.2.length ∧ b < s.2.length := Classical.not_not.mp hlen
  have en3 := (en2.grow (Ex.new (o := .lst [.ref q1, .ref q2]) hp)).setN (v := .ref p) ni
  have hA : ∀ b, ownA ow (σ.set i (some (.ref p))) b → ownA ow σ b := fun b z => by rw [ownA_set ni] at z; exact z
  have hnp : ¬ ownA ow (σ.set i (some (.ref p))) p := fun z => en2.there p (.inr (.inl (hA p z))) hp
  have hnO : ¬ B.O0 p := fun z => en2.there p (.inl z) hp
  have hil : i < σ.length := by rw [en2.len]; exact hlen.1
  have hal : a < σ.length := by rw [en2.len]; exact hlen.2.1
  have hbl : b < σ.length := by rw [en2.len]; exact hlen.2.2
  refine ⟨_, List.getElem?_set_self hil, _, _, en3, (Out.bind o).mono fun t _ o v H4 f4 en4 r4 => ?_⟩
  obtain ⟨y, hy, o⟩ := (Out.bind o).rs
  obtain ⟨z, hz, o⟩ := (Out.bind o).ofO
  have hp4 : H4 p = some (.lst [.ref q1, .ref q2]) := f4.keep p _ upd_same hnp
  -- the list as a value
  obtain ⟨e5, r5⟩ := en4.old
  have r4' := Rw.rt en4 r4 hy
  have hO2 : ∀ b, Opn B ow (σ.set i (some (.ref p))) b → Opn { B with T := [(q1, r.1)] } ow (σ.set i (some (.ref p))) b := by
    rintro b (h | h | ⟨d, h⟩)
    · exact .inl h
    · exact .inr (.inl h)
    · rw [hT] at h; cases h
  have e5' : En C io { B with T := (q1, r.1) :: B.T } ow H4 (σ.set i (some (.ref p))) t.2 := e5
  obtain ⟨e6, r6⟩ := e5'.old
  have hOp : ¬ Opn B ow (σ.set i (some (.ref p))) p := by
    rintro (h | h | ⟨d, h⟩)
    · exact hnO h
    · exact hnp h
    · rw [hT] at h; cases h
  have hl1 : ∀ b, Opn B ow (σ.set i (some (.ref p))) b → Opn { B with T := (q1, r.1) :: B.T } ow (σ.set i (some (.ref p))) b := by
    rintro b (h | h | ⟨d, h⟩)
    · exact .inl h
    · exact .inr (.inl h)
    · exact .inr (.inr ⟨d, List.mem_cons_of_mem _ h⟩)
  have hl2 : ∀ b, Opn { B with T := (q1, r.1) :: B.T } ow (σ.set i (some (.ref p))) b → Opn { B with T := (q2, s.1) :: (q1, r.1) :: B.T } ow (σ.set i (some (.ref p))) b := by
    rintro b (h | h | ⟨d, h⟩)
    · exact .inl h
    · exact .inr (.inl h)
    · exact .inr (.inr ⟨d, List.mem_cons_of_mem _ h⟩)
  have hlst : Rp C (Opn B ow (σ.set i (some (.ref p)))) H4 (.ref p) (.lst [r.1, s.1]) := .lst hOp hp4 (.cons r6 (.cons (r5.less hl1) .nil))
  have rt4 : Rt C (Opn B ow (σ.set i (some (.ref p)))) H4 v y := by
    rcases r4' with h | ⟨q, e, h⟩
    · exact .inl (h.less fun b z => hl2 b (hl1 b z))
    · exact .inr ⟨q, e, h.less fun b z => hl2 b (hl1 b z)⟩
  refine ⟨Opn B ow (σ.set i (some (.ref p))), _, y, z, e6.there, .inl hlst, rt4, hz, fun w H5 f5 r5' => ?_⟩
  have en5 := en4.grow f5
  cases z with
  | bl k =>
    cases r5'
    refine ⟨k, rfl, ?_⟩
    cases k with
    | true =>
      rw [if_pos rfl]
      have e7 : En C io { B with T := (q1, r.1) :: B.T } ow H5 (σ.set i (some (.ref p))) t.2 := en5.old.1
      refine ⟨B, t.2, hT, e7.old.1, (Out.bind o).mono fun f _ o => ?_⟩
      cases f with
      | rt d ρ' => exact o
      | _ => exact o.elim
    | false =>
      rw [if_neg Bool.false_ne_true]
      dsimp only at o
      split at o
      · rename_i hsh
        have hp5 : H5 p = some (.lst [.ref q1, .ref q2]) := f5.keep p _ hp4 id
        refine ⟨_, List.getElem?_set_self hil, p, _, rfl, SqL.of hp5, rfl, _, _, rfl, _, _, rfl, rfl, ?_⟩
        have en6 := (en5.setN (v := .ref q1) na).setN (v := .ref q2) nb
        have hs1 : ((((σ.set i (some (.ref p))).set a (some (.ref q1))).set b (some (.ref q2)))[a]?) = some (some (.ref q1)) := by
          rw [List.getElem?_set_ne (Ne.symm nab), List.getElem?_set_self (by rw [List.length_set]; exact hal)]
        have hs2 : ((((σ.set i (some (.ref p))).set a (some (.ref q1))).set b (some (.ref q2)))[b]?) = some (some (.ref q2)) := by
          rw [List.getElem?_set_self (by rw [List.length_set, List.length_set]; exact hbl)]
        obtain ⟨_, _, o2⟩ := en6.tmp q2 s.1 List.mem_cons_self
        obtain ⟨_, _, o1⟩ := en6.tmp q1 r.1 (List.mem_cons_of_mem _ List.mem_cons_self)
        obtain ⟨xs1, ds1, hd1, hx1, hr1, hz1⟩ := shortL_ok o1 hsh.1
        obtain ⟨xs2, ds2, hd2, hx2, hr2, hz2⟩ := shortL_ok o2 hsh.2
        have nq : q1 ≠ q2 := by
          have nd := en6.tnd
          intro z
          have nd : (q2 :: q1 :: B.T.map (·.1)).Nodup := nd
          rw [z] at nd
          exact (List.nodup_cons.mp nd).1 List.mem_cons_self
        refine ⟨q1, xs1, hs1, hx1, hz1, q2, xs2, hs2, (upd_ne (Ne.symm nq)).trans hx2, hz2, ?_⟩
        rw [hd1, hd2] at en6
        have en7 := En.tperm (B := B) (T' := (q1, .lst ds1) :: (q2, .lst ds2) :: B.T) (List.Perm.swap _ _ _) en6
        obtain ⟨_, _, o1'⟩ := en7.tmp q1 _ List.mem_cons_self
        have hr1' := o1'.lstAt hx1
        have en8 := En.tapp (B := { B with T := (q2, .lst ds2) :: B.T }) en7 hx1 hr1' rva
        have en9 := En.tperm (B := B) (T' := (q2, .lst ds2) :: (q1, .lst (ds1 ++ [da])) :: B.T) (List.Perm.swap _ _ _) en8
        obtain ⟨_, _, o2'⟩ := en9.tmp q2 _ List.mem_cons_self
        have hx2' : (upd H5 q1 (.lst (xs1 ++ [ca]))) q2 = some (.lst xs2) := (upd_ne (Ne.symm nq)).trans hx2
        have hr2' := o2'.lstAt hx2'
        have en10 := En.tapp (B := { B with T := (q1, .lst (ds1 ++ [da])) :: B.T }) en9 hx2' hr2' rvb
        have en11 : En C io { B with T := (q1, .lst (ds1 ++ [da])) :: B.T } ow _ _ _ := en10.old.1
        exact ⟨B, _, hT, en11.old.1, o⟩
      · exact o.elim
  | _ => exact o.elim
end
end VL
namespace K34
open PySem PySem.Spec PyProof.Rows L2 VL
open LT (ErrV)
def topS (i : Nat) : Stmt := PySem.Challenge.pw_lazytags_k34_idle_steps_and_swaps.main.body.getD i (.Pass ⟨0, 0, 0, 0⟩)
abbrev s_is_integer : Stmt := topS 2
theorem sc_is_integer : FnScope ["thing", "low", "high"] ["thing", "low", "high"] (defScope s_is_integer) := ⟨rfl, rfl, rfl, by decide +kernel, rfl, by decide +kernel, by decide +kernel⟩
abbrev s_is_size : Stmt := topS 3
theorem sc_is_size : FnScope ["thing"] ["thing"] (defScope s_is_size) := ⟨rfl, rfl, rfl, by decide +kernel, rfl, by decide +kernel, by decide +kernel⟩
abbrev s_is_row : Stmt := topS 4
theorem sc_is_row : FnScope ["thing", "size", "value"] ["thing", "size"] (defScope s_is_row) := ⟨rfl, rfl, rfl, by decide +kernel, rfl, by decide +kernel, by decide +kernel⟩
abbrev s_is_line : Stmt := topS 5
theorem sc_is_line : FnScope ["thing", "many", "bound"] ["thing", "many", "bound"] (defScope s_is_line) := ⟨rfl, rfl, rfl, by decide +kernel, rfl, by decide +kernel, by decide +kernel⟩
abbrev s_is_map : Stmt := topS 6
theorem sc_is_map : FnScope ["thing", "size"] ["thing", "size"] (defScope s_is_map) := ⟨rfl, rfl, rfl, by decide +kernel, rfl, by decide +kernel, by decide +kernel⟩
abbrev s_is_name : Stmt := topS 7
theorem sc_is_name : FnScope ["thing", "letter"] ["thing"] (defScope s_is_name) := ⟨rfl, rfl, rfl, by decide +kernel, rfl, by decide +kernel, by decide +kernel⟩
abbrev s_InvalidSize___init__ : Stmt := inClass (topS 10) 0
theorem sc_InvalidSize___init__ : FnScope ["self", "size"] ["self", "size"] (defScope s_InvalidSize___init__) := ⟨rfl, rfl, rfl, by decide +kernel, rfl, by decide +kernel, by decide +kernel⟩
abbrev s_InvalidRow___init__ : Stmt := inClass (topS 11) 0
theorem sc_InvalidRow___init__ : FnScope ["self", "thing"] ["self", "thing"] (defScope s_InvalidRow___init__) := ⟨rfl, rfl, rfl, by decide +kernel, rfl, by decide +kernel, by decide +kernel⟩
abbrev s_NotASetting___init__ : Stmt := inClass (topS 12) 0
theorem sc_NotASetting___init__ : FnScope ["self", "thing"] ["self", "thing"] (defScope s_NotASetting___init__) := ⟨rfl, rfl, rfl, by decide +kernel, rfl, by decide +kernel, by decide +kernel⟩
abbrev s_InvalidMaps___init__ : Stmt := inClass (topS 13) 0
theorem sc_InvalidMaps___init__ : FnScope ["self", "name"] ["self", "name"] (defScope s_InvalidMaps___init__) := ⟨rfl, rfl, rfl, by decide +kernel, rfl, by decide +kernel, by decide +kernel⟩
abbrev s_InvalidAsks___init__ : Stmt := inClass (topS 14) 0
theorem sc_InvalidAsks___init__ : FnScope ["self", "name"] ["self", "name"] (defScope s_InvalidAsks___init__) := ⟨rfl, rfl, rfl, by decide +kernel, rfl, by decide +kernel, by decide +kernel⟩
abbrev s_InvalidTurning___init__ : Stmt := inClass (topS 15) 0
theorem sc_InvalidTurning___init__ : FnScope ["self", "turning"] ["self", "turning"] (defScope s_InvalidTurning___init__) := ⟨rfl, rfl, rfl, by decide +kernel, rfl, by decide +kernel, by decide +kernel⟩
abbrev s_InvalidDeeds___init__ : Stmt := inClass (topS 16) 0
theorem sc_InvalidDeeds___init__ : FnScope ["self", "place"] ["self", "place"] (defScope s_InvalidDeeds___init__) := ⟨rfl, rfl, rfl, by decide +kernel, rfl, by decide +kernel, by decide +kernel⟩
abbrev s_InvalidPlan___init__ : Stmt := inClass (topS 17) 0
theorem sc_InvalidPlan___init__ : FnScope ["self", "place"] ["self", "place"] (defScope s_InvalidPlan___init__) := ⟨rfl, rfl, rfl, by decide +kernel, rfl, by decide +kernel, by decide +kernel⟩
abbrev s_InvalidLength___init__ : Stmt := inClass (topS 18) 0
theorem sc_InvalidLength___init__ : FnScope ["self", "length"] ["self", "length"] (defScope s_InvalidLength___init__) := ⟨rfl, rfl, rfl, by decide +kernel, rfl, by decide +kernel, by decide +kernel⟩
abbrev s_check_machine : Stmt := topS 20
theorem sc_check_machine : FnScope ["thing", "size", "start", "steps", "answers", "state", "line", "told"] ["thing", "size"] (defScope s_check_machine) := ⟨rfl, rfl, rfl, by decide +kernel, rfl, by decide +kernel, by decide +kernel⟩
abbrev s_has_machine_form : Stmt := topS 21
theorem sc_has_machine_form : FnScope ["thing", "part"] ["thing"] (defScope s_has_machine_form) := ⟨rfl, rfl, rfl, by decide +kernel, rfl, by decide +kernel, by decide +kernel⟩
abbrev s_no_map : Stmt := topS 23
theorem sc_no_map : FnScope ["setting"] ["setting"] (defScope s_no_map) := ⟨rfl, rfl, rfl, by decide +kernel, rfl, by decide +kernel, by decide +kernel⟩
abbrev s_joined : Stmt := topS 24
theorem sc_joined : FnScope ["first", "second", "value"] ["first", "second"] (defScope s_joined) := ⟨rfl, rfl, rfl, by decide +kernel, rfl, by decide +kernel, by decide +kernel⟩
abbrev s_is_range : Stmt := topS 26
theorem sc_is_range : FnScope ["start", "stop", "many"] ["start", "stop", "many"] (defScope s_is_range) := ⟨rfl, rfl, rfl, by decide +kernel, rfl, by decide +kernel, by decide +kernel⟩
abbrev s_Setting___init__ : Stmt := inClass (topS 28) 0
theorem sc_Setting___init__ : FnScope ["self", "size", "maps", "asks", "turning"] ["self", "size", "maps", "asks", "turning"] (defScope s_Setting___init__) := ⟨rfl, rfl, rfl, by decide +kernel, rfl, by decide +kernel, by decide +kernel⟩
abbrev s_Setting_size : Stmt := inClass (topS 28) 1
theorem sc_Setting_size : FnScope ["self"] ["self"] (defScope s_Setting_size) := ⟨rfl, rfl, rfl, by decide +kernel, rfl, by decide +kernel, by decide +kernel⟩
abbrev s_Setting_maps : Stmt := inClass (topS 28) 3
theorem sc_Setting_maps : FnScope ["self"] ["self"] (defScope s_Setting_maps) := ⟨rfl, rfl, rfl, by decide +kernel, rfl, by decide +kernel, by decide +kernel⟩
abbrev s_Setting_deeds : Stmt := inClass (topS 28) 7
theorem sc_Setting_deeds : FnScope ["self", "names"] ["self"] (defScope s_Setting_deeds) := ⟨rfl, rfl, rfl, by decide +kernel, rfl, by decide +kernel, by decide +kernel⟩
abbrev s_checked_maps : Stmt := topS 29
theorem sc_checked_maps : FnScope ["maps", "size", "name"] ["maps", "size"] (defScope s_checked_maps) := ⟨rfl, rfl, rfl, by decide +kernel, rfl, by decide +kernel, by decide +kernel⟩
abbrev s_checked_asks : Stmt := topS 30
theorem sc_checked_asks : FnScope ["asks", "size", "name"] ["asks", "size"] (defScope s_checked_asks) := ⟨rfl, rfl, rfl, by decide +kernel, rfl, by decide +kernel, by decide +kernel⟩
abbrev s_need_setting : Stmt := topS 31
theorem sc_need_setting : FnScope ["thing"] ["thing"] (defScope s_need_setting) := ⟨rfl, rfl, rfl, by decide +kernel, rfl, by decide +kernel, by decide +kernel⟩
abbrev s_need_length : Stmt := topS 36
theorem sc_need_length : FnScope ["thing"] ["thing"] (defScope s_need_length) := ⟨rfl, rfl, rfl, by decide +kernel, rfl, by decide +kernel, by decide +kernel⟩
abbrev s_need_plan : Stmt := topS 37
theorem sc_need_plan : FnScope ["plan", "length", "deeds", "place", "step"] ["plan", "length", "deeds"] (defScope s_need_plan) := ⟨rfl, rfl, rfl, by decide +kernel, rfl, by decide +kernel, by decide +kernel⟩
abbrev s_need_plans : Stmt := topS 38
theorem sc_need_plans : FnScope ["setting", "plans", "length", "plan"] ["setting", "plans", "length"] (defScope s_need_plans) := ⟨rfl, rfl, rfl, by decide +kernel, rfl, by decide +kernel, by decide +kernel⟩
abbrev s_is_step : Stmt := topS 39
theorem sc_is_step : FnScope ["thing", "length", "deeds", "deed", "start", "stop"] ["thing", "length", "deeds"] (defScope s_is_step) := ⟨rfl, rfl, rfl, by decide +kernel, rfl, by decide +kernel, by decide +kernel⟩
abbrev s_cells_after : Stmt := topS 40
theorem sc_cells_after : FnScope ["setting", "plan", "length", "maps", "cells", "deed", "start", "stop", "place", "source", "past"] ["setting", "plan", "length"] (defScope s_cells_after) := ⟨rfl, rfl, rfl, by decide +kernel, rfl, by decide +kernel, by decide +kernel⟩
abbrev s_form_after : Stmt := topS 41
theorem sc_form_after : FnScope ["setting", "plan", "length", "cells", "source", "mapping"] ["setting", "plan", "length"] (defScope s_form_after) := ⟨rfl, rfl, rfl, by decide +kernel, rfl, by decide +kernel, by decide +kernel⟩
abbrev s_is_constant : Stmt := topS 42
theorem sc_is_constant : FnScope ["mapping"] ["mapping"] (defScope s_is_constant) := ⟨rfl, rfl, rfl, by decide +kernel, rfl, by decide +kernel, by decide +kernel⟩
abbrev s_idle : Stmt := topS 43
theorem sc_idle : FnScope ["setting", "plan", "length", "steps", "k"] ["setting", "plan", "length"] (defScope s_idle) := ⟨rfl, rfl, rfl, by decide +kernel, rfl, by decide +kernel, by decide +kernel⟩
abbrev s_swaps : Stmt := topS 44
theorem sc_swaps : FnScope ["setting", "plan", "length", "steps", "swapped", "k"] ["setting", "plan", "length"] (defScope s_swaps) := ⟨rfl, rfl, rfl, by decide +kernel, rfl, by decide +kernel, by decide +kernel⟩
abbrev s_like_plans : Stmt := topS 45
theorem sc_like_plans : FnScope ["setting", "plan", "others", "length", "form", "k", "other"] ["setting", "plan", "others", "length"] (defScope s_like_plans) := ⟨rfl, rfl, rfl, by decide +kernel, rfl, by decide +kernel, by decide +kernel⟩
abbrev s__law_at : Stmt := topS 47
theorem sc__law_at : FnScope ["_law_script", "_law_k"] ["_law_script", "_law_k"] (defScope s__law_at) := ⟨rfl, rfl, rfl, by decide +kernel, rfl, by decide +kernel, by decide +kernel⟩
abbrev s__law_mixed : Stmt := topS 48
theorem sc__law_mixed : FnScope ["_law_cell", "_law_k", "_law_number"] ["_law_cell", "_law_k"] (defScope s__law_mixed) := ⟨rfl, rfl, rfl, by decide +kernel, rfl, by decide +kernel, by decide +kernel⟩
abbrev s__law_purse : Stmt := topS 49
theorem sc__law_purse : FnScope ["_law_script", "_law_at_here", "_law_cell"] ["_law_script", "_law_at_here"] (defScope s__law_purse) := ⟨rfl, rfl, rfl, by decide +kernel, rfl, by decide +kernel, by decide +kernel⟩
abbrev s__law_draw : Stmt := topS 50
theorem sc__law_draw : FnScope ["_law_purse_here", "_law_out_of", "_law_drawn", "_law_number", "_law_k"] ["_law_purse_here", "_law_out_of"] (defScope s__law_draw) := ⟨rfl, rfl, rfl, by decide +kernel, rfl, by decide +kernel, by decide +kernel⟩
abbrev s__law_machine : Stmt := topS 51
theorem sc__law_machine : FnScope ["_law_purse_here", "_law_size", "_law_most", "_law_many", "_law_steps", "_law_state", "_law_value"] ["_law_purse_here", "_law_size", "_law_most"] (defScope s__law_machine) := ⟨rfl, rfl, rfl, by decide +kernel, rfl, by decide +kernel, by decide +kernel⟩
abbrev s__law_own : Stmt := topS 52
theorem sc__law_own : FnScope ["_law_purse_here", "_law_wide", "_law_most", "_law_size", "_law_maps", "_law_asks", "_law_menus", "_law_name", "_law_value"] ["_law_purse_here", "_law_wide", "_law_most"] (defScope s__law_own) := ⟨rfl, rfl, rfl, by decide +kernel, rfl, by decide +kernel, by decide +kernel⟩
abbrev s__law_setting : Stmt := topS 53
theorem sc__law_setting : FnScope ["_law_own_here"] ["_law_own_here"] (defScope s__law_setting) := ⟨rfl, rfl, rfl, by decide +kernel, rfl, by decide +kernel, by decide +kernel⟩
abbrev s__law_deeds : Stmt := topS 54
theorem sc__law_deeds : FnScope ["_law_own_here"] ["_law_own_here"] (defScope s__law_deeds) := ⟨rfl, rfl, rfl, by decide +kernel, rfl, by decide +kernel, by decide +kernel⟩
abbrev s__law_plan : Stmt := topS 55
theorem sc__law_plan : FnScope ["_law_purse_here", "_law_own_here", "_law_long", "_law_most", "_law_acts", "_law_found", "_law_k", "_law_first", "_law_last"] ["_law_purse_here", "_law_own_here", "_law_long", "_law_most"] (defScope s__law_plan) := ⟨rfl, rfl, rfl, by decide +kernel, rfl, by decide +kernel, by decide +kernel⟩
abbrev s__law_form : Stmt := topS 56
theorem sc__law_form : FnScope ["_law_own_here", "_law_steps", "_law_long", "_law_goal", "_law_place", "_law_act", "_law_first", "_law_last", "_law_some", "_law_line", "_law_value"] ["_law_own_here", "_law_steps", "_law_long"] (defScope s__law_form) := ⟨rfl, rfl, rfl, by decide +kernel, rfl, by decide +kernel, by decide +kernel⟩
abbrev s__law_right : Stmt := topS 57
theorem sc__law_right : FnScope ["_law_purse_here", "_law_own_here", "_law_made", "_law_long", "_law_steps", "_law_at_here", "_law_goal", "_law_due", "_law_changed", "_law_k", "_law_told", "_law_first", "_law_last"] ["_law_purse_here", "_law_own_here", "_law_made"] (defScope s__law_right) := ⟨rfl, rfl, rfl, by decide +kernel, rfl, by decide +kernel, by decide +kernel⟩
abbrev s_law : Stmt := topS 58
theorem sc_law : FnScope ["_law_script", "_law_at_here", "_law_purse_here", "_law_own_here", "_law_made", "_law_turn", "_law_some", "_law_steps"] ["_law_script"] (defScope s_law) := ⟨rfl, rfl, rfl, by decide +kernel, rfl, by decide +kernel, by decide +kernel⟩
/-- built-in names that the module leaves -/
structure Z (mg : Str → Option Value) : Prop where
  int : mg "int" = none
  bool : mg "bool" = none
  str : mg "str" = none
  tuple : mg "tuple" = none
  list : mg "list" = none
  dict : mg "dict" = none
  set : mg "set" = none
  isinstance : mg "isinstance" = none
  len : mg "len" = none
  max : mg "max" = none
  min : mg "min" = none
  all : mg "all" = none
  any : mg "any" = none
  range : mg "range" = none
  enumerate : mg "enumerate" = none
  sorted : mg "sorted" = none
  zip : mg "zip" = none
structure Tc (mg : Str → Option Value) : Prop where
  g_MOST_PLACES : ∃ t, mg "MOST_PLACES" = some (.int 60 t)
structure Su0 (K : PySem.W.Frag) (mg : Str → Option Value) (cl : Addr) : Prop where
  gl : mg "Setting" = some (.ref cl)
  kc : Kc ⟨K, mg⟩ ["Setting"]
  f_size : FldOk ⟨K, mg⟩ "Setting" "_size"
  f_maps : FldOk ⟨K, mg⟩ "Setting" "_maps"
  f_asks : FldOk ⟨K, mg⟩ "Setting" "_asks"
  f_turning : FldOk ⟨K, mg⟩ "Setting" "_turning"
section
variable {P : Program} {w : World} {K : PySem.W.Frag} {mg : Str → Option Value} {base : Heap}
end
structure Er (P : Program) (w : World) (K : PySem.W.Frag) (mg : Str → Option Value) (base : Heap) (cs : Nat → Addr) : Prop where
  InvalidSize : ErrV P w K mg base "InvalidSize" "size" (cs 0)
  InvalidRow : ErrV P w K mg base "InvalidRow" "thing" (cs 1)
  NotASetting : ErrV P w K mg base "NotASetting" "thing" (cs 2)
  InvalidMaps : ErrV P w K mg base "InvalidMaps" "name" (cs 3)
  InvalidAsks : ErrV P w K mg base "InvalidAsks" "name" (cs 4)
  InvalidTurning : ErrV P w K mg base "InvalidTurning" "turning" (cs 5)
  InvalidDeeds : ErrV P w K mg base "InvalidDeeds" "place" (cs 6)
  InvalidPlan : ErrV P w K mg base "InvalidPlan" "place" (cs 7)
  InvalidLength : ErrV P w K mg base "InvalidLength" "length" (cs 8)
section
variable {P : Program} {w : World} {K : PySem.W.Frag} {mg : Str → Option Value} {base : Heap} {cs : Nat → Addr} {suc : Addr}
noncomputable def g_is_name : GS := (gSeq (gIfS (gOrT (gNotT (gTru (gCB (isDl ["Setting"]) (gaCons (gVar 0) (gaCons (gC (.ty "str")) gaNil))))) (gB (gOp eqD (gVar 0) (gC (.str "turn")))))
    (gRet false (gC (.bl false)))
    gNil)
    (gRet false (gAnd (gCh leD leD (gC (.int 1)) (gCB lenD (gaCons (gVar 0) gaNil)) (gC (.int 8))) (gCB allD (gaCons (gF (gLc (gItA (gVar 0)) (ggName 1) gYes (gCh leD leD (gC (.str "a")) (gVar 1) (gC (.str "z"))) [1])) gaNil)))))
noncomputable def F_is_name : List D → Res D := runD 2 g_is_name
theorem ok_is_name (z : Z mg) (er : Er P w K mg base cs) (su : Su0 K mg suc) (T : Tc mg) {f : Addr} {fd : FuncData} (F : Fun K "is_name" "is_name" s_is_name f fd) :
    FnOk P w K mg base (L2.CX P w) 1 f fd ["thing"] (spD ⟨K, mg⟩ 1 F_is_name) :=
  okD (ow := []) (k := 0) (m := 2) (g := g_is_name) (Fd := F_is_name) rfl F sc_is_name rfl rfl fun cdv A outer s H E hr =>
    (show PSs _ _ (tS ⟨K, mg⟩ false E [] _ [] (gSeq (gIfS (gOrT (gNotT (gTru (gCB (isDl ["Setting"]) (gaCons (gVar 0) (gaCons (gC (.ty "str")) gaNil))))) (gB (gOp eqD (gVar 0) (gC (.str "turn")))))
    (gRet false (gC (.bl false)))
    gNil)
    (gRet false (gAnd (gCh leD leD (gC (.int 1)) (gCB lenD (gaCons (gVar 0) gaNil)) (gC (.int 8))) (gCB allD (gaCons (gF (gLc (gItA (gVar 0)) (ggName 1) gYes (gCh leD leD (gC (.str "a")) (gVar 1) (gC (.str "z"))) [1])) gaNil)))))) from
      (vss_cons (vs_if (PW.pt (vw_or (vt_not (vt_tru rfl (ve_cb (cD_isi rfl su.kc) (by rfl) z.isinstance (by decide +kernel) (va_cons (ve_var (pv 0)) (va_cons (ve_c (pe_bltn (v := .ty "str") (by rfl) z.str (by decide +kernel) rfl) (fun _ _ => .ty _)) va_nil))))) (vw_or1 (vt_cmp (opD_eq rfl hr.units) (ve_var (pv 0)) (ve_str pe_str))))) (vss_one (vs_ret (ve_bl pe_bl))) vss_nil)
      (vss_one (vs_ret (ve_and (ve_ch opD_le opD_le (ve_int pe_int) (ve_cb (cD_len rfl) (by rfl) z.len (by decide +kernel) (va_cons (ve_var (pv 0)) va_nil)) (ve_int pe_int)) (ve_one (ve_cb (cD_all rfl) (by rfl) z.all (by decide +kernel) (va_cons (ve_f (vf_lc (own := [("letter", 1)]) rfl sc_is_name.nd (vi_any rfl (ve_var (pv 0))) (blkOk_by (own := [("letter", 1)]) (N := ["thing", "letter"]) (sc := (defScope s_is_name)) (by decide +kernel)) (fun _ _ _ _ _ => (vg_name (i := 1) sc_is_name.nd rfl (.inl rfl))) (fun _ _ _ _ _ => vts_nil) (fun _ _ _ _ _ => (ve_ch opD_le opD_le (ve_str pe_str) (ve_var (pv 1)) (ve_str pe_str))))) va_nil))))))))
noncomputable def g_is_integer : GS := (gRet false (gAnd (gCB (isDl ["Setting"]) (gaCons (gVar 0) (gaCons (gC (.ty "int")) gaNil))) (gAnd (gNot (gCB (isDl ["Setting"]) (gaCons (gVar 0) (gaCons (gC (.ty "bool")) gaNil)))) (gCh leD leD (gVar 1) (gVar 0) (gVar 2)))))
noncomputable def F_is_integer : List D → Res D := runD 3 g_is_integer
theorem ok_is_integer (z : Z mg) (er : Er P w K mg base cs) (su : Su0 K mg suc) (T : Tc mg) {f : Addr} {fd : FuncData} (F : Fun K "is_integer" "is_integer" s_is_integer f fd) :
    FnOk P w K mg base (L2.CX P w) 1 f fd ["thing", "low", "high"] (spD ⟨K, mg⟩ 3 F_is_integer) :=
  okD (ow := []) (k := 0) (m := 3) (g := g_is_integer) (Fd := F_is_integer) rfl F sc_is_integer rfl rfl fun cdv A outer s H E hr =>
    (show PSs _ _ (tS ⟨K, mg⟩ false E [] _ [] (gRet false (gAnd (gCB (isDl ["Setting"]) (gaCons (gVar 0) (gaCons (gC (.ty "int")) gaNil))) (gAnd (gNot (gCB (isDl ["Setting"]) (gaCons (gVar 0) (gaCons (gC (.ty "bool")) gaNil)))) (gCh leD leD (gVar 1) (gVar 0) (gVar 2)))))) from
      (vss_one (vs_ret (ve_and (ve_cb (cD_isi rfl su.kc) (by rfl) z.isinstance (by decide +kernel) (va_cons (ve_var (pv 0)) (va_cons (ve_c (pe_bltn (v := .ty "int") (by rfl) z.int (by decide +kernel) rfl) (fun _ _ => .ty _)) va_nil))) (ve_and (ve_not (ve_cb (cD_isi rfl su.kc) (by rfl) z.isinstance (by decide +kernel) (va_cons (ve_var (pv 0)) (va_cons (ve_c (pe_bltn (v := .ty "bool") (by rfl) z.bool (by decide +kernel) rfl) (fun _ _ => .ty _)) va_nil)))) (ve_one (ve_ch opD_le opD_le (ve_var (pv 1)) (ve_var (pv 0)) (ve_var (pv 2)))))))))
noncomputable def g_is_row : GS := (gRet false (gAnd (gCB (isDl ["Setting"]) (gaCons (gVar 0) (gaCons (gC (.ty "tuple")) gaNil))) (gCB allD (gaCons (gF (gLc (gItA (gVar 0)) (ggName 2) gYes (gCall 3 F_is_integer (gaCons (gVar 2) (gaCons (gC (.int 0)) (gaCons (gOp subD (gVar 1) (gC (.int 1))) gaNil)))) [2])) gaNil))))
noncomputable def F_is_row : List D → Res D := runD 3 g_is_row
theorem ok_is_row (z : Z mg) (er : Er P w K mg base cs) (su : Su0 K mg suc) (T : Tc mg) (c_is_integer : LT.Cal P w K mg base (L2.CX P w) "is_integer" 1 ["thing", "low", "high"] (spD ⟨K, mg⟩ 3 F_is_integer)) {f : Addr} {fd : FuncData} (F : Fun K "is_row" "is_row" s_is_row f fd) :
    FnOk P w K mg base (L2.CX P w) 2 f fd ["thing", "size"] (spD ⟨K, mg⟩ 2 F_is_row) :=
  okD (ow := []) (k := 1) (m := 3) (g := g_is_row) (Fd := F_is_row) rfl F sc_is_row rfl rfl fun cdv A outer s H E hr =>
    (show PSs _ _ (tS ⟨K, mg⟩ false E [] _ [] (gRet false (gAnd (gCB (isDl ["Setting"]) (gaCons (gVar 0) (gaCons (gC (.ty "tuple")) gaNil))) (gCB allD (gaCons (gF (gLc (gItA (gVar 0)) (ggName 2) gYes (gCall 3 F_is_integer (gaCons (gVar 2) (gaCons (gC (.int 0)) (gaCons (gOp subD (gVar 1) (gC (.int 1))) gaNil)))) [2])) gaNil))))) from
      (vss_one (vs_ret (ve_and (ve_cb (cD_isi rfl su.kc) (by rfl) z.isinstance (by decide +kernel) (va_cons (ve_var (pv 0)) (va_cons (ve_c (pe_bltn (v := .ty "tuple") (by rfl) z.tuple (by decide +kernel) rfl) (fun _ _ => .ty _)) va_nil))) (ve_one (ve_cb (cD_all rfl) (by rfl) z.all (by decide +kernel) (va_cons (ve_f (vf_lc (own := [("value", 2)]) rfl sc_is_row.nd (vi_any rfl (ve_var (pv 0))) (blkOk_by (own := [("value", 2)]) (N := ["thing", "size", "value"]) (sc := (defScope s_is_row)) (by decide +kernel)) (fun _ _ _ _ _ => (vg_name (i := 2) sc_is_row.nd rfl (.inl rfl))) (fun _ _ _ _ _ => vts_nil) (fun _ _ _ _ _ => (ve_call c_is_integer hr rfl passL (va_cons (ve_var (pv 2)) (va_cons (ve_int pe_int) (va_cons (ve_op (opD_sub) (ve_var (pv 1)) (ve_int pe_int)) va_nil))))))) va_nil)))))))
noncomputable def g_is_line : GS := (gRet false (gAnd (gCall 2 F_is_row (gaCons (gVar 0) (gaCons (gVar 2) gaNil))) (gOp eqD (gCB lenD (gaCons (gVar 0) gaNil)) (gVar 1))))
noncomputable def F_is_line : List D → Res D := runD 3 g_is_line
theorem ok_is_line (z : Z mg) (er : Er P w K mg base cs) (su : Su0 K mg suc) (T : Tc mg) (c_is_row : LT.Cal P w K mg base (L2.CX P w) "is_row" 2 ["thing", "size"] (spD ⟨K, mg⟩ 2 F_is_row)) {f : Addr} {fd : FuncData} (F : Fun K "is_line" "is_line" s_is_line f fd) :
    FnOk P w K mg base (L2.CX P w) 3 f fd ["thing", "many", "bound"] (spD ⟨K, mg⟩ 3 F_is_line) :=
  okD (ow := []) (k := 2) (m := 3) (g := g_is_line) (Fd := F_is_line) rfl F sc_is_line rfl rfl fun cdv A outer s H E hr =>
    (show PSs _ _ (tS ⟨K, mg⟩ false E [] _ [] (gRet false (gAnd (gCall 2 F_is_row (gaCons (gVar 0) (gaCons (gVar 2) gaNil))) (gOp eqD (gCB lenD (gaCons (gVar 0) gaNil)) (gVar 1))))) from
      (vss_one (vs_ret (ve_and (ve_call c_is_row hr rfl (passes_call (takes_of rfl rfl rfl rfl) (fun _ _ _ _ z => z)) (va_cons (ve_var (pv 0)) (va_cons (ve_var (pv 2)) va_nil))) (ve_one (ve_cmp (opD_eq rfl hr.units) (ve_cb (cD_len rfl) (by rfl) z.len (by decide +kernel) (va_cons (ve_var (pv 0)) va_nil)) (ve_var (pv 1))))))))
noncomputable def g_is_map : GS := (gRet false (gCall 3 F_is_line (gaCons (gVar 0) (gaCons (gVar 1) (gaCons (gVar 1) gaNil)))))
noncomputable def F_is_map : List D → Res D := runD 2 g_is_map
theorem ok_is_map (z : Z mg) (er : Er P w K mg base cs) (su : Su0 K mg suc) (T : Tc mg) (c_is_line : LT.Cal P w K mg base (L2.CX P w) "is_line" 3 ["thing", "many", "bound"] (spD ⟨K, mg⟩ 3 F_is_line)) {f : Addr} {fd : FuncData} (F : Fun K "is_map" "is_map" s_is_map f fd) :
    FnOk P w K mg base (L2.CX P w) 4 f fd ["thing", "size"] (spD ⟨K, mg⟩ 2 F_is_map) :=
  okD (ow := []) (k := 3) (m := 2) (g := g_is_map) (Fd := F_is_map) rfl F sc_is_map rfl rfl fun cdv A outer s H E hr =>
    (show PSs _ _ (tS ⟨K, mg⟩ false E [] _ [] (gRet false (gCall 3 F_is_line (gaCons (gVar 0) (gaCons (gVar 1) (gaCons (gVar 1) gaNil)))))) from
      (vss_one (vs_ret (ve_call c_is_line hr rfl (passes_call (takes_of rfl rfl rfl rfl) (fun _ _ _ _ z => z)) (va_cons (ve_var (pv 0)) (va_cons (ve_var (pv 1)) (va_cons (ve_var (pv 1)) va_nil)))))))
noncomputable def g_checked_maps : GS := (gSeq (gIfS (gB (gOp isND (gVar 0) (gC .non)))
    (gRet false (gF gDnew))
    gNil)
    (gSeq (gIfS (gNotT (gTru (gCB (isDl ["Setting"]) (gaCons (gVar 0) (gaCons (gC (.ty "dict")) gaNil)))))
    (gRaise "InvalidMaps" "name" (gC .non))
    gNil)
    (gSeq (gFor (gItA (gF (gCBF sortF (gaCons (gVar 0) gaNil)))) (ggName 2)
    (gIfS (gOrT (gNotT (gTru (gCall 1 F_is_name (gaCons (gVar 2) gaNil)))) (gNotT (gTru (gCall 2 F_is_map (gaCons (gOp ixD (gVar 0) (gVar 2)) (gaCons (gVar 1) gaNil))))))
    (gRaise "InvalidMaps" "name" (gVar 2))
    gNil))
    (gRet false (gF (gDc (gItA (gF (gCBF sortF (gaCons (gVar 0) gaNil)))) (ggName 2) gYes (gVar 2) (gOp ixD (gVar 0) (gVar 2)) [2]))))))
noncomputable def F_checked_maps : List D → Res D := runD 3 g_checked_maps
theorem ok_checked_maps (z : Z mg) (er : Er P w K mg base cs) (su : Su0 K mg suc) (T : Tc mg) (c_is_name : LT.Cal P w K mg base (L2.CX P w) "is_name" 1 ["thing"] (spD ⟨K, mg⟩ 1 F_is_name)) (c_is_map : LT.Cal P w K mg base (L2.CX P w) "is_map" 4 ["thing", "size"] (spD ⟨K, mg⟩ 2 F_is_map)) {f : Addr} {fd : FuncData} (F : Fun K "checked_maps" "checked_maps" s_checked_maps f fd) :
    FnOk P w K mg base (L2.CX P w) 5 f fd ["maps", "size"] (spD ⟨K, mg⟩ 2 F_checked_maps) :=
  okD (ow := []) (k := 4) (m := 3) (g := g_checked_maps) (Fd := F_checked_maps) rfl F sc_checked_maps rfl rfl fun cdv A outer s H E hr =>
    (show PSs _ _ (tS ⟨K, mg⟩ false E [] _ [] (gSeq (gIfS (gB (gOp isND (gVar 0) (gC .non)))
    (gRet false (gF gDnew))
    gNil)
    (gSeq (gIfS (gNotT (gTru (gCB (isDl ["Setting"]) (gaCons (gVar 0) (gaCons (gC (.ty "dict")) gaNil)))))
    (gRaise "InvalidMaps" "name" (gC .non))
    gNil)
    (gSeq (gFor (gItA (gF (gCBF sortF (gaCons (gVar 0) gaNil)))) (ggName 2)
    (gIfS (gOrT (gNotT (gTru (gCall 1 F_is_name (gaCons (gVar 2) gaNil)))) (gNotT (gTru (gCall 2 F_is_map (gaCons (gOp ixD (gVar 0) (gVar 2)) (gaCons (gVar 1) gaNil))))))
    (gRaise "InvalidMaps" "name" (gVar 2))
    gNil))
    (gRet false (gF (gDc (gItA (gF (gCBF sortF (gaCons (gVar 0) gaNil)))) (ggName 2) gYes (gVar 2) (gOp ixD (gVar 0) (gVar 2)) [2]))))))) from
      (vss_cons (vs_if (vt_cmp (opD_isN) (ve_var (pv 0)) (ve_non pe_non)) (vss_one (vs_ret (ve_f vf_dnew))) vss_nil)
      (vss_cons (vs_if (vt_not (vt_tru rfl (ve_cb (cD_isi rfl su.kc) (by rfl) z.isinstance (by decide +kernel) (va_cons (ve_var (pv 0)) (va_cons (ve_c (pe_bltn (v := .ty "dict") (by rfl) z.dict (by decide +kernel) rfl) (fun _ _ => .ty _)) va_nil))))) (vss_one (vs_raise er.InvalidMaps.errC rfl rfl hr (takes_of rfl rfl rfl rfl) rfl (ve_non pe_non))) vss_nil)
      (vss_cons (vs_for (passes_of rfl) rfl (vi_any rfl (ve_f (vf_cb (cF_sorted rfl) (by rfl) z.sorted (by decide +kernel) (va_cons (ve_var (pv 0)) va_nil)))) (vg_name (i := 2) sc_checked_maps.nd rfl (.inl rfl))
      (vss_one (vs_if (PW.pt (vw_or (vt_not (vt_tru rfl (ve_call c_is_name hr rfl (passes_call (takes_of rfl rfl rfl rfl) (fun _ _ _ _ z => z)) (va_cons (ve_var (pv 2)) va_nil)))) (vw_or1 (vt_not (vt_tru rfl (ve_call c_is_map hr rfl (passes_call (takes_of rfl rfl rfl rfl) (fun _ _ _ _ z => z)) (va_cons (ve_sub rfl (hu_of hr) (ve_var (pv 0)) (ve_var (pv 2))) (va_cons (ve_var (pv 1)) va_nil)))))))) (vss_one (vs_raise er.InvalidMaps.errC rfl rfl hr (takes_of rfl rfl rfl rfl) rfl (ve_var (pv 2)))) vss_nil)))
      (vss_one (vs_ret (ve_f (vf_dc (own := [("name", 2)]) rfl sc_checked_maps.nd (vi_any rfl (ve_f (vf_cb (cF_sorted rfl) (by rfl) z.sorted (by decide +kernel) (va_cons (ve_var (pv 0)) va_nil)))) (blkOk_by (own := [("name", 2)]) (N := ["maps", "size", "name"]) (sc := (defScope s_checked_maps)) (by decide +kernel)) (fun _ _ _ _ _ => (vg_name (i := 2) sc_checked_maps.nd rfl (.inl rfl))) (fun _ _ _ _ _ => vts_nil) (fun _ _ _ _ _ => (ve_var (pv 2))) (fun _ _ _ _ _ => (ve_sub rfl (hu_of hr) (ve_var (pv 0)) (ve_var (pv 2))))))))))))
noncomputable def g_is_size : GS := (gRet false (gCall 3 F_is_integer (gaCons (gVar 0) (gaCons (gC (.int 1)) (gaCons (gC (.int 4)) gaNil)))))
noncomputable def F_is_size : List D → Res D := runD 1 g_is_size
theorem ok_is_size (z : Z mg) (er : Er P w K mg base cs) (su : Su0 K mg suc) (T : Tc mg) (c_is_integer : LT.Cal P w K mg base (L2.CX P w) "is_integer" 1 ["thing", "low", "high"] (spD ⟨K, mg⟩ 3 F_is_integer)) {f : Addr} {fd : FuncData} (F : Fun K "is_size" "is_size" s_is_size f fd) :
    FnOk P w K mg base (L2.CX P w) 2 f fd ["thing"] (spD ⟨K, mg⟩ 1 F_is_size) :=
  okD (ow := []) (k := 1) (m := 1) (g := g_is_size) (Fd := F_is_size) rfl F sc_is_size rfl rfl fun cdv A outer s H E hr =>
    (show PSs _ _ (tS ⟨K, mg⟩ false E [] _ [] (gRet false (gCall 3 F_is_integer (gaCons (gVar 0) (gaCons (gC (.int 1)) (gaCons (gC (.int 4)) gaNil)))))) from
      (vss_one (vs_ret (ve_call c_is_integer hr rfl (passes_call (takes_of rfl rfl rfl rfl) (fun _ _ _ _ z => z)) (va_cons (ve_var (pv 0)) (va_cons (ve_int pe_int) (va_cons (ve_int pe_int) va_nil)))))))
noncomputable def g_has_machine_form : GS := (gSeq (gIfS (gOrT (gNotT (gTru (gCB (isDl ["Setting"]) (gaCons (gVar 0) (gaCons (gC (.ty "tuple")) gaNil))))) (gB (gOp neD (gCB lenD (gaCons (gVar 0) gaNil)) (gC (.int 3)))))
    (gRet false (gC (.bl false)))
    gNil)
    (gRet false (gCB allD (gaCons (gF (gLc (gItA (gSl slD (gVar 0) (gPart (gC (.int 1))) gNoPart)) (ggName 1) gYes (gAnd (gCB (isDl ["Setting"]) (gaCons (gVar 1) (gaCons (gC (.ty "tuple")) gaNil))) (gOp gtD (gCB lenD (gaCons (gVar 1) gaNil)) (gC (.int 0)))) [1])) gaNil))))
noncomputable def F_has_machine_form : List D → Res D := runD 2 g_has_machine_form
theorem ok_has_machine_form (z : Z mg) (er : Er P w K mg base cs) (su : Su0 K mg suc) (T : Tc mg) {f : Addr} {fd : FuncData} (F : Fun K "has_machine_form" "has_machine_form" s_has_machine_form f fd) :
    FnOk P w K mg base (L2.CX P w) 1 f fd ["thing"] (spD ⟨K, mg⟩ 1 F_has_machine_form) :=
  okD (ow := []) (k := 0) (m := 2) (g := g_has_machine_form) (Fd := F_has_machine_form) rfl F sc_has_machine_form rfl rfl fun cdv A outer s H E hr =>
    (show PSs _ _ (tS ⟨K, mg⟩ false E [] _ [] (gSeq (gIfS (gOrT (gNotT (gTru (gCB (isDl ["Setting"]) (gaCons (gVar 0) (gaCons (gC (.ty "tuple")) gaNil))))) (gB (gOp neD (gCB lenD (gaCons (gVar 0) gaNil)) (gC (.int 3)))))
    (gRet false (gC (.bl false)))
    gNil)
    (gRet false (gCB allD (gaCons (gF (gLc (gItA (gSl slD (gVar 0) (gPart (gC (.int 1))) gNoPart)) (ggName 1) gYes (gAnd (gCB (isDl ["Setting"]) (gaCons (gVar 1) (gaCons (gC (.ty "tuple")) gaNil))) (gOp gtD (gCB lenD (gaCons (gVar 1) gaNil)) (gC (.int 0)))) [1])) gaNil))))) from
      (vss_cons (vs_if (PW.pt (vw_or (vt_not (vt_tru rfl (ve_cb (cD_isi rfl su.kc) (by rfl) z.isinstance (by decide +kernel) (va_cons (ve_var (pv 0)) (va_cons (ve_c (pe_bltn (v := .ty "tuple") (by rfl) z.tuple (by decide +kernel) rfl) (fun _ _ => .ty _)) va_nil))))) (vw_or1 (vt_cmp (opD_ne rfl hr.units) (ve_cb (cD_len rfl) (by rfl) z.len (by decide +kernel) (va_cons (ve_var (pv 0)) va_nil)) (ve_int pe_int))))) (vss_one (vs_ret (ve_bl pe_bl))) vss_nil)
      (vss_one (vs_ret (ve_cb (cD_all rfl) (by rfl) z.all (by decide +kernel) (va_cons (ve_f (vf_lc (own := [("part", 1)]) rfl sc_has_machine_form.nd (vi_any rfl (ve_sl (slD_ok rfl) (ve_var (pv 0)) (vo_some (ve_int pe_int)) vo_none)) (blkOk_by (own := [("part", 1)]) (N := ["thing", "part"]) (sc := (defScope s_has_machine_form)) (by decide +kernel)) (fun _ _ _ _ _ => (vg_name (i := 1) sc_has_machine_form.nd rfl (.inl rfl))) (fun _ _ _ _ _ => vts_nil) (fun _ _ _ _ _ => (ve_and (ve_cb (cD_isi rfl su.kc) (by rfl) z.isinstance (by decide +kernel) (va_cons (ve_var (pv 1)) (va_cons (ve_c (pe_bltn (v := .ty "tuple") (by rfl) z.tuple (by decide +kernel) rfl) (fun _ _ => .ty _)) va_nil))) (ve_one (ve_cmp (opD_gt) (ve_cb (cD_len rfl) (by rfl) z.len (by decide +kernel) (va_cons (ve_var (pv 1)) va_nil)) (ve_int pe_int))))))) va_nil))))))
noncomputable def g_check_machine : GS := (gSeq (gIfS (gNotT (gTru (gCall 1 F_is_size (gaCons (gVar 1) gaNil))))
    (gRaise "InvalidSize" "size" (gVar 1))
    gNil)
    (gSeq (gIfS (gNotT (gTru (gCall 1 F_has_machine_form (gaCons (gVar 0) gaNil))))
    (gRet false (gTup (gaCons (gC (.str "form")) gaNil)))
    gNil)
    (gSeq (gAsg (gVar 0) (ggTup 3 (ggCons (ggName 2) (ggCons (ggName 3) (ggCons (ggName 4) ggNil)))))
    (gSeq (gFor (gRng enD (gaCons (gVar 3) gaNil)) (ggTup 2 (ggCons (ggName 5) (ggCons (ggName 6) ggNil)))
    (gIfS (gNotT (gTru (gCall 3 F_is_line (gaCons (gVar 6) (gaCons (gVar 1) (gaCons (gCB lenD (gaCons (gVar 3) gaNil)) gaNil))))))
    (gRet false (gTup (gaCons (gC (.str "steps")) (gaCons (gVar 5) gaNil))))
    gNil))
    (gSeq (gIfS (gOrT (gB (gOp neD (gCB lenD (gaCons (gVar 4) gaNil)) (gCB lenD (gaCons (gVar 3) gaNil)))) (gNotT (gTru (gCB allD (gaCons (gF (gLc (gItA (gVar 4)) (ggName 7) gYes (gCall 3 F_is_integer (gaCons (gVar 7) (gaCons (gC (.int 0)) (gaCons (gC (.int 99)) gaNil)))) [7])) gaNil)))))
    (gRet false (gTup (gaCons (gC (.str "answers")) gaNil)))
    gNil)
    (gSeq (gIfS (gNotT (gTru (gCall 3 F_is_integer (gaCons (gVar 2) (gaCons (gC (.int 0)) (gaCons (gOp subD (gCB lenD (gaCons (gVar 3) gaNil)) (gC (.int 1))) gaNil))))))
    (gRet false (gTup (gaCons (gC (.str "start")) gaNil)))
    gNil)
    (gRet false (gC .non))))))))
noncomputable def F_check_machine : List D → Res D := runD 8 g_check_machine
theorem ok_check_machine (z : Z mg) (er : Er P w K mg base cs) (su : Su0 K mg suc) (T : Tc mg) (c_is_integer : LT.Cal P w K mg base (L2.CX P w) "is_integer" 1 ["thing", "low", "high"] (spD ⟨K, mg⟩ 3 F_is_integer)) (c_is_line : LT.Cal P w K mg base (L2.CX P w) "is_line" 3 ["thing", "many", "bound"] (spD ⟨K, mg⟩ 3 F_is_line)) (c_is_size : LT.Cal P w K mg base (L2.CX P w) "is_size" 2 ["thing"] (spD ⟨K, mg⟩ 1 F_is_size)) (c_has_machine_form : LT.Cal P w K mg base (L2.CX P w) "has_machine_form" 1 ["thing"] (spD ⟨K, mg⟩ 1 F_has_machine_form)) {f : Addr} {fd : FuncData} (F : Fun K "check_machine" "check_machine" s_check_machine f fd) :
    FnOk P w K mg base (L2.CX P w) 4 f fd ["thing", "size"] (spD ⟨K, mg⟩ 2 F_check_machine) :=
  okD (ow := []) (k := 3) (m := 8) (g := g_check_machine) (Fd := F_check_machine) rfl F sc_check_machine rfl rfl fun cdv A outer s H E hr =>
    (show PSs _ _ (tS ⟨K, mg⟩ false E [] _ [] (gSeq (gIfS (gNotT (gTru (gCall 1 F_is_size (gaCons (gVar 1) gaNil))))
    (gRaise "InvalidSize" "size" (gVar 1))
    gNil)
    (gSeq (gIfS (gNotT (gTru (gCall 1 F_has_machine_form (gaCons (gVar 0) gaNil))))
    (gRet false (gTup (gaCons (gC (.str "form")) gaNil)))
    gNil)
    (gSeq (gAsg (gVar 0) (ggTup 3 (ggCons (ggName 2) (ggCons (ggName 3) (ggCons (ggName 4) ggNil)))))
    (gSeq (gFor (gRng enD (gaCons (gVar 3) gaNil)) (ggTup 2 (ggCons (ggName 5) (ggCons (ggName 6) ggNil)))
    (gIfS (gNotT (gTru (gCall 3 F_is_line (gaCons (gVar 6) (gaCons (gVar 1) (gaCons (gCB lenD (gaCons (gVar 3) gaNil)) gaNil))))))
    (gRet false (gTup (gaCons (gC (.str "steps")) (gaCons (gVar 5) gaNil))))
    gNil))
    (gSeq (gIfS (gOrT (gB (gOp neD (gCB lenD (gaCons (gVar 4) gaNil)) (gCB lenD (gaCons (gVar 3) gaNil)))) (gNotT (gTru (gCB allD (gaCons (gF (gLc (gItA (gVar 4)) (ggName 7) gYes (gCall 3 F_is_integer (gaCons (gVar 7) (gaCons (gC (.int 0)) (gaCons (gC (.int 99)) gaNil)))) [7])) gaNil)))))
    (gRet false (gTup (gaCons (gC (.str "answers")) gaNil)))
    gNil)
    (gSeq (gIfS (gNotT (gTru (gCall 3 F_is_integer (gaCons (gVar 2) (gaCons (gC (.int 0)) (gaCons (gOp subD (gCB lenD (gaCons (gVar 3) gaNil)) (gC (.int 1))) gaNil))))))
    (gRet false (gTup (gaCons (gC (.str "start")) gaNil)))
    gNil)
    (gRet false (gC .non))))))))) from
      (vss_cons (vs_if (vt_not (vt_tru rfl (ve_call c_is_size hr rfl (passes_call (takes_of rfl rfl rfl rfl) (fun _ _ _ _ z => z)) (va_cons (ve_var (pv 1)) va_nil)))) (vss_one (vs_raise er.InvalidSize.errC rfl rfl hr (takes_of rfl rfl rfl rfl) rfl (ve_var (pv 1)))) vss_nil)
      (vss_cons (vs_if (vt_not (vt_tru rfl (ve_call c_has_machine_form hr rfl (passes_call (takes_of rfl rfl rfl rfl) (fun _ _ _ _ z => z)) (va_cons (ve_var (pv 0)) va_nil)))) (vss_one (vs_ret (ve_tup (va_cons (ve_str pe_str) va_nil)))) vss_nil)
      (vss_cons (vs_asg (ve_var (pv 0)) (vg_tup 3 rfl rfl (vgs_cons (vg_name (i := 2) sc_check_machine.nd rfl (.inl rfl)) (vgs_cons (vg_name (i := 3) sc_check_machine.nd rfl (.inl rfl)) (vgs_cons (vg_name (i := 4) sc_check_machine.nd rfl (.inl rfl)) vgs_nil)))))
      (vss_cons (vs_for (passes_of rfl) rfl (vi_enum rfl (by rfl) z.enumerate (va_cons (ve_var (pv 3)) va_nil)) (vg_tup 2 rfl rfl (vgs_cons (vg_name (i := 5) sc_check_machine.nd rfl (.inl rfl)) (vgs_cons (vg_name (i := 6) sc_check_machine.nd rfl (.inl rfl)) vgs_nil)))
      (vss_one (vs_if (vt_not (vt_tru rfl (ve_call c_is_line hr rfl (passes_call (takes_of rfl rfl rfl rfl) (fun _ _ _ _ z => z)) (va_cons (ve_var (pv 6)) (va_cons (ve_var (pv 1)) (va_cons (ve_cb (cD_len rfl) (by rfl) z.len (by decide +kernel) (va_cons (ve_var (pv 3)) va_nil)) va_nil)))))) (vss_one (vs_ret (ve_tup (va_cons (ve_str pe_str) (va_cons (ve_var (pv 5)) va_nil))))) vss_nil)))
      (vss_cons (vs_if (PW.pt (vw_or (vt_cmp (opD_ne rfl hr.units) (ve_cb (cD_len rfl) (by rfl) z.len (by decide +kernel) (va_cons (ve_var (pv 4)) va_nil)) (ve_cb (cD_len rfl) (by rfl) z.len (by decide +kernel) (va_cons (ve_var (pv 3)) va_nil))) (vw_or1 (vt_not (vt_tru rfl (ve_cb (cD_all rfl) (by rfl) z.all (by decide +kernel) (va_cons (ve_f (vf_lc (own := [("told", 7)]) rfl sc_check_machine.nd (vi_any rfl (ve_var (pv 4))) (blkOk_by (own := [("told", 7)]) (N := ["thing", "size", "start", "steps", "answers", "state", "line", "told"]) (sc := (defScope s_check_machine)) (by decide +kernel)) (fun _ _ _ _ _ => (vg_name (i := 7) sc_check_machine.nd rfl (.inl rfl))) (fun _ _ _ _ _ => vts_nil) (fun _ _ _ _ _ => (ve_call c_is_integer hr rfl passL (va_cons (ve_var (pv 7)) (va_cons (ve_int pe_int) (va_cons (ve_int pe_int) va_nil))))))) va_nil))))))) (vss_one (vs_ret (ve_tup (va_cons (ve_str pe_str) va_nil)))) vss_nil)
      (vss_cons (vs_if (vt_not (vt_tru rfl (ve_call c_is_integer hr rfl (passes_call (takes_of rfl rfl rfl rfl) (fun _ _ _ _ z => z)) (va_cons (ve_var (pv 2)) (va_cons (ve_int pe_int) (va_cons (ve_op (opD_sub) (ve_cb (cD_len rfl) (by rfl) z.len (by decide +kernel) (va_cons (ve_var (pv 3)) va_nil)) (ve_int pe_int)) va_nil)))))) (vss_one (vs_ret (ve_tup (va_cons (ve_str pe_str) va_nil)))) vss_nil)
      (vss_one (vs_ret (ve_non pe_non))))))))))
noncomputable def g_checked_asks : GS := (gSeq (gIfS (gB (gOp isND (gVar 0) (gC .non)))
    (gRet false (gF gDnew))
    gNil)
    (gSeq (gIfS (gNotT (gTru (gCB (isDl ["Setting"]) (gaCons (gVar 0) (gaCons (gC (.ty "dict")) gaNil)))))
    (gRaise "InvalidAsks" "name" (gC .non))
    gNil)
    (gSeq (gFor (gItA (gF (gCBF sortF (gaCons (gVar 0) gaNil)))) (ggName 2)
    (gIfS (gOrT (gNotT (gTru (gCall 1 F_is_name (gaCons (gVar 2) gaNil)))) (gB (gOp notND (gCall 2 F_check_machine (gaCons (gOp ixD (gVar 0) (gVar 2)) (gaCons (gVar 1) gaNil))) (gC .non))))
    (gRaise "InvalidAsks" "name" (gVar 2))
    gNil))
    (gRet false (gF (gDc (gItA (gF (gCBF sortF (gaCons (gVar 0) gaNil)))) (ggName 2) gYes (gVar 2) (gOp ixD (gVar 0) (gVar 2)) [2]))))))
noncomputable def F_checked_asks : List D → Res D := runD 3 g_checked_asks
theorem ok_checked_asks (z : Z mg) (er : Er P w K mg base cs) (su : Su0 K mg suc) (T : Tc mg) (c_is_name : LT.Cal P w K mg base (L2.CX P w) "is_name" 1 ["thing"] (spD ⟨K, mg⟩ 1 F_is_name)) (c_check_machine : LT.Cal P w K mg base (L2.CX P w) "check_machine" 4 ["thing", "size"] (spD ⟨K, mg⟩ 2 F_check_machine)) {f : Addr} {fd : FuncData} (F : Fun K "checked_asks" "checked_asks" s_checked_asks f fd) :
    FnOk P w K mg base (L2.CX P w) 5 f fd ["asks", "size"] (spD ⟨K, mg⟩ 2 F_checked_asks) :=
  okD (ow := []) (k := 4) (m := 3) (g := g_checked_asks) (Fd := F_checked_asks) rfl F sc_checked_asks rfl rfl fun cdv A outer s H E hr =>
    (show PSs _ _ (tS ⟨K, mg⟩ false E [] _ [] (gSeq (gIfS (gB (gOp isND (gVar 0) (gC .non)))
    (gRet false (gF gDnew))
    gNil)
    (gSeq (gIfS (gNotT (gTru (gCB (isDl ["Setting"]) (gaCons (gVar 0) (gaCons (gC (.ty "dict")) gaNil)))))
    (gRaise "InvalidAsks" "name" (gC .non))
    gNil)
    (gSeq (gFor (gItA (gF (gCBF sortF (gaCons (gVar 0) gaNil)))) (ggName 2)
    (gIfS (gOrT (gNotT (gTru (gCall 1 F_is_name (gaCons (gVar 2) gaNil)))) (gB (gOp notND (gCall 2 F_check_machine (gaCons (gOp ixD (gVar 0) (gVar 2)) (gaCons (gVar 1) gaNil))) (gC .non))))
    (gRaise "InvalidAsks" "name" (gVar 2))
    gNil))
    (gRet false (gF (gDc (gItA (gF (gCBF sortF (gaCons (gVar 0) gaNil)))) (ggName 2) gYes (gVar 2) (gOp ixD (gVar 0) (gVar 2)) [2]))))))) from
      (vss_cons (vs_if (vt_cmp (opD_isN) (ve_var (pv 0)) (ve_non pe_non)) (vss_one (vs_ret (ve_f vf_dnew))) vss_nil)
      (vss_cons (vs_if (vt_not (vt_tru rfl (ve_cb (cD_isi rfl su.kc) (by rfl) z.isinstance (by decide +kernel) (va_cons (ve_var (pv 0)) (va_cons (ve_c (pe_bltn (v := .ty "dict") (by rfl) z.dict (by decide +kernel) rfl) (fun _ _ => .ty _)) va_nil))))) (vss_one (vs_raise er.InvalidAsks.errC rfl rfl hr (takes_of rfl rfl rfl rfl) rfl (ve_non pe_non))) vss_nil)
      (vss_cons (vs_for (passes_of rfl) rfl (vi_any rfl (ve_f (vf_cb (cF_sorted rfl) (by rfl) z.sorted (by decide +kernel) (va_cons (ve_var (pv 0)) va_nil)))) (vg_name (i := 2) sc_checked_asks.nd rfl (.inl rfl))
      (vss_one (vs_if (PW.pt (vw_or (vt_not (vt_tru rfl (ve_call c_is_name hr rfl (passes_call (takes_of rfl rfl rfl rfl) (fun _ _ _ _ z => z)) (va_cons (ve_var (pv 2)) va_nil)))) (vw_or1 (vt_cmp (opD_notN) (ve_call c_check_machine hr rfl (passes_call (takes_of rfl rfl rfl rfl) (fun _ _ _ _ z => z)) (va_cons (ve_sub rfl (hu_of hr) (ve_var (pv 0)) (ve_var (pv 2))) (va_cons (ve_var (pv 1)) va_nil))) (ve_non pe_non))))) (vss_one (vs_raise er.InvalidAsks.errC rfl rfl hr (takes_of rfl rfl rfl rfl) rfl (ve_var (pv 2)))) vss_nil)))
      (vss_one (vs_ret (ve_f (vf_dc (own := [("name", 2)]) rfl sc_checked_asks.nd (vi_any rfl (ve_f (vf_cb (cF_sorted rfl) (by rfl) z.sorted (by decide +kernel) (va_cons (ve_var (pv 0)) va_nil)))) (blkOk_by (own := [("name", 2)]) (N := ["asks", "size", "name"]) (sc := (defScope s_checked_asks)) (by decide +kernel)) (fun _ _ _ _ _ => (vg_name (i := 2) sc_checked_asks.nd rfl (.inl rfl))) (fun _ _ _ _ _ => vts_nil) (fun _ _ _ _ _ => (ve_var (pv 2))) (fun _ _ _ _ _ => (ve_sub rfl (hu_of hr) (ve_var (pv 0)) (ve_var (pv 2))))))))))))
noncomputable def g_Setting___init__ : GS := (gSeq (gIfS (gNotT (gTru (gCall 1 F_is_size (gaCons (gVar 1) gaNil))))
    (gRaise "InvalidSize" "size" (gVar 1))
    gNil)
    (gSeq (gSetF' "Setting" "_size" 0 (gVar 1))
    (gSeq (gSetF' "Setting" "_maps" 0 (gCall 2 F_checked_maps (gaCons (gVar 2) (gaCons (gVar 1) gaNil))))
    (gSeq (gSetF' "Setting" "_asks" 0 (gCall 2 F_checked_asks (gaCons (gVar 3) (gaCons (gVar 1) gaNil))))
    (gSeq (gIfS (gNotT (gTru (gCB (isDl ["Setting"]) (gaCons (gVar 4) (gaCons (gC (.ty "bool")) gaNil)))))
    (gRaise "InvalidTurning" "turning" (gVar 4))
    gNil)
    (gSetF' "Setting" "_turning" 0 (gVar 4)))))))
noncomputable def F_Setting___init__ : List D → Res (D × D) := runI 5 g_Setting___init__
theorem ok_Setting___init__ (z : Z mg) (er : Er P w K mg base cs) (su : Su0 K mg suc) (T : Tc mg) (c_checked_maps : LT.Cal P w K mg base (L2.CX P w) "checked_maps" 5 ["maps", "size"] (spD ⟨K, mg⟩ 2 F_checked_maps)) (c_is_size : LT.Cal P w K mg base (L2.CX P w) "is_size" 2 ["thing"] (spD ⟨K, mg⟩ 1 F_is_size)) (c_checked_asks : LT.Cal P w K mg base (L2.CX P w) "checked_asks" 5 ["asks", "size"] (spD ⟨K, mg⟩ 2 F_checked_asks)) {f : Addr} {fd : FuncData} (F : FunD K "__init__" "Setting.__init__" (defArgs s_Setting___init__) (defBody s_Setting___init__) (defScope s_Setting___init__) [.non, .non, .bl false] [] f fd) :
    FnOk P w K mg base (L2.CX P w) 6 f fd ["self", "size", "maps", "asks", "turning"] (spI ⟨K, mg⟩ 5 F_Setting___init__) :=
  okID (ow := [0]) (k := 5) (m := 5) (g := g_Setting___init__) (Fd := F_Setting___init__) rfl F sc_Setting___init__ rfl rfl (by decide) fun cdv A outer s H E hr =>
    (show PSs _ _ (tS ⟨K, mg⟩ true E [0] _ [0] (gSeq (gIfS (gNotT (gTru (gCall 1 F_is_size (gaCons (gVar 1) gaNil))))
    (gRaise "InvalidSize" "size" (gVar 1))
    gNil)
    (gSeq (gSetF' "Setting" "_size" 0 (gVar 1))
    (gSeq (gSetF' "Setting" "_maps" 0 (gCall 2 F_checked_maps (gaCons (gVar 2) (gaCons (gVar 1) gaNil))))
    (gSeq (gSetF' "Setting" "_asks" 0 (gCall 2 F_checked_asks (gaCons (gVar 3) (gaCons (gVar 1) gaNil))))
    (gSeq (gIfS (gNotT (gTru (gCB (isDl ["Setting"]) (gaCons (gVar 4) (gaCons (gC (.ty "bool")) gaNil)))))
    (gRaise "InvalidTurning" "turning" (gVar 4))
    gNil)
    (gSetF' "Setting" "_turning" 0 (gVar 4)))))))) from
      (vss_cons (vs_if (vt_not (vt_tru rfl (ve_call c_is_size hr rfl (passes_call (takes_of rfl rfl rfl rfl) (fun _ _ _ _ z => z)) (va_cons (ve_var (pv 1)) va_nil)))) (vss_one (vs_raise er.InvalidSize.errC rfl rfl hr (takes_of rfl rfl rfl rfl) rfl (ve_var (pv 1)))) vss_nil)
      (vss_cons (vs_fld rfl su.f_size (pv 0) (ve_var (pv 1)))
      (vss_cons (vs_fld rfl su.f_maps (pv 0) (ve_call c_checked_maps hr rfl (passes_call (takes_of rfl rfl rfl rfl) (fun _ _ _ _ z => z)) (va_cons (ve_var (pv 2)) (va_cons (ve_var (pv 1)) va_nil))))
      (vss_cons (vs_fld rfl su.f_asks (pv 0) (ve_call c_checked_asks hr rfl (passes_call (takes_of rfl rfl rfl rfl) (fun _ _ _ _ z => z)) (va_cons (ve_var (pv 3)) (va_cons (ve_var (pv 1)) va_nil))))
      (vss_cons (vs_if (vt_not (vt_tru rfl (ve_cb (cD_isi rfl su.kc) (by rfl) z.isinstance (by decide +kernel) (va_cons (ve_var (pv 4)) (va_cons (ve_c (pe_bltn (v := .ty "bool") (by rfl) z.bool (by decide +kernel) rfl) (fun _ _ => .ty _)) va_nil))))) (vss_one (vs_raise er.InvalidTurning.errC rfl rfl hr (takes_of rfl rfl rfl rfl) rfl (ve_var (pv 4)))) vss_nil)
      (vss_one (vs_fld rfl su.f_turning (pv 0) (ve_var (pv 4))))))))))
noncomputable def g__law_at : GS := (gSeq (gIfS (gB (gOp ltD (gVar 1) (gCB lenD (gaCons (gVar 0) gaNil))))
    (gRet false (gOp ixD (gVar 0) (gVar 1)))
    gNil)
    (gRet false (gC (.int 0))))
noncomputable def F__law_at : List D → Res D := runD 2 g__law_at
theorem ok__law_at (z : Z mg) (er : Er P w K mg base cs) (su : Su0 K mg suc) (T : Tc mg) {f : Addr} {fd : FuncData} (F : Fun K "_law_at" "_law_at" s__law_at f fd) :
    FnOk P w K mg base (L2.CX P w) 1 f fd ["_law_script", "_law_k"] (spD ⟨K, mg⟩ 2 F__law_at) :=
  okD (ow := []) (k := 0) (m := 2) (g := g__law_at) (Fd := F__law_at) rfl F sc__law_at rfl rfl fun cdv A outer s H E hr =>
    (show PSs _ _ (tS ⟨K, mg⟩ false E [] _ [] (gSeq (gIfS (gB (gOp ltD (gVar 1) (gCB lenD (gaCons (gVar 0) gaNil))))
    (gRet false (gOp ixD (gVar 0) (gVar 1)))
    gNil)
    (gRet false (gC (.int 0))))) from
      (vss_cons (vs_if (vt_cmp (opD_lt) (ve_var (pv 1)) (ve_cb (cD_len rfl) (by rfl) z.len (by decide +kernel) (va_cons (ve_var (pv 0)) va_nil))) (vss_one (vs_ret (ve_sub rfl (hu_of hr) (ve_var (pv 0)) (ve_var (pv 1))))) vss_nil)
      (vss_one (vs_ret (ve_int pe_int)))))
noncomputable def g__law_purse : GS := (gSeq (gSet 2 (gCall 2 F__law_at (gaCons (gVar 0) (gaCons (gVar 1) gaNil))))
    (gRetF (gLst (gaCons (gOp modD (gCB intD (gaCons (gCB maxD (gaCons (gOp subD (gVar 2) (gOp powD (gC (.int 10)) (gC (.int 18)))) (gaCons (gC (.int 0)) gaNil))) gaNil)) (gOp powD (gOp powD (gC (.int 10)) (gC (.int 60))) (gC (.int 10)))) (gaCons (gOp modD (gCB intD (gaCons (gVar 2) gaNil)) (gC (.int 2147483647))) (gaCons (gOp mulD (gC (.int 1000)) (gVar 1)) gaNil))))))
noncomputable def F__law_purse : List D → Res D := runF 3 g__law_purse
theorem ok__law_purse (z : Z mg) (er : Er P w K mg base cs) (su : Su0 K mg suc) (T : Tc mg) (c__law_at : LT.Cal P w K mg base (L2.CX P w) "_law_at" 1 ["_law_script", "_law_k"] (spD ⟨K, mg⟩ 2 F__law_at)) {f : Addr} {fd : FuncData} (F : Fun K "_law_purse" "_law_purse" s__law_purse f fd) :
    FnOk P w K mg base (L2.CX P w) 2 f fd ["_law_script", "_law_at_here"] (spF ⟨K, mg⟩ 2 F__law_purse) :=
  okF (ow := []) (k := 1) (m := 3) (g := g__law_purse) (Fd := F__law_purse) rfl F sc__law_purse rfl rfl fun cdv A outer s H E hr =>
    (show PSs _ _ (tS ⟨K, mg⟩ false E [] _ [] (gSeq (gSet 2 (gCall 2 F__law_at (gaCons (gVar 0) (gaCons (gVar 1) gaNil))))
    (gRetF (gLst (gaCons (gOp modD (gCB intD (gaCons (gCB maxD (gaCons (gOp subD (gVar 2) (gOp powD (gC (.int 10)) (gC (.int 18)))) (gaCons (gC (.int 0)) gaNil))) gaNil)) (gOp powD (gOp powD (gC (.int 10)) (gC (.int 60))) (gC (.int 10)))) (gaCons (gOp modD (gCB intD (gaCons (gVar 2) gaNil)) (gC (.int 2147483647))) (gaCons (gOp mulD (gC (.int 1000)) (gVar 1)) gaNil))))))) from
      (vss_cons (vs_set (i := 2) sc__law_purse.nd rfl (.inl rfl) (ve_call c__law_at hr rfl (passes_call (takes_of rfl rfl rfl rfl) (fun _ _ _ _ z => z)) (va_cons (ve_var (pv 0)) (va_cons (ve_var (pv 1)) va_nil))))
      (vss_one (vs_retF (vf_lst (va_cons (ve_op (opD_mod) (ve_ct (cD_int) (by rfl) z.int (by decide +kernel) (va_cons (ve_cb (cD_max rfl) (by rfl) z.max (by decide +kernel) (va_cons (ve_op (opD_sub) (ve_var (pv 2)) (ve_op (opD_pow) (ve_int pe_int) (ve_int pe_int))) (va_cons (ve_int pe_int) va_nil))) va_nil)) (ve_op (opD_pow) (ve_op (opD_pow) (ve_int pe_int) (ve_int pe_int)) (ve_int pe_int))) (va_cons (ve_op (opD_mod) (ve_ct (cD_int) (by rfl) z.int (by decide +kernel) (va_cons (ve_var (pv 2)) va_nil)) (ve_int pe_int)) (va_cons (ve_op (opD_mul rfl) (ve_int pe_int) (ve_var (pv 1))) va_nil))))))))
noncomputable def g__law_mixed : GS := (gSeq (gSet 2 (gOp modD (gCB intD (gaCons (gOp addD (gOp addD (gOp addD (gOp mulD (gVar 0) (gC (.int 1103515245))) (gOp mulD (gOp mulD (gC (.int 7919)) (gVar 1)) (gVar 1))) (gVar 1)) (gC (.int 1))) gaNil)) (gC (.int 2147483647))))
    (gSeq (gSet 2 (gOp modD (gCB intD (gaCons (gOp addD (gOp mulD (gVar 2) (gVar 2)) (gC (.int 69621))) gaNil)) (gC (.int 2147483629))))
    (gRet false (gOp modD (gCB intD (gaCons (gOp mulD (gVar 2) (gC (.int 48271))) gaNil)) (gC (.int 2147483587))))))
noncomputable def F__law_mixed : List D → Res D := runD 3 g__law_mixed
theorem ok__law_mixed (z : Z mg) (er : Er P w K mg base cs) (su : Su0 K mg suc) (T : Tc mg) {f : Addr} {fd : FuncData} (F : Fun K "_law_mixed" "_law_mixed" s__law_mixed f fd) :
    FnOk P w K mg base (L2.CX P w) 1 f fd ["_law_cell", "_law_k"] (spD ⟨K, mg⟩ 2 F__law_mixed) :=
  okD (ow := []) (k := 0) (m := 3) (g := g__law_mixed) (Fd := F__law_mixed) rfl F sc__law_mixed rfl rfl fun cdv A outer s H E hr =>
    (show PSs _ _ (tS ⟨K, mg⟩ false E [] _ [] (gSeq (gSet 2 (gOp modD (gCB intD (gaCons (gOp addD (gOp addD (gOp addD (gOp mulD (gVar 0) (gC (.int 1103515245))) (gOp mulD (gOp mulD (gC (.int 7919)) (gVar 1)) (gVar 1))) (gVar 1)) (gC (.int 1))) gaNil)) (gC (.int 2147483647))))
    (gSeq (gSet 2 (gOp modD (gCB intD (gaCons (gOp addD (gOp mulD (gVar 2) (gVar 2)) (gC (.int 69621))) gaNil)) (gC (.int 2147483629))))
    (gRet false (gOp modD (gCB intD (gaCons (gOp mulD (gVar 2) (gC (.int 48271))) gaNil)) (gC (.int 2147483587))))))) from
      (vss_cons (vs_set (i := 2) sc__law_mixed.nd rfl (.inl rfl) (ve_op (opD_mod) (ve_ct (cD_int) (by rfl) z.int (by decide +kernel) (va_cons (ve_op (opD_add rfl) (ve_op (opD_add rfl) (ve_op (opD_add rfl) (ve_op (opD_mul rfl) (ve_var (pv 0)) (ve_int pe_int)) (ve_op (opD_mul rfl) (ve_op (opD_mul rfl) (ve_int pe_int) (ve_var (pv 1))) (ve_var (pv 1)))) (ve_var (pv 1))) (ve_int pe_int)) va_nil)) (ve_int pe_int)))
      (vss_cons (vs_set (i := 2) sc__law_mixed.nd rfl (.inl rfl) (ve_op (opD_mod) (ve_ct (cD_int) (by rfl) z.int (by decide +kernel) (va_cons (ve_op (opD_add rfl) (ve_op (opD_mul rfl) (ve_var (pv 2)) (ve_var (pv 2))) (ve_int pe_int)) va_nil)) (ve_int pe_int)))
      (vss_one (vs_ret (ve_op (opD_mod) (ve_ct (cD_int) (by rfl) z.int (by decide +kernel) (va_cons (ve_op (opD_mul rfl) (ve_var (pv 2)) (ve_int pe_int)) va_nil)) (ve_int pe_int)))))))
noncomputable def g__law_draw : GS := (gSeq (gIfS (gB (gOp gtD (gOp ixD (gOwn 0) (gC (.int 0))) (gC (.int 0))))
    (gSeq (gSet 2 (gOp modD (gCB intD (gaCons (gOp ixD (gOwn 0) (gC (.int 0))) gaNil)) (gVar 1)))
    (gSeq (gSetIx 0 (gC (.int 0)) (gOp fdivD (gOp ixD (gOwn 0) (gC (.int 0))) (gVar 1)))
    (gRet true (gVar 2))))
    gNil)
    (gSeq (gSet 3 (gC (.int 0)))
    (gSeq (gFor (gRng rng1 (gaCons (gOp addD (gC (.int 1)) (gOp fdivD (gUn bitsD (gVar 1)) (gC (.int 30)))) gaNil)) (ggName 4)
    (gSeq (gSetIx 0 (gC (.int 2)) (gOp addD (gOp ixD (gOwn 0) (gC (.int 2))) (gC (.int 1))))
    (gSet 3 (gOp addD (gOp mulD (gVar 3) (gC (.int 2147483587))) (gCall 2 F__law_mixed (gaCons (gOp ixD (gOwn 0) (gC (.int 1))) (gaCons (gOp ixD (gOwn 0) (gC (.int 2))) gaNil)))))))
    (gRet true (gOp modD (gCB intD (gaCons (gVar 3) gaNil)) (gVar 1))))))
noncomputable def F__law_draw : List D → Res (D × D) := runI 5 g__law_draw
theorem ok__law_draw (z : Z mg) (er : Er P w K mg base cs) (su : Su0 K mg suc) (T : Tc mg) (c__law_mixed : LT.Cal P w K mg base (L2.CX P w) "_law_mixed" 1 ["_law_cell", "_law_k"] (spD ⟨K, mg⟩ 2 F__law_mixed)) {f : Addr} {fd : FuncData} (F : Fun K "_law_draw" "_law_draw" s__law_draw f fd) :
    FnOk P w K mg base (L2.CX P w) 2 f fd ["_law_purse_here", "_law_out_of"] (spI ⟨K, mg⟩ 2 F__law_draw) :=
  okI (ow := [0]) (k := 1) (m := 5) (g := g__law_draw) (Fd := F__law_draw) rfl F sc__law_draw rfl rfl (by decide) fun cdv A outer s H E hr =>
    (show PSs _ _ (tS ⟨K, mg⟩ true E [0] _ [0] (gSeq (gIfS (gB (gOp gtD (gOp ixD (gOwn 0) (gC (.int 0))) (gC (.int 0))))
    (gSeq (gSet 2 (gOp modD (gCB intD (gaCons (gOp ixD (gOwn 0) (gC (.int 0))) gaNil)) (gVar 1)))
    (gSeq (gSetIx 0 (gC (.int 0)) (gOp fdivD (gOp ixD (gOwn 0) (gC (.int 0))) (gVar 1)))
    (gRet true (gVar 2))))
    gNil)
    (gSeq (gSet 3 (gC (.int 0)))
    (gSeq (gFor (gRng rng1 (gaCons (gOp addD (gC (.int 1)) (gOp fdivD (gUn bitsD (gVar 1)) (gC (.int 30)))) gaNil)) (ggName 4)
    (gSeq (gSetIx 0 (gC (.int 2)) (gOp addD (gOp ixD (gOwn 0) (gC (.int 2))) (gC (.int 1))))
    (gSet 3 (gOp addD (gOp mulD (gVar 3) (gC (.int 2147483587))) (gCall 2 F__law_mixed (gaCons (gOp ixD (gOwn 0) (gC (.int 1))) (gaCons (gOp ixD (gOwn 0) (gC (.int 2))) gaNil)))))))
    (gRet true (gOp modD (gCB intD (gaCons (gVar 3) gaNil)) (gVar 1))))))) from
      (vss_cons (vs_if (vt_cmp (opD_gt) (ve_sub rfl (hu_of hr) (ve_own (pv 0)) (ve_int pe_int)) (ve_int pe_int)) (vss_cons (vs_set (i := 2) sc__law_draw.nd rfl (.inl rfl) (ve_op (opD_mod) (ve_ct (cD_int) (by rfl) z.int (by decide +kernel) (va_cons (ve_sub rfl (hu_of hr) (ve_own (pv 0)) (ve_int pe_int)) va_nil)) (ve_var (pv 1))))
      (vss_cons (vs_setIx (hu_of hr) (pv 0) (ve_int pe_int) (ve_op (opD_fdiv) (ve_sub rfl (hu_of hr) (ve_own (pv 0)) (ve_int pe_int)) (ve_var (pv 1))))
      (vss_one (vs_ret (ve_var (pv 2)))))) vss_nil)
      (vss_cons (vs_set (i := 3) sc__law_draw.nd rfl (.inl rfl) (ve_int pe_int))
      (vss_cons (vs_for (passes_of rfl) rfl (vi_range1 (by rfl) z.range (va_cons (ve_op (opD_add rfl) (ve_int pe_int) (ve_op (opD_fdiv) (ve_bits (ve_var (pv 1))) (ve_int pe_int))) va_nil)) (vg_name (i := 4) sc__law_draw.nd rfl (.inl rfl))
      (vss_cons (vs_setIx (hu_of hr) (pv 0) (ve_int pe_int) (ve_op (opD_add rfl) (ve_sub rfl (hu_of hr) (ve_own (pv 0)) (ve_int pe_int)) (ve_int pe_int)))
      (vss_one (vs_set (i := 3) sc__law_draw.nd rfl (.inl rfl) (ve_op (opD_add rfl) (ve_op (opD_mul rfl) (ve_var (pv 3)) (ve_int pe_int)) (ve_call c__law_mixed hr rfl (passes_call (takes_of rfl rfl rfl rfl) (fun _ _ _ _ z => z)) (va_cons (ve_sub rfl (hu_of hr) (ve_own (pv 0)) (ve_int pe_int)) (va_cons (ve_sub rfl (hu_of hr) (ve_own (pv 0)) (ve_int pe_int)) va_nil))))))))
      (vss_one (vs_ret (ve_op (opD_mod) (ve_ct (cD_int) (by rfl) z.int (by decide +kernel) (va_cons (ve_var (pv 3)) va_nil)) (ve_var (pv 1)))))))))
noncomputable def g__law_machine : GS := (gSeq (gSet 3 (gOp addD (gC (.int 1)) (gCallI 2 F__law_draw (gaCons (gOwn 0) (gaCons (gVar 2) gaNil)))))
    (gSeq (gSet 4 (gCB tupleD (gaCons (gF (gLc (gRng rng1 (gaCons (gVar 3) gaNil)) (ggName 5) gYes (gCB tupleD (gaCons (gF (gLc (gRng rng1 (gaCons (gVar 1) gaNil)) (ggName 6) gYes (gCallI 2 F__law_draw (gaCons (gOwn 0) (gaCons (gVar 3) gaNil))) [6])) gaNil)) [5])) gaNil)))
    (gRet true (gTup (gaCons (gCallI 2 F__law_draw (gaCons (gOwn 0) (gaCons (gVar 3) gaNil))) (gaCons (gVar 4) (gaCons (gCB tupleD (gaCons (gF (gLc (gRng rng1 (gaCons (gVar 3) gaNil)) (ggName 5) gYes (gOp ixD (gF (gLst (gaCons (gC (.int 0)) (gaCons (gC (.int 1)) (gaCons (gC (.int 2)) (gaCons (gC (.int 99)) gaNil)))))) (gCallI 2 F__law_draw (gaCons (gOwn 0) (gaCons (gC (.int 4)) gaNil)))) [5])) gaNil)) gaNil)))))))
noncomputable def F__law_machine : List D → Res (D × D) := runI 7 g__law_machine
theorem ok__law_machine (z : Z mg) (er : Er P w K mg base cs) (su : Su0 K mg suc) (T : Tc mg) (c__law_draw : LT.Cal P w K mg base (L2.CX P w) "_law_draw" 2 ["_law_purse_here", "_law_out_of"] (spI ⟨K, mg⟩ 2 F__law_draw)) {f : Addr} {fd : FuncData} (F : Fun K "_law_machine" "_law_machine" s__law_machine f fd) :
    FnOk P w K mg base (L2.CX P w) 3 f fd ["_law_purse_here", "_law_size", "_law_most"] (spI ⟨K, mg⟩ 3 F__law_machine) :=
  okI (ow := [0]) (k := 2) (m := 7) (g := g__law_machine) (Fd := F__law_machine) rfl F sc__law_machine rfl rfl (by decide) fun cdv A outer s H E hr =>
    (show PSs _ _ (tS ⟨K, mg⟩ true E [0] _ [0] (gSeq (gSet 3 (gOp addD (gC (.int 1)) (gCallI 2 F__law_draw (gaCons (gOwn 0) (gaCons (gVar 2) gaNil)))))
    (gSeq (gSet 4 (gCB tupleD (gaCons (gF (gLc (gRng rng1 (gaCons (gVar 3) gaNil)) (ggName 5) gYes (gCB tupleD (gaCons (gF (gLc (gRng rng1 (gaCons (gVar 1) gaNil)) (ggName 6) gYes (gCallI 2 F__law_draw (gaCons (gOwn 0) (gaCons (gVar 3) gaNil))) [6])) gaNil)) [5])) gaNil)))
    (gRet true (gTup (gaCons (gCallI 2 F__law_draw (gaCons (gOwn 0) (gaCons (gVar 3) gaNil))) (gaCons (gVar 4) (gaCons (gCB tupleD (gaCons (gF (gLc (gRng rng1 (gaCons (gVar 3) gaNil)) (ggName 5) gYes (gOp ixD (gF (gLst (gaCons (gC (.int 0)) (gaCons (gC (.int 1)) (gaCons (gC (.int 2)) (gaCons (gC (.int 99)) gaNil)))))) (gCallI 2 F__law_draw (gaCons (gOwn 0) (gaCons (gC (.int 4)) gaNil)))) [5])) gaNil)) gaNil)))))))) from
      (vss_cons (vs_set (i := 3) sc__law_machine.nd rfl (.inr rfl) (ve_op (opD_add rfl) (ve_int pe_int) (ve_callI c__law_draw hr rfl (passes_call (takes_of rfl rfl rfl rfl) (fun _ _ _ _ z => z)) (va_cons (ve_own (pv 0)) (va_cons (ve_var (pv 2)) va_nil)))))
      (vss_cons (vs_set (i := 4) sc__law_machine.nd rfl (.inl rfl) (ve_ct (cD_tuple rfl) (by rfl) z.tuple (by decide +kernel) (va_cons (ve_f (vf_lc (own := [("_law_state", 5)]) rfl sc__law_machine.nd (vi_range1 (by rfl) z.range (va_cons (ve_var (pv 3)) va_nil)) (blkOk_by (own := [("_law_state", 5)]) (N := ["_law_purse_here", "_law_size", "_law_most", "_law_many", "_law_steps", "_law_state", "_law_value"]) (sc := (defScope s__law_machine)) (by decide +kernel)) (fun _ _ _ _ _ => (vg_name (i := 5) sc__law_machine.nd rfl (.inl rfl))) (fun _ _ _ _ _ => vts_nil) (fun _ _ _ _ _ => (ve_ct (cD_tuple rfl) (by rfl) z.tuple (by decide +kernel) (va_cons (ve_f (vf_lc (own := [("_law_value", 6)]) rfl sc__law_machine.nd (vi_range1 (by rfl) z.range (va_cons (ve_var (pv 1)) va_nil)) (blkOk_by (own := [("_law_value", 6)]) (N := ["_law_purse_here", "_law_size", "_law_most", "_law_many", "_law_steps", "_law_state", "_law_value"]) (by rfl)) (fun _ _ _ _ _ => (vg_name (i := 6) sc__law_machine.nd rfl (.inl rfl))) (fun _ _ _ _ _ => vts_nil) (fun _ _ _ _ _ => (ve_callI c__law_draw hr rfl passL (va_cons (ve_own (pv 0)) (va_cons (ve_var (pv 3)) va_nil)))))) va_nil))))) va_nil)))
      (vss_one (vs_ret (ve_tup (va_cons (ve_callI c__law_draw hr rfl (passes_call (takes_of rfl rfl rfl rfl) (fun _ _ _ _ z => z)) (va_cons (ve_own (pv 0)) (va_cons (ve_var (pv 3)) va_nil))) (va_cons (ve_var (pv 4)) (va_cons (ve_ct (cD_tuple rfl) (by rfl) z.tuple (by decide +kernel) (va_cons (ve_f (vf_lc (own := [("_law_state", 5)]) rfl sc__law_machine.nd (vi_range1 (by rfl) z.range (va_cons (ve_var (pv 3)) va_nil)) (blkOk_by (own := [("_law_state", 5)]) (N := ["_law_purse_here", "_law_size", "_law_most", "_law_many", "_law_steps", "_law_state", "_law_value"]) (sc := (defScope s__law_machine)) (by decide +kernel)) (fun _ _ _ _ _ => (vg_name (i := 5) sc__law_machine.nd rfl (.inl rfl))) (fun _ _ _ _ _ => vts_nil) (fun _ _ _ _ _ => (ve_sub rfl (hu_of hr) (ve_f (vf_lst (va_cons (ve_int pe_int) (va_cons (ve_int pe_int) (va_cons (ve_int pe_int) (va_cons (ve_int pe_int) va_nil)))))) (ve_callI c__law_draw hr rfl passL (va_cons (ve_own (pv 0)) (va_cons (ve_int pe_int) va_nil))))))) va_nil)) va_nil)))))))))
noncomputable def g__law_own : GS := (gSeq (gSet 3 (gOp addD (gC (.int 1)) (gCallI 2 F__law_draw (gaCons (gOwn 0) (gaCons (gVar 1) gaNil)))))
    (gSeq (gPar2F 4 5 gDnew gDnew)
    (gSeq (gSet 6 (gF (gLst (gaCons (gF (gLst (gaCons (gC (.str "b")) (gaCons (gC (.str "flip")) (gaCons (gC (.str "zz")) gaNil))))) (gaCons (gF (gLst (gaCons (gC (.str "a")) (gaCons (gC (.str "odd")) (gaCons (gC (.str "zz")) gaNil))))) (gaCons (gF (gLst (gaCons (gC (.str "t")) (gaCons (gC (.str "tu")) (gaCons (gC (.str "turnip")) gaNil))))) gaNil))))))
    (gSeq (gFor (gItA (gSl slD (gOp ixD (gVar 6) (gCallI 2 F__law_draw (gaCons (gOwn 0) (gaCons (gC (.int 3)) gaNil)))) gNoPart (gPart (gCallI 2 F__law_draw (gaCons (gOwn 0) (gaCons (gC (.int 4)) gaNil)))))) (ggName 7)
    (gSetIx 4 (gVar 7) (gCB tupleD (gaCons (gF (gLc (gRng rng1 (gaCons (gVar 3) gaNil)) (ggName 8) gYes (gCallI 2 F__law_draw (gaCons (gOwn 0) (gaCons (gVar 3) gaNil))) [8])) gaNil))))
    (gSeq (gFor (gItA (gSl slD (gOp ixD (gF (gLst (gaCons (gF (gLst (gaCons (gC (.str "odd")) (gaCons (gC (.str "a")) (gaCons (gC (.str "longname")) gaNil))))) (gaCons (gF (gLst (gaCons (gC (.str "o")) (gaCons (gC (.str "odd")) (gaCons (gC (.str "oddity")) gaNil))))) gaNil)))) (gCallI 2 F__law_draw (gaCons (gOwn 0) (gaCons (gC (.int 2)) gaNil)))) gNoPart (gPart (gCallI 2 F__law_draw (gaCons (gOwn 0) (gaCons (gC (.int 3)) gaNil)))))) (ggName 7)
    (gSetIx 5 (gVar 7) (gCallI 3 F__law_machine (gaCons (gOwn 0) (gaCons (gVar 3) (gaCons (gVar 2) gaNil))))))
    (gRet true (gF (gLst (gaCons (gVar 3) (gaCons (gVar 4) (gaCons (gVar 5) (gaCons (gOp eqD (gCallI 2 F__law_draw (gaCons (gOwn 0) (gaCons (gC (.int 2)) gaNil))) (gC (.int 0))) gaNil))))))))))))
noncomputable def F__law_own : List D → Res (D × D) := runI 9 g__law_own
theorem ok__law_own (z : Z mg) (er : Er P w K mg base cs) (su : Su0 K mg suc) (T : Tc mg) (c__law_draw : LT.Cal P w K mg base (L2.CX P w) "_law_draw" 2 ["_law_purse_here", "_law_out_of"] (spI ⟨K, mg⟩ 2 F__law_draw)) (c__law_machine : LT.Cal P w K mg base (L2.CX P w) "_law_machine" 3 ["_law_purse_here", "_law_size", "_law_most"] (spI ⟨K, mg⟩ 3 F__law_machine)) {f : Addr} {fd : FuncData} (F : Fun K "_law_own" "_law_own" s__law_own f fd) :
    FnOk P w K mg base (L2.CX P w) 4 f fd ["_law_purse_here", "_law_wide", "_law_most"] (spI ⟨K, mg⟩ 3 F__law_own) :=
  okI (ow := [0]) (k := 3) (m := 9) (g := g__law_own) (Fd := F__law_own) rfl F sc__law_own rfl rfl (by decide) fun cdv A outer s H E hr =>
    (show PSs _ _ (tS ⟨K, mg⟩ true E [0] _ [0] (gSeq (gSet 3 (gOp addD (gC (.int 1)) (gCallI 2 F__law_draw (gaCons (gOwn 0) (gaCons (gVar 1) gaNil)))))
    (gSeq (gPar2F 4 5 gDnew gDnew)
    (gSeq (gSet 6 (gF (gLst (gaCons (gF (gLst (gaCons (gC (.str "b")) (gaCons (gC (.str "flip")) (gaCons (gC (.str "zz")) gaNil))))) (gaCons (gF (gLst (gaCons (gC (.str "a")) (gaCons (gC (.str "odd")) (gaCons (gC (.str "zz")) gaNil))))) (gaCons (gF (gLst (gaCons (gC (.str "t")) (gaCons (gC (.str "tu")) (gaCons (gC (.str "turnip")) gaNil))))) gaNil))))))
    (gSeq (gFor (gItA (gSl slD (gOp ixD (gVar 6) (gCallI 2 F__law_draw (gaCons (gOwn 0) (gaCons (gC (.int 3)) gaNil)))) gNoPart (gPart (gCallI 2 F__law_draw (gaCons (gOwn 0) (gaCons (gC (.int 4)) gaNil)))))) (ggName 7)
    (gSetIx 4 (gVar 7) (gCB tupleD (gaCons (gF (gLc (gRng rng1 (gaCons (gVar 3) gaNil)) (ggName 8) gYes (gCallI 2 F__law_draw (gaCons (gOwn 0) (gaCons (gVar 3) gaNil))) [8])) gaNil))))
    (gSeq (gFor (gItA (gSl slD (gOp ixD (gF (gLst (gaCons (gF (gLst (gaCons (gC (.str "odd")) (gaCons (gC (.str "a")) (gaCons (gC (.str "longname")) gaNil))))) (gaCons (gF (gLst (gaCons (gC (.str "o")) (gaCons (gC (.str "odd")) (gaCons (gC (.str "oddity")) gaNil))))) gaNil)))) (gCallI 2 F__law_draw (gaCons (gOwn 0) (gaCons (gC (.int 2)) gaNil)))) gNoPart (gPart (gCallI 2 F__law_draw (gaCons (gOwn 0) (gaCons (gC (.int 3)) gaNil)))))) (ggName 7)
    (gSetIx 5 (gVar 7) (gCallI 3 F__law_machine (gaCons (gOwn 0) (gaCons (gVar 3) (gaCons (gVar 2) gaNil))))))
    (gRet true (gF (gLst (gaCons (gVar 3) (gaCons (gVar 4) (gaCons (gVar 5) (gaCons (gOp eqD (gCallI 2 F__law_draw (gaCons (gOwn 0) (gaCons (gC (.int 2)) gaNil))) (gC (.int 0))) gaNil))))))))))))) from
      (vss_cons (vs_set (i := 3) sc__law_own.nd rfl (.inr rfl) (ve_op (opD_add rfl) (ve_int pe_int) (ve_callI c__law_draw hr rfl (passes_call (takes_of rfl rfl rfl rfl) (fun _ _ _ _ z => z)) (va_cons (ve_own (pv 0)) (va_cons (ve_var (pv 1)) va_nil)))))
      (vss_cons (vs_ow (ow2 := [4, 5, 0]) (vs_par2F (i := 4) (j := 5) (by rfl) sc__law_own.nd rfl rfl (by decide) rfl rfl vf_dnew vf_dnew))
      (vss_cons (vs_set (i := 6) sc__law_own.nd rfl (.inl rfl) (ve_f (vf_lst (va_cons (ve_f (vf_lst (va_cons (ve_str pe_str) (va_cons (ve_str pe_str) (va_cons (ve_str pe_str) va_nil))))) (va_cons (ve_f (vf_lst (va_cons (ve_str pe_str) (va_cons (ve_str pe_str) (va_cons (ve_str pe_str) va_nil))))) (va_cons (ve_f (vf_lst (va_cons (ve_str pe_str) (va_cons (ve_str pe_str) (va_cons (ve_str pe_str) va_nil))))) va_nil))))))
      (vss_cons (vs_wk (ow2 := [5, 0]) (vs_for (passes_of rfl) rfl (vi_any rfl (ve_sl (slD_ok rfl) (ve_sub rfl (hu_of hr) (ve_var (pv 6)) (ve_callI c__law_draw hr rfl (passes_call (takes_of rfl rfl rfl rfl) (fun _ _ _ _ z => z)) (va_cons (ve_own (pv 0)) (va_cons (ve_int pe_int) va_nil)))) vo_none (vo_some (ve_callI c__law_draw hr rfl (passes_call (takes_of rfl rfl rfl rfl) (fun _ _ _ _ z => z)) (va_cons (ve_own (pv 0)) (va_cons (ve_int pe_int) va_nil)))))) (vg_name (i := 7) sc__law_own.nd rfl (.inl rfl))
      (vss_one (vs_setIx (hu_of hr) (pv 4) (ve_var (pv 7)) (ve_ct (cD_tuple rfl) (by rfl) z.tuple (by decide +kernel) (va_cons (ve_f (vf_lc (own := [("_law_value", 8)]) rfl sc__law_own.nd (vi_range1 (by rfl) z.range (va_cons (ve_var (pv 3)) va_nil)) (blkOk_by (own := [("_law_value", 8)]) (N := ["_law_purse_here", "_law_wide", "_law_most", "_law_size", "_law_maps", "_law_asks", "_law_menus", "_law_name", "_law_value"]) (sc := (defScope s__law_own)) (by decide +kernel)) (fun _ _ _ _ _ => (vg_name (i := 8) sc__law_own.nd rfl (.inl rfl))) (fun _ _ _ _ _ => vts_nil) (fun _ _ _ _ _ => (ve_callI c__law_draw hr rfl passL (va_cons (ve_own (pv 0)) (va_cons (ve_var (pv 3)) va_nil)))))) va_nil))))))
      (vss_cons (vs_wk (ow2 := [0]) (vs_for (passes_of rfl) rfl (vi_any rfl (ve_sl (slD_ok rfl) (ve_sub rfl (hu_of hr) (ve_f (vf_lst (va_cons (ve_f (vf_lst (va_cons (ve_str pe_str) (va_cons (ve_str pe_str) (va_cons (ve_str pe_str) va_nil))))) (va_cons (ve_f (vf_lst (va_cons (ve_str pe_str) (va_cons (ve_str pe_str) (va_cons (ve_str pe_str) va_nil))))) va_nil)))) (ve_callI c__law_draw hr rfl (passes_call (takes_of rfl rfl rfl rfl) (fun _ _ _ _ z => z)) (va_cons (ve_own (pv 0)) (va_cons (ve_int pe_int) va_nil)))) vo_none (vo_some (ve_callI c__law_draw hr rfl (passes_call (takes_of rfl rfl rfl rfl) (fun _ _ _ _ z => z)) (va_cons (ve_own (pv 0)) (va_cons (ve_int pe_int) va_nil)))))) (vg_name (i := 7) sc__law_own.nd rfl (.inl rfl))
      (vss_one (vs_setIx (hu_of hr) (pv 5) (ve_var (pv 7)) (ve_callI c__law_machine hr rfl (passes_call (takes_of rfl rfl rfl rfl) (fun _ _ _ _ z => z)) (va_cons (ve_own (pv 0)) (va_cons (ve_var (pv 3)) (va_cons (ve_var (pv 2)) va_nil))))))))
      (vss_one (vs_ret (ve_f (vf_lst (va_cons (ve_var (pv 3)) (va_cons (ve_var (pv 4)) (va_cons (ve_var (pv 5)) (va_cons (ve_cmp (opD_eq rfl hr.units) (ve_callI c__law_draw hr rfl (passes_call (takes_of rfl rfl rfl rfl) (fun _ _ _ _ z => z)) (va_cons (ve_own (pv 0)) (va_cons (ve_int pe_int) va_nil))) (ve_int pe_int)) va_nil))))))))))))))
noncomputable def g__law_setting : GS := (gRet false (gF (gMake "Setting" 5 F_Setting___init__ (gaCons (gOp ixD (gVar 0) (gC (.int 0))) (gaCons (gOp ixD (gVar 0) (gC (.int 1))) (gaCons (gOp ixD (gVar 0) (gC (.int 2))) (gaCons (gOp ixD (gVar 0) (gC (.int 3))) gaNil)))))))
noncomputable def F__law_setting : List D → Res D := runD 1 g__law_setting
theorem ok__law_setting (z : Z mg) (er : Er P w K mg base cs) (su : Su0 K mg suc) (T : Tc mg) (mk_Setting : MakeOk P w K mg base "Setting" 6 5 F_Setting___init__) {f : Addr} {fd : FuncData} (F : Fun K "_law_setting" "_law_setting" s__law_setting f fd) :
    FnOk P w K mg base (L2.CX P w) 8 f fd ["_law_own_here"] (spD ⟨K, mg⟩ 1 F__law_setting) :=
  okD (ow := []) (k := 7) (m := 1) (g := g__law_setting) (Fd := F__law_setting) rfl F sc__law_setting rfl rfl fun cdv A outer s H E hr =>
    (show PSs _ _ (tS ⟨K, mg⟩ false E [] _ [] (gRet false (gF (gMake "Setting" 5 F_Setting___init__ (gaCons (gOp ixD (gVar 0) (gC (.int 0))) (gaCons (gOp ixD (gVar 0) (gC (.int 1))) (gaCons (gOp ixD (gVar 0) (gC (.int 2))) (gaCons (gOp ixD (gVar 0) (gC (.int 3))) gaNil)))))))) from
      (vss_one (vs_ret (ve_f (vf_makeM mk_Setting rfl hr (by rfl) (passes_call (takes_of rfl rfl rfl rfl) (fun _ _ _ _ z => z)) (va_cons (ve_sub rfl (hu_of hr) (ve_var (pv 0)) (ve_int pe_int)) (va_cons (ve_sub rfl (hu_of hr) (ve_var (pv 0)) (ve_int pe_int)) (va_cons (ve_sub rfl (hu_of hr) (ve_var (pv 0)) (ve_int pe_int)) (va_cons (ve_sub rfl (hu_of hr) (ve_var (pv 0)) (ve_int pe_int)) va_nil)))))))))
noncomputable def g_need_setting : GS := (gIfS (gNotT (gTru (gCB (isDl ["Setting"]) (gaCons (gVar 0) (gaCons (gC (.cls "Setting")) gaNil)))))
    (gRaise "NotASetting" "thing" (gVar 0))
    gNil)
noncomputable def F_need_setting : List D → Res D := runD 1 g_need_setting
theorem ok_need_setting (z : Z mg) (er : Er P w K mg base cs) (su : Su0 K mg suc) (T : Tc mg) {f : Addr} {fd : FuncData} (F : Fun K "need_setting" "need_setting" s_need_setting f fd) :
    FnOk P w K mg base (L2.CX P w) 3 f fd ["thing"] (spD ⟨K, mg⟩ 1 F_need_setting) :=
  okD (ow := []) (k := 2) (m := 1) (g := g_need_setting) (Fd := F_need_setting) rfl F sc_need_setting rfl rfl fun cdv A outer s H E hr =>
    (show PSs _ _ (tS ⟨K, mg⟩ false E [] _ [] (gIfS (gNotT (gTru (gCB (isDl ["Setting"]) (gaCons (gVar 0) (gaCons (gC (.cls "Setting")) gaNil)))))
    (gRaise "NotASetting" "thing" (gVar 0))
    gNil)) from
      (vss_one (vs_if (vt_not (vt_tru rfl (ve_cb (cD_isi rfl su.kc) (by rfl) z.isinstance (by decide +kernel) (va_cons (ve_var (pv 0)) (va_cons (ve_cls (u := .ref suc) (pe_glob (v := .ref suc) rfl su.gl rfl) su.gl) va_nil))))) (vss_one (vs_raise er.NotASetting.errC rfl rfl hr (takes_of rfl rfl rfl rfl) rfl (ve_var (pv 0)))) vss_nil)))
noncomputable def g_need_length : GS := (gIfS (gNotT (gTru (gCall 3 F_is_integer (gaCons (gVar 0) (gaCons (gC (.int 0)) (gaCons (gC (.int 60)) gaNil))))))
    (gRaise "InvalidLength" "length" (gVar 0))
    gNil)
noncomputable def F_need_length : List D → Res D := runD 1 g_need_length
theorem ok_need_length (z : Z mg) (er : Er P w K mg base cs) (su : Su0 K mg suc) (T : Tc mg) (c_is_integer : LT.Cal P w K mg base (L2.CX P w) "is_integer" 1 ["thing", "low", "high"] (spD ⟨K, mg⟩ 3 F_is_integer)) {f : Addr} {fd : FuncData} (F : Fun K "need_length" "need_length" s_need_length f fd) :
    FnOk P w K mg base (L2.CX P w) 3 f fd ["thing"] (spD ⟨K, mg⟩ 1 F_need_length) :=
  okD (ow := []) (k := 2) (m := 1) (g := g_need_length) (Fd := F_need_length) rfl F sc_need_length rfl rfl fun cdv A outer s H E hr =>
    (show PSs _ _ (tS ⟨K, mg⟩ false E [] _ [] (gIfS (gNotT (gTru (gCall 3 F_is_integer (gaCons (gVar 0) (gaCons (gC (.int 0)) (gaCons (gC (.int 60)) gaNil))))))
    (gRaise "InvalidLength" "length" (gVar 0))
    gNil)) from
      (vss_one (vs_if (vt_not (vt_tru rfl (ve_call c_is_integer hr rfl (passes_call (takes_of rfl rfl rfl rfl) (fun _ _ _ _ z => z)) (va_cons (ve_var (pv 0)) (va_cons (ve_int pe_int) (va_cons (ve_const T.g_MOST_PLACES rfl) va_nil)))))) (vss_one (vs_raise er.InvalidLength.errC rfl rfl hr (takes_of rfl rfl rfl rfl) rfl (ve_var (pv 0)))) vss_nil)))
noncomputable def g_is_range : GS := (gRet false (gAnd (gCall 3 F_is_integer (gaCons (gVar 0) (gaCons (gC (.int 0)) (gaCons (gVar 2) gaNil)))) (gCall 3 F_is_integer (gaCons (gVar 1) (gaCons (gVar 0) (gaCons (gVar 2) gaNil))))))
noncomputable def F_is_range : List D → Res D := runD 3 g_is_range
theorem ok_is_range (z : Z mg) (er : Er P w K mg base cs) (su : Su0 K mg suc) (T : Tc mg) (c_is_integer : LT.Cal P w K mg base (L2.CX P w) "is_integer" 1 ["thing", "low", "high"] (spD ⟨K, mg⟩ 3 F_is_integer)) {f : Addr} {fd : FuncData} (F : Fun K "is_range" "is_range" s_is_range f fd) :
    FnOk P w K mg base (L2.CX P w) 2 f fd ["start", "stop", "many"] (spD ⟨K, mg⟩ 3 F_is_range) :=
  okD (ow := []) (k := 1) (m := 3) (g := g_is_range) (Fd := F_is_range) rfl F sc_is_range rfl rfl fun cdv A outer s H E hr =>
    (show PSs _ _ (tS ⟨K, mg⟩ false E [] _ [] (gRet false (gAnd (gCall 3 F_is_integer (gaCons (gVar 0) (gaCons (gC (.int 0)) (gaCons (gVar 2) gaNil)))) (gCall 3 F_is_integer (gaCons (gVar 1) (gaCons (gVar 0) (gaCons (gVar 2) gaNil))))))) from
      (vss_one (vs_ret (ve_and (ve_call c_is_integer hr rfl (passes_call (takes_of rfl rfl rfl rfl) (fun _ _ _ _ z => z)) (va_cons (ve_var (pv 0)) (va_cons (ve_int pe_int) (va_cons (ve_var (pv 2)) va_nil)))) (ve_one (ve_call c_is_integer hr rfl (passes_call (takes_of rfl rfl rfl rfl) (fun _ _ _ _ z => z)) (va_cons (ve_var (pv 1)) (va_cons (ve_var (pv 0)) (va_cons (ve_var (pv 2)) va_nil)))))))))
noncomputable def g_is_step : GS := (gSeq (gIfS (gOrT (gNotT (gTru (gCB (isDl ["Setting"]) (gaCons (gVar 0) (gaCons (gC (.ty "tuple")) gaNil))))) (gB (gOp neD (gCB lenD (gaCons (gVar 0) gaNil)) (gC (.int 3)))))
    (gRet false (gC (.bl false)))
    gNil)
    (gSeq (gAsg (gVar 0) (ggTup 3 (ggCons (ggName 3) (ggCons (ggName 4) (ggCons (ggName 5) ggNil)))))
    (gRet false (gAnd (gOp inD (gVar 3) (gVar 2)) (gCall 3 F_is_range (gaCons (gVar 4) (gaCons (gVar 5) (gaCons (gVar 1) gaNil))))))))
noncomputable def F_is_step : List D → Res D := runD 6 g_is_step
theorem ok_is_step (z : Z mg) (er : Er P w K mg base cs) (su : Su0 K mg suc) (T : Tc mg) (c_is_range : LT.Cal P w K mg base (L2.CX P w) "is_range" 2 ["start", "stop", "many"] (spD ⟨K, mg⟩ 3 F_is_range)) {f : Addr} {fd : FuncData} (F : Fun K "is_step" "is_step" s_is_step f fd) :
    FnOk P w K mg base (L2.CX P w) 3 f fd ["thing", "length", "deeds"] (spD ⟨K, mg⟩ 3 F_is_step) :=
  okD (ow := []) (k := 2) (m := 6) (g := g_is_step) (Fd := F_is_step) rfl F sc_is_step rfl rfl fun cdv A outer s H E hr =>
    (show PSs _ _ (tS ⟨K, mg⟩ false E [] _ [] (gSeq (gIfS (gOrT (gNotT (gTru (gCB (isDl ["Setting"]) (gaCons (gVar 0) (gaCons (gC (.ty "tuple")) gaNil))))) (gB (gOp neD (gCB lenD (gaCons (gVar 0) gaNil)) (gC (.int 3)))))
    (gRet false (gC (.bl false)))
    gNil)
    (gSeq (gAsg (gVar 0) (ggTup 3 (ggCons (ggName 3) (ggCons (ggName 4) (ggCons (ggName 5) ggNil)))))
    (gRet false (gAnd (gOp inD (gVar 3) (gVar 2)) (gCall 3 F_is_range (gaCons (gVar 4) (gaCons (gVar 5) (gaCons (gVar 1) gaNil))))))))) from
      (vss_cons (vs_if (PW.pt (vw_or (vt_not (vt_tru rfl (ve_cb (cD_isi rfl su.kc) (by rfl) z.isinstance (by decide +kernel) (va_cons (ve_var (pv 0)) (va_cons (ve_c (pe_bltn (v := .ty "tuple") (by rfl) z.tuple (by decide +kernel) rfl) (fun _ _ => .ty _)) va_nil))))) (vw_or1 (vt_cmp (opD_ne rfl hr.units) (ve_cb (cD_len rfl) (by rfl) z.len (by decide +kernel) (va_cons (ve_var (pv 0)) va_nil)) (ve_int pe_int))))) (vss_one (vs_ret (ve_bl pe_bl))) vss_nil)
      (vss_cons (vs_asg (ve_var (pv 0)) (vg_tup 3 rfl rfl (vgs_cons (vg_name (i := 3) sc_is_step.nd rfl (.inl rfl)) (vgs_cons (vg_name (i := 4) sc_is_step.nd rfl (.inl rfl)) (vgs_cons (vg_name (i := 5) sc_is_step.nd rfl (.inl rfl)) vgs_nil)))))
      (vss_one (vs_ret (ve_and (ve_cmp (opD_in rfl) (ve_var (pv 3)) (ve_var (pv 2)) (by rfl)) (ve_one (ve_call c_is_range hr rfl (passes_call (takes_of rfl rfl rfl rfl) (fun _ _ _ _ z => z)) (va_cons (ve_var (pv 4)) (va_cons (ve_var (pv 5)) (va_cons (ve_var (pv 1)) va_nil)))))))))))
noncomputable def g_need_plan : GS := (gSeq (gIfS (gNotT (gTru (gCB (isDl ["Setting"]) (gaCons (gVar 0) (gaCons (gTup (gaCons (gC (.ty "tuple")) (gaCons (gC (.ty "list")) gaNil))) gaNil)))))
    (gRaise "InvalidPlan" "place" (gC .non))
    gNil)
    (gFor (gRng enD (gaCons (gVar 0) gaNil)) (ggTup 2 (ggCons (ggName 3) (ggCons (ggName 4) ggNil)))
    (gIfS (gNotT (gTru (gCall 3 F_is_step (gaCons (gVar 4) (gaCons (gVar 1) (gaCons (gVar 2) gaNil))))))
    (gRaise "InvalidPlan" "place" (gVar 3))
    gNil)))
noncomputable def F_need_plan : List D → Res D := runD 5 g_need_plan
theorem ok_need_plan (z : Z mg) (er : Er P w K mg base cs) (su : Su0 K mg suc) (T : Tc mg) (c_is_step : LT.Cal P w K mg base (L2.CX P w) "is_step" 3 ["thing", "length", "deeds"] (spD ⟨K, mg⟩ 3 F_is_step)) {f : Addr} {fd : FuncData} (F : Fun K "need_plan" "need_plan" s_need_plan f fd) :
    FnOk P w K mg base (L2.CX P w) 4 f fd ["plan", "length", "deeds"] (spD ⟨K, mg⟩ 3 F_need_plan) :=
  okD (ow := []) (k := 3) (m := 5) (g := g_need_plan) (Fd := F_need_plan) rfl F sc_need_plan rfl rfl fun cdv A outer s H E hr =>
    (show PSs _ _ (tS ⟨K, mg⟩ false E [] _ [] (gSeq (gIfS (gNotT (gTru (gCB (isDl ["Setting"]) (gaCons (gVar 0) (gaCons (gTup (gaCons (gC (.ty "tuple")) (gaCons (gC (.ty "list")) gaNil))) gaNil)))))
    (gRaise "InvalidPlan" "place" (gC .non))
    gNil)
    (gFor (gRng enD (gaCons (gVar 0) gaNil)) (ggTup 2 (ggCons (ggName 3) (ggCons (ggName 4) ggNil)))
    (gIfS (gNotT (gTru (gCall 3 F_is_step (gaCons (gVar 4) (gaCons (gVar 1) (gaCons (gVar 2) gaNil))))))
    (gRaise "InvalidPlan" "place" (gVar 3))
    gNil)))) from
      (vss_cons (vs_if (vt_not (vt_tru rfl (ve_cb (cD_isi rfl su.kc) (by rfl) z.isinstance (by decide +kernel) (va_cons (ve_var (pv 0)) (va_cons (ve_tup (va_cons (ve_c (pe_bltn (v := .ty "tuple") (by rfl) z.tuple (by decide +kernel) rfl) (fun _ _ => .ty _)) (va_cons (ve_c (pe_bltn (v := .ty "list") (by rfl) z.list (by decide +kernel) rfl) (fun _ _ => .ty _)) va_nil))) va_nil))))) (vss_one (vs_raise er.InvalidPlan.errC rfl rfl hr (takes_of rfl rfl rfl rfl) rfl (ve_non pe_non))) vss_nil)
      (vss_one (vs_for (passes_of rfl) rfl (vi_enum rfl (by rfl) z.enumerate (va_cons (ve_var (pv 0)) va_nil)) (vg_tup 2 rfl rfl (vgs_cons (vg_name (i := 3) sc_need_plan.nd rfl (.inl rfl)) (vgs_cons (vg_name (i := 4) sc_need_plan.nd rfl (.inl rfl)) vgs_nil)))
      (vss_one (vs_if (vt_not (vt_tru rfl (ve_call c_is_step hr rfl (passes_call (takes_of rfl rfl rfl rfl) (fun _ _ _ _ z => z)) (va_cons (ve_var (pv 4)) (va_cons (ve_var (pv 1)) (va_cons (ve_var (pv 2)) va_nil)))))) (vss_one (vs_raise er.InvalidPlan.errC rfl rfl hr (takes_of rfl rfl rfl rfl) rfl (ve_var (pv 3)))) vss_nil))))))
noncomputable def g_Setting_deeds : GS := (gSeq (gSet 1 (gF (gCBF listF (gaCons (gUn (fldD "Setting" "_maps") (gVar 0)) gaNil))))
    (gSeq (gIfS (gTru (gUn (fldD "Setting" "_turning") (gVar 0)))
    (gSet 1 (gF (gLst (gaStar (gVar 1) (gaCons (gC (.str "turn")) gaNil)))))
    gNil)
    (gRet false (gCB tupleD (gaCons (gF (gCBF sortF (gaCons (gVar 1) gaNil))) gaNil)))))
noncomputable def F_Setting_deeds : List D → Res D := runD 2 g_Setting_deeds
theorem ok_Setting_deeds (z : Z mg) (er : Er P w K mg base cs) (su : Su0 K mg suc) (T : Tc mg) {f : Addr} {fd : FuncData} (F : Fun K "deeds" "Setting.deeds" s_Setting_deeds f fd) :
    FnOk P w K mg base (L2.CX P w) 1 f fd ["self"] (spD ⟨K, mg⟩ 1 F_Setting_deeds) :=
  okD (ow := []) (k := 0) (m := 2) (g := g_Setting_deeds) (Fd := F_Setting_deeds) rfl F sc_Setting_deeds rfl rfl fun cdv A outer s H E hr =>
    (show PSs _ _ (tS ⟨K, mg⟩ false E [] _ [] (gSeq (gSet 1 (gF (gCBF listF (gaCons (gUn (fldD "Setting" "_maps") (gVar 0)) gaNil))))
    (gSeq (gIfS (gTru (gUn (fldD "Setting" "_turning") (gVar 0)))
    (gSet 1 (gF (gLst (gaStar (gVar 1) (gaCons (gC (.str "turn")) gaNil)))))
    gNil)
    (gRet false (gCB tupleD (gaCons (gF (gCBF sortF (gaCons (gVar 1) gaNil))) gaNil)))))) from
      (vss_cons (vs_set (i := 1) sc_Setting_deeds.nd rfl (.inl rfl) (ve_f (vf_ct (cF_list rfl rfl) (by rfl) z.list (by decide +kernel) (va_cons (ve_fld rfl su.f_maps (ve_var (pv 0))) va_nil))))
      (vss_cons (vs_if (vt_tru rfl (ve_fld rfl su.f_turning (ve_var (pv 0)))) (vss_one (vs_set (i := 1) sc_Setting_deeds.nd rfl (.inl rfl) (ve_f (vf_lst (va_star rfl (ve_var (pv 1)) (va_cons (ve_str pe_str) va_nil)))))) vss_nil)
      (vss_one (vs_ret (ve_ct (cD_tuple rfl) (by rfl) z.tuple (by decide +kernel) (va_cons (ve_f (vf_cb (cF_sorted rfl) (by rfl) z.sorted (by decide +kernel) (va_cons (ve_var (pv 1)) va_nil))) va_nil)))))))
noncomputable def g_need_plans : GS := (gSeq (gExpr (gCall 1 F_need_setting (gaCons (gVar 0) gaNil)))
    (gSeq (gExpr (gCall 1 F_need_length (gaCons (gVar 2) gaNil)))
    (gFor (gItA (gVar 1)) (ggName 3)
    (gExpr (gCall 3 F_need_plan (gaCons (gVar 3) (gaCons (gVar 2) (gaCons (gProp "Setting" F_Setting_deeds (gVar 0)) gaNil))))))))
noncomputable def F_need_plans : List D → Res D := runD 4 g_need_plans
theorem ok_need_plans (z : Z mg) (er : Er P w K mg base cs) (su : Su0 K mg suc) (T : Tc mg) (c_need_setting : LT.Cal P w K mg base (L2.CX P w) "need_setting" 3 ["thing"] (spD ⟨K, mg⟩ 1 F_need_setting)) (c_need_length : LT.Cal P w K mg base (L2.CX P w) "need_length" 3 ["thing"] (spD ⟨K, mg⟩ 1 F_need_length)) (c_need_plan : LT.Cal P w K mg base (L2.CX P w) "need_plan" 4 ["plan", "length", "deeds"] (spD ⟨K, mg⟩ 3 F_need_plan)) (p_Setting_deeds : PropOk P w K mg base "Setting" "deeds" 1 F_Setting_deeds) {f : Addr} {fd : FuncData} (F : Fun K "need_plans" "need_plans" s_need_plans f fd) :
    FnOk P w K mg base (L2.CX P w) 5 f fd ["setting", "plans", "length"] (spD ⟨K, mg⟩ 3 F_need_plans) :=
  okD (ow := []) (k := 4) (m := 4) (g := g_need_plans) (Fd := F_need_plans) rfl F sc_need_plans rfl rfl fun cdv A outer s H E hr =>
    (show PSs _ _ (tS ⟨K, mg⟩ false E [] _ [] (gSeq (gExpr (gCall 1 F_need_setting (gaCons (gVar 0) gaNil)))
    (gSeq (gExpr (gCall 1 F_need_length (gaCons (gVar 2) gaNil)))
    (gFor (gItA (gVar 1)) (ggName 3)
    (gExpr (gCall 3 F_need_plan (gaCons (gVar 3) (gaCons (gVar 2) (gaCons (gProp "Setting" F_Setting_deeds (gVar 0)) gaNil))))))))) from
      (vss_cons (vs_expr (ve_call c_need_setting hr rfl (passes_call (takes_of rfl rfl rfl rfl) (fun _ _ _ _ z => z)) (va_cons (ve_var (pv 0)) va_nil)))
      (vss_cons (vs_expr (ve_call c_need_length hr rfl (passes_call (takes_of rfl rfl rfl rfl) (fun _ _ _ _ z => z)) (va_cons (ve_var (pv 2)) va_nil)))
      (vss_one (vs_for (passes_of rfl) rfl (vi_any rfl (ve_var (pv 1))) (vg_name (i := 3) sc_need_plans.nd rfl (.inl rfl))
      (vss_one (vs_expr (ve_call c_need_plan hr rfl (passes_call (takes_of rfl rfl rfl rfl) (fun _ _ _ _ z => z)) (va_cons (ve_var (pv 3)) (va_cons (ve_var (pv 2)) (va_cons (ve_propP p_Setting_deeds rfl hr (ve_var (pv 0))) va_nil)))))))))))
noncomputable def g_Setting_maps : GS := (gRet false (gF (gCBF dictF (gaCons (gUn (fldD "Setting" "_maps") (gVar 0)) gaNil))))
noncomputable def F_Setting_maps : List D → Res D := runD 1 g_Setting_maps
theorem ok_Setting_maps (z : Z mg) (er : Er P w K mg base cs) (su : Su0 K mg suc) (T : Tc mg) {f : Addr} {fd : FuncData} (F : Fun K "maps" "Setting.maps" s_Setting_maps f fd) :
    FnOk P w K mg base (L2.CX P w) 1 f fd ["self"] (spD ⟨K, mg⟩ 1 F_Setting_maps) :=
  okD (ow := []) (k := 0) (m := 1) (g := g_Setting_maps) (Fd := F_Setting_maps) rfl F sc_Setting_maps rfl rfl fun cdv A outer s H E hr =>
    (show PSs _ _ (tS ⟨K, mg⟩ false E [] _ [] (gRet false (gF (gCBF dictF (gaCons (gUn (fldD "Setting" "_maps") (gVar 0)) gaNil))))) from
      (vss_one (vs_ret (ve_f (vf_ct (cF_dict) (by rfl) z.dict (by decide +kernel) (va_cons (ve_fld rfl su.f_maps (ve_var (pv 0))) va_nil))))))
noncomputable def g_Setting_size : GS := (gRet false (gUn (fldD "Setting" "_size") (gVar 0)))
noncomputable def F_Setting_size : List D → Res D := runD 1 g_Setting_size
theorem ok_Setting_size (z : Z mg) (er : Er P w K mg base cs) (su : Su0 K mg suc) (T : Tc mg) {f : Addr} {fd : FuncData} (F : Fun K "size" "Setting.size" s_Setting_size f fd) :
    FnOk P w K mg base (L2.CX P w) 1 f fd ["self"] (spD ⟨K, mg⟩ 1 F_Setting_size) :=
  okD (ow := []) (k := 0) (m := 1) (g := g_Setting_size) (Fd := F_Setting_size) rfl F sc_Setting_size rfl rfl fun cdv A outer s H E hr =>
    (show PSs _ _ (tS ⟨K, mg⟩ false E [] _ [] (gRet false (gUn (fldD "Setting" "_size") (gVar 0)))) from
      (vss_one (vs_ret (ve_fld rfl su.f_size (ve_var (pv 0))))))
noncomputable def g_no_map : GS := (gRet false (gUn rgT (gProp "Setting" F_Setting_size (gVar 0))))
noncomputable def F_no_map : List D → Res D := runD 1 g_no_map
theorem ok_no_map (z : Z mg) (er : Er P w K mg base cs) (su : Su0 K mg suc) (T : Tc mg) (p_Setting_size : PropOk P w K mg base "Setting" "size" 1 F_Setting_size) {f : Addr} {fd : FuncData} (F : Fun K "no_map" "no_map" s_no_map f fd) :
    FnOk P w K mg base (L2.CX P w) 3 f fd ["setting"] (spD ⟨K, mg⟩ 1 F_no_map) :=
  okD (ow := []) (k := 2) (m := 1) (g := g_no_map) (Fd := F_no_map) rfl F sc_no_map rfl rfl fun cdv A outer s H E hr =>
    (show PSs _ _ (tS ⟨K, mg⟩ false E [] _ [] (gRet false (gUn rgT (gProp "Setting" F_Setting_size (gVar 0))))) from
      (vss_one (vs_ret (ve_tupRg rfl (by rfl) z.tuple (by rfl) z.range (ve_propP p_Setting_size rfl hr (ve_var (pv 0)))))))
noncomputable def g_joined : GS := (gRet false (gCB tupleD (gaCons (gF (gLc (gItA (gVar 0)) (ggName 2) gYes (gOp ixD (gVar 1) (gVar 2)) [2])) gaNil)))
noncomputable def F_joined : List D → Res D := runD 3 g_joined
theorem ok_joined (z : Z mg) (er : Er P w K mg base cs) (su : Su0 K mg suc) (T : Tc mg) {f : Addr} {fd : FuncData} (F : Fun K "joined" "joined" s_joined f fd) :
    FnOk P w K mg base (L2.CX P w) 1 f fd ["first", "second"] (spD ⟨K, mg⟩ 2 F_joined) :=
  okD (ow := []) (k := 0) (m := 3) (g := g_joined) (Fd := F_joined) rfl F sc_joined rfl rfl fun cdv A outer s H E hr =>
    (show PSs _ _ (tS ⟨K, mg⟩ false E [] _ [] (gRet false (gCB tupleD (gaCons (gF (gLc (gItA (gVar 0)) (ggName 2) gYes (gOp ixD (gVar 1) (gVar 2)) [2])) gaNil)))) from
      (vss_one (vs_ret (ve_ct (cD_tuple rfl) (by rfl) z.tuple (by decide +kernel) (va_cons (ve_f (vf_lc (own := [("value", 2)]) rfl sc_joined.nd (vi_any rfl (ve_var (pv 0))) (blkOk_by (own := [("value", 2)]) (N := ["first", "second", "value"]) (sc := (defScope s_joined)) (by decide +kernel)) (fun _ _ _ _ _ => (vg_name (i := 2) sc_joined.nd rfl (.inl rfl))) (fun _ _ _ _ _ => vts_nil) (fun _ _ _ _ _ => (ve_sub rfl (hu_of hr) (ve_var (pv 1)) (ve_var (pv 2)))))) va_nil)))))
noncomputable def g_cells_after : GS := (gSeq (gSet 3 (gProp "Setting" F_Setting_maps (gVar 0)))
    (gSeq (gSetF 4 (gLc (gRng rng1 (gaCons (gVar 2) gaNil)) (ggName 8) gYes (gTup (gaCons (gVar 8) (gaCons (gCall 1 F_no_map (gaCons (gVar 0) gaNil)) gaNil))) [8]))
    (gSeq (gFor (gItA (gVar 1)) (ggTup 3 (ggCons (ggName 5) (ggCons (ggName 6) (ggCons (ggName 7) ggNil))))
    (gIfS (gB (gOp eqD (gVar 5) (gC (.str "turn"))))
    (gSetSl 4 (gPart (gVar 6)) (gPart (gVar 7)) (gUn revD (gSl slD (gOwn 4) (gPart (gVar 6)) (gPart (gVar 7)))))
    (gSetSl 4 (gPart (gVar 6)) (gPart (gVar 7)) (gF (gLc (gItA (gSl slD (gOwn 4) (gPart (gVar 6)) (gPart (gVar 7)))) (ggTup 2 (ggCons (ggName 9) (ggCons (ggName 10) ggNil))) gYes (gTup (gaCons (gVar 9) (gaCons (gCall 2 F_joined (gaCons (gVar 10) (gaCons (gOp ixD (gVar 3) (gVar 5)) gaNil))) gaNil))) [9, 10])))))
    (gRet false (gVar 4)))))
noncomputable def F_cells_after : List D → Res D := runD 11 g_cells_after
theorem ok_cells_after (z : Z mg) (er : Er P w K mg base cs) (su : Su0 K mg suc) (T : Tc mg) (p_Setting_maps : PropOk P w K mg base "Setting" "maps" 1 F_Setting_maps) (c_no_map : LT.Cal P w K mg base (L2.CX P w) "no_map" 3 ["setting"] (spD ⟨K, mg⟩ 1 F_no_map)) (c_joined : LT.Cal P w K mg base (L2.CX P w) "joined" 1 ["first", "second"] (spD ⟨K, mg⟩ 2 F_joined)) {f : Addr} {fd : FuncData} (F : Fun K "cells_after" "cells_after" s_cells_after f fd) :
    FnOk P w K mg base (L2.CX P w) 4 f fd ["setting", "plan", "length"] (spD ⟨K, mg⟩ 3 F_cells_after) :=
  okD (ow := []) (k := 3) (m := 11) (g := g_cells_after) (Fd := F_cells_after) rfl F sc_cells_after rfl rfl fun cdv A outer s H E hr =>
    (show PSs _ _ (tS ⟨K, mg⟩ false E [] _ [] (gSeq (gSet 3 (gProp "Setting" F_Setting_maps (gVar 0)))
    (gSeq (gSetF 4 (gLc (gRng rng1 (gaCons (gVar 2) gaNil)) (ggName 8) gYes (gTup (gaCons (gVar 8) (gaCons (gCall 1 F_no_map (gaCons (gVar 0) gaNil)) gaNil))) [8]))
    (gSeq (gFor (gItA (gVar 1)) (ggTup 3 (ggCons (ggName 5) (ggCons (ggName 6) (ggCons (ggName 7) ggNil))))
    (gIfS (gB (gOp eqD (gVar 5) (gC (.str "turn"))))
    (gSetSl 4 (gPart (gVar 6)) (gPart (gVar 7)) (gUn revD (gSl slD (gOwn 4) (gPart (gVar 6)) (gPart (gVar 7)))))
    (gSetSl 4 (gPart (gVar 6)) (gPart (gVar 7)) (gF (gLc (gItA (gSl slD (gOwn 4) (gPart (gVar 6)) (gPart (gVar 7)))) (ggTup 2 (ggCons (ggName 9) (ggCons (ggName 10) ggNil))) gYes (gTup (gaCons (gVar 9) (gaCons (gCall 2 F_joined (gaCons (gVar 10) (gaCons (gOp ixD (gVar 3) (gVar 5)) gaNil))) gaNil))) [9, 10])))))
    (gRet false (gVar 4)))))) from
      (vss_cons (vs_set (i := 3) sc_cells_after.nd rfl (.inr rfl) (ve_propP p_Setting_maps rfl hr (ve_var (pv 0))))
      (vss_cons (vs_ow (ow2 := [4]) (vs_setLcF (i := 4) (by rfl) sc_cells_after.nd rfl rfl (sw_true rfl rfl rfl (by decide +kernel)) (own := [("place", 8)]) (vi_range1 (by rfl) z.range (va_cons (ve_var (pv 2)) va_nil)) (blkOk_by (own := [("place", 8)]) (N := ["setting", "plan", "length", "maps", "cells", "deed", "start", "stop", "place", "source", "past"]) (sc := (defScope s_cells_after)) (by decide +kernel)) (fun _ _ _ _ _ => (vg_name (i := 8) sc_cells_after.nd rfl (.inl rfl))) (fun _ _ _ _ _ => vts_nil) (fun _ _ _ _ _ => (ve_tup (va_cons (ve_var (pv 8)) (va_cons (ve_call c_no_map hr rfl passL (va_cons (ve_var (pv 0)) va_nil)) va_nil))))))
      (vss_cons (vs_wk (ow2 := []) (vs_for (passes_of rfl) rfl (vi_any rfl (ve_var (pv 1))) (vg_tup 3 rfl rfl (vgs_cons (vg_name (i := 5) sc_cells_after.nd rfl (.inr rfl)) (vgs_cons (vg_name (i := 6) sc_cells_after.nd rfl (.inl rfl)) (vgs_cons (vg_name (i := 7) sc_cells_after.nd rfl (.inl rfl)) vgs_nil))))
      (vss_one (vs_if (vt_cmp (opD_eq rfl hr.units) (ve_var (pv 5)) (ve_str pe_str)) (vss_one (vs_setSl (pv 4) (vo_some (ve_var (pv 6))) (vo_some (ve_var (pv 7))) (ve_rev rfl (ve_sl (slD_ok rfl) (ve_own (pv 4)) (vo_some (ve_var (pv 6))) (vo_some (ve_var (pv 7))))))) (vss_one (vs_setSl (pv 4) (vo_some (ve_var (pv 6))) (vo_some (ve_var (pv 7))) (ve_f (vf_lc (own := [("source", 9), ("past", 10)]) rfl sc_cells_after.nd (vi_any rfl (ve_sl (slD_ok rfl) (ve_own (pv 4)) (vo_some (ve_var (pv 6))) (vo_some (ve_var (pv 7))))) (blkOk_by (own := [("source", 9), ("past", 10)]) (N := ["setting", "plan", "length", "maps", "cells", "deed", "start", "stop", "place", "source", "past"]) (sc := (defScope s_cells_after)) (by decide +kernel)) (fun _ _ _ _ _ => (vg_tup 2 rfl rfl (vgs_cons (vg_name (i := 9) sc_cells_after.nd rfl (.inl rfl)) (vgs_cons (vg_name (i := 10) sc_cells_after.nd rfl (.inl rfl)) vgs_nil)))) (fun _ _ _ _ _ => vts_nil) (fun _ _ _ _ _ => (ve_tup (va_cons (ve_var (pv 9)) (va_cons (ve_call c_joined hr rfl passL (va_cons (ve_var (pv 10)) (va_cons (ve_sub rfl (hu_of hr) (ve_var (pv 3)) (ve_var (pv 5))) va_nil))) va_nil))))))))))))
      (vss_one (vs_ret (ve_var (pv 4))))))))
noncomputable def g_is_constant : GS := (gRet false (gOp eqD (gVar 0) (gOp mulD (gSl slD (gVar 0) gNoPart (gPart (gC (.int 1)))) (gCB lenD (gaCons (gVar 0) gaNil)))))
noncomputable def F_is_constant : List D → Res D := runD 1 g_is_constant
theorem ok_is_constant (z : Z mg) (er : Er P w K mg base cs) (su : Su0 K mg suc) (T : Tc mg) {f : Addr} {fd : FuncData} (F : Fun K "is_constant" "is_constant" s_is_constant f fd) :
    FnOk P w K mg base (L2.CX P w) 1 f fd ["mapping"] (spD ⟨K, mg⟩ 1 F_is_constant) :=
  okD (ow := []) (k := 0) (m := 1) (g := g_is_constant) (Fd := F_is_constant) rfl F sc_is_constant rfl rfl fun cdv A outer s H E hr =>
    (show PSs _ _ (tS ⟨K, mg⟩ false E [] _ [] (gRet false (gOp eqD (gVar 0) (gOp mulD (gSl slD (gVar 0) gNoPart (gPart (gC (.int 1)))) (gCB lenD (gaCons (gVar 0) gaNil)))))) from
      (vss_one (vs_ret (ve_cmp (opD_eq rfl hr.units) (ve_var (pv 0)) (ve_op (opD_mul rfl) (ve_sl (slD_ok rfl) (ve_var (pv 0)) vo_none (vo_some (ve_int pe_int))) (ve_cb (cD_len rfl) (by rfl) z.len (by decide +kernel) (va_cons (ve_var (pv 0)) va_nil)))))))
noncomputable def g_form_after : GS := (gSeq (gSet 3 (gCall 3 F_cells_after (gaCons (gVar 0) (gaCons (gVar 1) (gaCons (gVar 2) gaNil)))))
    (gRet false (gCB tupleD (gaCons (gF (gLc (gItA (gVar 3)) (ggTup 2 (ggCons (ggName 4) (ggCons (ggName 5) ggNil))) gYes (gTup (gaCons (gIf (gTru (gCall 1 F_is_constant (gaCons (gVar 5) gaNil))) (gC .non) (gVar 4)) (gaCons (gVar 5) gaNil))) [4, 5])) gaNil))))
noncomputable def F_form_after : List D → Res D := runD 6 g_form_after
theorem ok_form_after (z : Z mg) (er : Er P w K mg base cs) (su : Su0 K mg suc) (T : Tc mg) (c_cells_after : LT.Cal P w K mg base (L2.CX P w) "cells_after" 4 ["setting", "plan", "length"] (spD ⟨K, mg⟩ 3 F_cells_after)) (c_is_constant : LT.Cal P w K mg base (L2.CX P w) "is_constant" 1 ["mapping"] (spD ⟨K, mg⟩ 1 F_is_constant)) {f : Addr} {fd : FuncData} (F : Fun K "form_after" "form_after" s_form_after f fd) :
    FnOk P w K mg base (L2.CX P w) 5 f fd ["setting", "plan", "length"] (spD ⟨K, mg⟩ 3 F_form_after) :=
  okD (ow := []) (k := 4) (m := 6) (g := g_form_after) (Fd := F_form_after) rfl F sc_form_after rfl rfl fun cdv A outer s H E hr =>
    (show PSs _ _ (tS ⟨K, mg⟩ false E [] _ [] (gSeq (gSet 3 (gCall 3 F_cells_after (gaCons (gVar 0) (gaCons (gVar 1) (gaCons (gVar 2) gaNil)))))
    (gRet false (gCB tupleD (gaCons (gF (gLc (gItA (gVar 3)) (ggTup 2 (ggCons (ggName 4) (ggCons (ggName 5) ggNil))) gYes (gTup (gaCons (gIf (gTru (gCall 1 F_is_constant (gaCons (gVar 5) gaNil))) (gC .non) (gVar 4)) (gaCons (gVar 5) gaNil))) [4, 5])) gaNil))))) from
      (vss_cons (vs_set (i := 3) sc_form_after.nd rfl (.inl rfl) (ve_call c_cells_after hr rfl (passes_call (takes_of rfl rfl rfl rfl) (fun _ _ _ _ z => z)) (va_cons (ve_var (pv 0)) (va_cons (ve_var (pv 1)) (va_cons (ve_var (pv 2)) va_nil)))))
      (vss_one (vs_ret (ve_ct (cD_tuple rfl) (by rfl) z.tuple (by decide +kernel) (va_cons (ve_f (vf_lc (own := [("source", 4), ("mapping", 5)]) rfl sc_form_after.nd (vi_any rfl (ve_var (pv 3))) (blkOk_by (own := [("source", 4), ("mapping", 5)]) (N := ["setting", "plan", "length", "cells", "source", "mapping"]) (sc := (defScope s_form_after)) (by decide +kernel)) (fun _ _ _ _ _ => (vg_tup 2 rfl rfl (vgs_cons (vg_name (i := 4) sc_form_after.nd rfl (.inl rfl)) (vgs_cons (vg_name (i := 5) sc_form_after.nd rfl (.inl rfl)) vgs_nil)))) (fun _ _ _ _ _ => vts_nil) (fun _ _ _ _ _ => (ve_tup (va_cons (ve_if (vt_tru rfl (ve_call c_is_constant hr rfl passL (va_cons (ve_var (pv 5)) va_nil))) (ve_non pe_non) (ve_var (pv 4))) (va_cons (ve_var (pv 5)) va_nil)))))) va_nil))))))
noncomputable def g_like_plans : GS := (gSeq (gSet 4 (gCall 3 F_form_after (gaCons (gVar 0) (gaCons (gVar 1) (gaCons (gVar 3) gaNil)))))
    (gRetF (gLc (gRng enD (gaCons (gVar 2) gaNil)) (ggTup 2 (ggCons (ggName 5) (ggCons (ggName 6) ggNil))) (gB (gOp eqD (gCall 3 F_form_after (gaCons (gVar 0) (gaCons (gVar 6) (gaCons (gVar 3) gaNil)))) (gVar 4))) (gVar 5) [5, 6])))
noncomputable def F_like_plans : List D → Res D := runF 7 g_like_plans
theorem ok_like_plans (z : Z mg) (er : Er P w K mg base cs) (su : Su0 K mg suc) (T : Tc mg) (c_form_after : LT.Cal P w K mg base (L2.CX P w) "form_after" 5 ["setting", "plan", "length"] (spD ⟨K, mg⟩ 3 F_form_after)) {f : Addr} {fd : FuncData} (F : Fun K "like_plans" "like_plans" s_like_plans f fd) :
    FnOk P w K mg base (L2.CX P w) 6 f fd ["setting", "plan", "others", "length"] (spF ⟨K, mg⟩ 4 F_like_plans) :=
  okF (ow := []) (k := 5) (m := 7) (g := g_like_plans) (Fd := F_like_plans) rfl F sc_like_plans rfl rfl fun cdv A outer s H E hr =>
    (show PSs _ _ (tS ⟨K, mg⟩ false E [] _ [] (gSeq (gSet 4 (gCall 3 F_form_after (gaCons (gVar 0) (gaCons (gVar 1) (gaCons (gVar 3) gaNil)))))
    (gRetF (gLc (gRng enD (gaCons (gVar 2) gaNil)) (ggTup 2 (ggCons (ggName 5) (ggCons (ggName 6) ggNil))) (gB (gOp eqD (gCall 3 F_form_after (gaCons (gVar 0) (gaCons (gVar 6) (gaCons (gVar 3) gaNil)))) (gVar 4))) (gVar 5) [5, 6])))) from
      (vss_cons (vs_set (i := 4) sc_like_plans.nd rfl (.inr rfl) (ve_call c_form_after hr rfl (passes_call (takes_of rfl rfl rfl rfl) (fun _ _ _ _ z => z)) (va_cons (ve_var (pv 0)) (va_cons (ve_var (pv 1)) (va_cons (ve_var (pv 3)) va_nil)))))
      (vss_one (vs_retF (vf_lc (own := [("k", 5), ("other", 6)]) rfl sc_like_plans.nd (vi_enum rfl (by rfl) z.enumerate (va_cons (ve_var (pv 2)) va_nil)) (blkOk_by (own := [("k", 5), ("other", 6)]) (N := ["setting", "plan", "others", "length", "form", "k", "other"]) (sc := (defScope s_like_plans)) (by decide +kernel)) (fun _ _ _ _ _ => (vg_tup 2 rfl rfl (vgs_cons (vg_name (i := 5) sc_like_plans.nd rfl (.inl rfl)) (vgs_cons (vg_name (i := 6) sc_like_plans.nd rfl (.inl rfl)) vgs_nil)))) (fun _ _ _ _ _ => (vts_one (vt_cmp (opD_eq rfl hr.units) (ve_call c_form_after hr rfl passL (va_cons (ve_var (pv 0)) (va_cons (ve_var (pv 6)) (va_cons (ve_var (pv 3)) va_nil)))) (ve_var (pv 4))))) (fun _ _ _ _ _ => (ve_var (pv 5))))))))
noncomputable def g_idle : GS := (gSeq (gExpr (gCall 3 F_need_plans (gaCons (gVar 0) (gaCons (gF (gLst (gaCons (gVar 1) gaNil))) (gaCons (gVar 2) gaNil)))))
    (gSeq (gSet 3 (gF (gCBF listF (gaCons (gVar 1) gaNil))))
    (gRetF (gCallF 4 F_like_plans (gaCons (gVar 0) (gaCons (gVar 3) (gaCons (gF (gLc (gRng rng1 (gaCons (gCB lenD (gaCons (gVar 3) gaNil)) gaNil)) (ggName 4) gYes (gOp addD (gSl slD (gVar 3) gNoPart (gPart (gVar 4))) (gSl slD (gVar 3) (gPart (gOp addD (gVar 4) (gC (.int 1)))) gNoPart)) [4])) (gaCons (gVar 2) gaNil))))))))
noncomputable def F_idle : List D → Res D := runF 5 g_idle
theorem ok_idle (z : Z mg) (er : Er P w K mg base cs) (su : Su0 K mg suc) (T : Tc mg) (c_need_plans : LT.Cal P w K mg base (L2.CX P w) "need_plans" 5 ["setting", "plans", "length"] (spD ⟨K, mg⟩ 3 F_need_plans)) (c_like_plans : LT.Cal P w K mg base (L2.CX P w) "like_plans" 6 ["setting", "plan", "others", "length"] (spF ⟨K, mg⟩ 4 F_like_plans)) {f : Addr} {fd : FuncData} (F : Fun K "idle" "idle" s_idle f fd) :
    FnOk P w K mg base (L2.CX P w) 7 f fd ["setting", "plan", "length"] (spF ⟨K, mg⟩ 3 F_idle) :=
  okF (ow := []) (k := 6) (m := 5) (g := g_idle) (Fd := F_idle) rfl F sc_idle rfl rfl fun cdv A outer s H E hr =>
    (show PSs _ _ (tS ⟨K, mg⟩ false E [] _ [] (gSeq (gExpr (gCall 3 F_need_plans (gaCons (gVar 0) (gaCons (gF (gLst (gaCons (gVar 1) gaNil))) (gaCons (gVar 2) gaNil)))))
    (gSeq (gSet 3 (gF (gCBF listF (gaCons (gVar 1) gaNil))))
    (gRetF (gCallF 4 F_like_plans (gaCons (gVar 0) (gaCons (gVar 3) (gaCons (gF (gLc (gRng rng1 (gaCons (gCB lenD (gaCons (gVar 3) gaNil)) gaNil)) (ggName 4) gYes (gOp addD (gSl slD (gVar 3) gNoPart (gPart (gVar 4))) (gSl slD (gVar 3) (gPart (gOp addD (gVar 4) (gC (.int 1)))) gNoPart)) [4])) (gaCons (gVar 2) gaNil))))))))) from
      (vss_cons (vs_expr (ve_call c_need_plans hr rfl (passes_call (takes_of rfl rfl rfl rfl) (fun _ _ _ _ z => z)) (va_cons (ve_var (pv 0)) (va_cons (ve_f (vf_lst (va_cons (ve_var (pv 1)) va_nil))) (va_cons (ve_var (pv 2)) va_nil)))))
      (vss_cons (vs_set (i := 3) sc_idle.nd rfl (.inr rfl) (ve_f (vf_ct (cF_list rfl rfl) (by rfl) z.list (by decide +kernel) (va_cons (ve_var (pv 1)) va_nil))))
      (vss_one (vs_retF (vf_call c_like_plans hr rfl (passes_call (takes_of rfl rfl rfl rfl) (fun _ _ _ _ z => z)) (va_cons (ve_var (pv 0)) (va_cons (ve_var (pv 3)) (va_cons (ve_f (vf_lc (own := [("k", 4)]) rfl sc_idle.nd (vi_range1 (by rfl) z.range (va_cons (ve_cb (cD_len rfl) (by rfl) z.len (by decide +kernel) (va_cons (ve_var (pv 3)) va_nil)) va_nil)) (blkOk_by (own := [("k", 4)]) (N := ["setting", "plan", "length", "steps", "k"]) (sc := (defScope s_idle)) (by decide +kernel)) (fun _ _ _ _ _ => (vg_name (i := 4) sc_idle.nd rfl (.inl rfl))) (fun _ _ _ _ _ => vts_nil) (fun _ _ _ _ _ => (ve_op (opD_add rfl) (ve_sl (slD_ok rfl) (ve_var (pv 3)) vo_none (vo_some (ve_var (pv 4)))) (ve_sl (slD_ok rfl) (ve_var (pv 3)) (vo_some (ve_op (opD_add rfl) (ve_var (pv 4)) (ve_int pe_int))) vo_none))))) (va_cons (ve_var (pv 2)) va_nil))))))))))
noncomputable def g_swaps : GS := (gSeq (gExpr (gCall 3 F_need_plans (gaCons (gVar 0) (gaCons (gF (gLst (gaCons (gVar 1) gaNil))) (gaCons (gVar 2) gaNil)))))
    (gSeq (gSet 3 (gF (gCBF listF (gaCons (gVar 1) gaNil))))
    (gSeq (gSet 4 (gF (gLc (gRng rng1 (gaCons (gOp subD (gCB lenD (gaCons (gVar 3) gaNil)) (gC (.int 1))) gaNil)) (ggName 5) gYes (gF (gLst (gaStar (gSl slD (gVar 3) gNoPart (gPart (gVar 5))) (gaCons (gOp ixD (gVar 3) (gOp addD (gVar 5) (gC (.int 1)))) (gaCons (gOp ixD (gVar 3) (gVar 5)) (gaStar (gSl slD (gVar 3) (gPart (gOp addD (gVar 5) (gC (.int 2)))) gNoPart) gaNil)))))) [5])))
    (gRetF (gCallF 4 F_like_plans (gaCons (gVar 0) (gaCons (gVar 3) (gaCons (gVar 4) (gaCons (gVar 2) gaNil)))))))))
noncomputable def F_swaps : List D → Res D := runF 6 g_swaps
theorem ok_swaps (z : Z mg) (er : Er P w K mg base cs) (su : Su0 K mg suc) (T : Tc mg) (c_need_plans : LT.Cal P w K mg base (L2.CX P w) "need_plans" 5 ["setting", "plans", "length"] (spD ⟨K, mg⟩ 3 F_need_plans)) (c_like_plans : LT.Cal P w K mg base (L2.CX P w) "like_plans" 6 ["setting", "plan", "others", "length"] (spF ⟨K, mg⟩ 4 F_like_plans)) {f : Addr} {fd : FuncData} (F : Fun K "swaps" "swaps" s_swaps f fd) :
    FnOk P w K mg base (L2.CX P w) 7 f fd ["setting", "plan", "length"] (spF ⟨K, mg⟩ 3 F_swaps) :=
  okF (ow := []) (k := 6) (m := 6) (g := g_swaps) (Fd := F_swaps) rfl F sc_swaps rfl rfl fun cdv A outer s H E hr =>
    (show PSs _ _ (tS ⟨K, mg⟩ false E [] _ [] (gSeq (gExpr (gCall 3 F_need_plans (gaCons (gVar 0) (gaCons (gF (gLst (gaCons (gVar 1) gaNil))) (gaCons (gVar 2) gaNil)))))
    (gSeq (gSet 3 (gF (gCBF listF (gaCons (gVar 1) gaNil))))
    (gSeq (gSet 4 (gF (gLc (gRng rng1 (gaCons (gOp subD (gCB lenD (gaCons (gVar 3) gaNil)) (gC (.int 1))) gaNil)) (ggName 5) gYes (gF (gLst (gaStar (gSl slD (gVar 3) gNoPart (gPart (gVar 5))) (gaCons (gOp ixD (gVar 3) (gOp addD (gVar 5) (gC (.int 1)))) (gaCons (gOp ixD (gVar 3) (gVar 5)) (gaStar (gSl slD (gVar 3) (gPart (gOp addD (gVar 5) (gC (.int 2)))) gNoPart) gaNil)))))) [5])))
    (gRetF (gCallF 4 F_like_plans (gaCons (gVar 0) (gaCons (gVar 3) (gaCons (gVar 4) (gaCons (gVar 2) gaNil)))))))))) from
      (vss_cons (vs_expr (ve_call c_need_plans hr rfl (passes_call (takes_of rfl rfl rfl rfl) (fun _ _ _ _ z => z)) (va_cons (ve_var (pv 0)) (va_cons (ve_f (vf_lst (va_cons (ve_var (pv 1)) va_nil))) (va_cons (ve_var (pv 2)) va_nil)))))
      (vss_cons (vs_set (i := 3) sc_swaps.nd rfl (.inr rfl) (ve_f (vf_ct (cF_list rfl rfl) (by rfl) z.list (by decide +kernel) (va_cons (ve_var (pv 1)) va_nil))))
      (vss_cons (vs_setLc (i := 4) (by rfl) sc_swaps.nd rfl rfl (sw_true rfl rfl rfl (by decide +kernel)) (own := [("k", 5)]) (vi_range1 (by rfl) z.range (va_cons (ve_op (opD_sub) (ve_cb (cD_len rfl) (by rfl) z.len (by decide +kernel) (va_cons (ve_var (pv 3)) va_nil)) (ve_int pe_int)) va_nil)) (blkOk_by (own := [("k", 5)]) (N := ["setting", "plan", "length", "steps", "swapped", "k"]) (sc := (defScope s_swaps)) (by decide +kernel)) (fun _ _ _ _ _ => (vg_name (i := 5) sc_swaps.nd rfl (.inl rfl))) (fun _ _ _ _ _ => vts_nil) (fun _ _ _ _ _ => (ve_f (vf_lst (va_star rfl (ve_sl (slD_ok rfl) (ve_var (pv 3)) vo_none (vo_some (ve_var (pv 5)))) (va_cons (ve_sub rfl (hu_of hr) (ve_var (pv 3)) (ve_op (opD_add rfl) (ve_var (pv 5)) (ve_int pe_int))) (va_cons (ve_sub rfl (hu_of hr) (ve_var (pv 3)) (ve_var (pv 5))) (va_star rfl (ve_sl (slD_ok rfl) (ve_var (pv 3)) (vo_some (ve_op (opD_add rfl) (ve_var (pv 5)) (ve_int pe_int))) vo_none) va_nil))))))))
      (vss_one (vs_retF (vf_call c_like_plans hr rfl (passes_call (takes_of rfl rfl rfl rfl) (fun _ _ _ _ z => z)) (va_cons (ve_var (pv 0)) (va_cons (ve_var (pv 3)) (va_cons (ve_var (pv 4)) (va_cons (ve_var (pv 2)) va_nil)))))))))))
noncomputable def g__law_deeds : GS := (gRet false (gF (gCBF sortF (gaCons (gF (gOpF addF (gF (gCBF listF (gaCons (gOp ixD (gVar 0) (gC (.int 1))) gaNil))) (gF (gOpF mulF (gF (gLst (gaCons (gC (.str "turn")) gaNil))) (gCB intD (gaCons (gOp ixD (gVar 0) (gC (.int 3))) gaNil)))))) gaNil))))
noncomputable def F__law_deeds : List D → Res D := runD 1 g__law_deeds
theorem ok__law_deeds (z : Z mg) (er : Er P w K mg base cs) (su : Su0 K mg suc) (T : Tc mg) {f : Addr} {fd : FuncData} (F : Fun K "_law_deeds" "_law_deeds" s__law_deeds f fd) :
    FnOk P w K mg base (L2.CX P w) 1 f fd ["_law_own_here"] (spD ⟨K, mg⟩ 1 F__law_deeds) :=
  okD (ow := []) (k := 0) (m := 1) (g := g__law_deeds) (Fd := F__law_deeds) rfl F sc__law_deeds rfl rfl fun cdv A outer s H E hr =>
    (show PSs _ _ (tS ⟨K, mg⟩ false E [] _ [] (gRet false (gF (gCBF sortF (gaCons (gF (gOpF addF (gF (gCBF listF (gaCons (gOp ixD (gVar 0) (gC (.int 1))) gaNil))) (gF (gOpF mulF (gF (gLst (gaCons (gC (.str "turn")) gaNil))) (gCB intD (gaCons (gOp ixD (gVar 0) (gC (.int 3))) gaNil)))))) gaNil))))) from
      (vss_one (vs_ret (ve_f (vf_cb (cF_sorted rfl) (by rfl) z.sorted (by decide +kernel) (va_cons (ve_f (vf_op opF_add (ve_f (vf_ct (cF_list rfl rfl) (by rfl) z.list (by decide +kernel) (va_cons (ve_sub rfl (hu_of hr) (ve_var (pv 0)) (ve_int pe_int)) va_nil))) (ve_f (vf_op opF_mul (ve_f (vf_lst (va_cons (ve_str pe_str) va_nil))) (ve_ct (cD_int) (by rfl) z.int (by decide +kernel) (va_cons (ve_sub rfl (hu_of hr) (ve_var (pv 0)) (ve_int pe_int)) va_nil)))))) va_nil))))))
noncomputable def g__law_plan : GS := (gSeq (gSet 4 (gCall 1 F__law_deeds (gaCons (gVar 1) gaNil)))
    (gSeq (gSetF 5 (gLst gaNil))
    (gSeq (gFor (gRng rng1 (gaCons (gOp mulD (gCallI 2 F__law_draw (gaCons (gOwn 0) (gaCons (gOp addD (gVar 3) (gC (.int 1))) gaNil))) (gCB intD (gaCons (gOp neD (gVar 4) (gF (gLst gaNil))) gaNil))) gaNil)) (ggName 6)
    (gSeq (gAsg (gF (gCBF sortF (gaCons (gF (gLst (gaCons (gCallI 2 F__law_draw (gaCons (gOwn 0) (gaCons (gOp addD (gVar 2) (gC (.int 1))) gaNil))) (gaCons (gCallI 2 F__law_draw (gaCons (gOwn 0) (gaCons (gOp addD (gVar 2) (gC (.int 1))) gaNil))) gaNil)))) gaNil))) (ggTup 2 (ggCons (ggName 7) (ggCons (ggName 8) ggNil))))
    (gExpr (gApp 5 (gTup (gaCons (gOp ixD (gVar 4) (gCallI 2 F__law_draw (gaCons (gOwn 0) (gaCons (gCB lenD (gaCons (gVar 4) gaNil)) gaNil)))) (gaCons (gVar 7) (gaCons (gVar 8) gaNil))))))))
    (gRet true (gVar 5)))))
noncomputable def F__law_plan : List D → Res (D × D) := runI 9 g__law_plan
theorem ok__law_plan (z : Z mg) (er : Er P w K mg base cs) (su : Su0 K mg suc) (T : Tc mg) (c__law_draw : LT.Cal P w K mg base (L2.CX P w) "_law_draw" 2 ["_law_purse_here", "_law_out_of"] (spI ⟨K, mg⟩ 2 F__law_draw)) (c__law_deeds : LT.Cal P w K mg base (L2.CX P w) "_law_deeds" 1 ["_law_own_here"] (spD ⟨K, mg⟩ 1 F__law_deeds)) {f : Addr} {fd : FuncData} (F : Fun K "_law_plan" "_law_plan" s__law_plan f fd) :
    FnOk P w K mg base (L2.CX P w) 3 f fd ["_law_purse_here", "_law_own_here", "_law_long", "_law_most"] (spI ⟨K, mg⟩ 4 F__law_plan) :=
  okI (ow := [0]) (k := 2) (m := 9) (g := g__law_plan) (Fd := F__law_plan) rfl F sc__law_plan rfl rfl (by decide) fun cdv A outer s H E hr =>
    (show PSs _ _ (tS ⟨K, mg⟩ true E [0] _ [0] (gSeq (gSet 4 (gCall 1 F__law_deeds (gaCons (gVar 1) gaNil)))
    (gSeq (gSetF 5 (gLst gaNil))
    (gSeq (gFor (gRng rng1 (gaCons (gOp mulD (gCallI 2 F__law_draw (gaCons (gOwn 0) (gaCons (gOp addD (gVar 3) (gC (.int 1))) gaNil))) (gCB intD (gaCons (gOp neD (gVar 4) (gF (gLst gaNil))) gaNil))) gaNil)) (ggName 6)
    (gSeq (gAsg (gF (gCBF sortF (gaCons (gF (gLst (gaCons (gCallI 2 F__law_draw (gaCons (gOwn 0) (gaCons (gOp addD (gVar 2) (gC (.int 1))) gaNil))) (gaCons (gCallI 2 F__law_draw (gaCons (gOwn 0) (gaCons (gOp addD (gVar 2) (gC (.int 1))) gaNil))) gaNil)))) gaNil))) (ggTup 2 (ggCons (ggName 7) (ggCons (ggName 8) ggNil))))
    (gExpr (gApp 5 (gTup (gaCons (gOp ixD (gVar 4) (gCallI 2 F__law_draw (gaCons (gOwn 0) (gaCons (gCB lenD (gaCons (gVar 4) gaNil)) gaNil)))) (gaCons (gVar 7) (gaCons (gVar 8) gaNil))))))))
    (gRet true (gVar 5)))))) from
      (vss_cons (vs_set (i := 4) sc__law_plan.nd rfl (.inl rfl) (ve_call c__law_deeds hr rfl (passes_call (takes_of rfl rfl rfl rfl) (fun _ _ _ _ z => z)) (va_cons (ve_var (pv 1)) va_nil)))
      (vss_cons (vs_ow (ow2 := [5, 0]) (vs_setF (i := 5) sc__law_plan.nd rfl (.inl rfl) (vf_lst va_nil)))
      (vss_cons (vs_wk (ow2 := [0]) (vs_for (passes_of rfl) rfl (vi_range1 (by rfl) z.range (va_cons (ve_op (opD_mul rfl) (ve_callI c__law_draw hr rfl (passes_call (takes_of rfl rfl rfl rfl) (fun _ _ _ _ z => z)) (va_cons (ve_own (pv 0)) (va_cons (ve_op (opD_add rfl) (ve_var (pv 3)) (ve_int pe_int)) va_nil))) (ve_ct (cD_int) (by rfl) z.int (by decide +kernel) (va_cons (ve_cmp (opD_ne rfl hr.units) (ve_var (pv 4)) (ve_f (vf_lst va_nil))) va_nil))) va_nil)) (vg_name (i := 6) sc__law_plan.nd rfl (.inl rfl))
      (vss_cons (vs_asg (ve_f (vf_cb (cF_sorted rfl) (by rfl) z.sorted (by decide +kernel) (va_cons (ve_f (vf_lst (va_cons (ve_callI c__law_draw hr rfl (passes_call (takes_of rfl rfl rfl rfl) (fun _ _ _ _ z => z)) (va_cons (ve_own (pv 0)) (va_cons (ve_op (opD_add rfl) (ve_var (pv 2)) (ve_int pe_int)) va_nil))) (va_cons (ve_callI c__law_draw hr rfl (passes_call (takes_of rfl rfl rfl rfl) (fun _ _ _ _ z => z)) (va_cons (ve_own (pv 0)) (va_cons (ve_op (opD_add rfl) (ve_var (pv 2)) (ve_int pe_int)) va_nil))) va_nil)))) va_nil))) (vg_tup 2 rfl rfl (vgs_cons (vg_name (i := 7) sc__law_plan.nd rfl (.inl rfl)) (vgs_cons (vg_name (i := 8) sc__law_plan.nd rfl (.inl rfl)) vgs_nil))))
      (vss_one (vs_expr (ve_app (pv 5) (by decide) (ve_tup (va_cons (ve_sub rfl (hu_of hr) (ve_var (pv 4)) (ve_callI c__law_draw hr rfl (passes_call (takes_of rfl rfl rfl rfl) (fun _ _ _ _ z => z)) (va_cons (ve_own (pv 0)) (va_cons (ve_cb (cD_len rfl) (by rfl) z.len (by decide +kernel) (va_cons (ve_var (pv 4)) va_nil)) va_nil)))) (va_cons (ve_var (pv 7)) (va_cons (ve_var (pv 8)) va_nil))))))))))
      (vss_one (vs_ret (ve_var (pv 5))))))))
noncomputable def g__law_form : GS := (gSeq (gSetF 3 (gLst gaNil))
    (gSeq (gFor (gRng rng1 (gaCons (gVar 2) gaNil)) (ggName 4)
    (gExpr (gApp 3 (gF (gLst (gaCons (gVar 4) (gaCons (gUn rgT (gOp ixD (gVar 0) (gC (.int 0)))) gaNil)))))))
    (gSeq (gFor (gItA (gVar 1)) (ggTup 3 (ggCons (ggName 5) (ggCons (ggName 6) (ggCons (ggName 7) ggNil))))
    (gIfS (gB (gOp eqD (gVar 5) (gC (.str "turn"))))
    (gSet 3 (gOp addD (gOp addD (gSl slD (gVar 3) gNoPart (gPart (gVar 6))) (gUn revD (gSl slD (gVar 3) (gPart (gVar 6)) (gPart (gVar 7))))) (gSl slD (gVar 3) (gPart (gVar 7)) gNoPart)))
    (gSeq (gSet 8 (gF (gLc (gItA (gSl slD (gVar 3) (gPart (gVar 6)) (gPart (gVar 7)))) (ggTup 2 (ggCons (ggName 4) (ggCons (ggName 9) ggNil))) gYes (gF (gLst (gaCons (gVar 4) (gaCons (gCB tupleD (gaCons (gF (gLc (gItA (gVar 9)) (ggName 10) gYes (gOp ixD (gOp ixD (gOp ixD (gVar 0) (gC (.int 1))) (gVar 5)) (gVar 10)) [10])) gaNil)) gaNil)))) [4, 9])))
    (gSet 3 (gOp addD (gOp addD (gSl slD (gVar 3) gNoPart (gPart (gVar 6))) (gVar 8)) (gSl slD (gVar 3) (gPart (gVar 7)) gNoPart))))))
    (gRet false (gCB tupleD (gaCons (gF (gLc (gItA (gVar 3)) (ggTup 2 (ggCons (ggName 4) (ggCons (ggName 9) ggNil))) gYes (gTup (gaCons (gOp ixD (gF (gLst (gaCons (gVar 4) (gaCons (gC .non) gaNil)))) (gCB intD (gaCons (gOp eqD (gUn lsD (gVar 9)) (gC (.int 1))) gaNil))) (gaCons (gVar 9) gaNil))) [4, 9])) gaNil))))))
noncomputable def F__law_form : List D → Res D := runD 11 g__law_form
theorem ok__law_form (z : Z mg) (er : Er P w K mg base cs) (su : Su0 K mg suc) (T : Tc mg) {f : Addr} {fd : FuncData} (F : Fun K "_law_form" "_law_form" s__law_form f fd) :
    FnOk P w K mg base (L2.CX P w) 1 f fd ["_law_own_here", "_law_steps", "_law_long"] (spD ⟨K, mg⟩ 3 F__law_form) :=
  okD (ow := []) (k := 0) (m := 11) (g := g__law_form) (Fd := F__law_form) rfl F sc__law_form rfl rfl fun cdv A outer s H E hr =>
    (show PSs _ _ (tS ⟨K, mg⟩ false E [] _ [] (gSeq (gSetF 3 (gLst gaNil))
    (gSeq (gFor (gRng rng1 (gaCons (gVar 2) gaNil)) (ggName 4)
    (gExpr (gApp 3 (gF (gLst (gaCons (gVar 4) (gaCons (gUn rgT (gOp ixD (gVar 0) (gC (.int 0)))) gaNil)))))))
    (gSeq (gFor (gItA (gVar 1)) (ggTup 3 (ggCons (ggName 5) (ggCons (ggName 6) (ggCons (ggName 7) ggNil))))
    (gIfS (gB (gOp eqD (gVar 5) (gC (.str "turn"))))
    (gSet 3 (gOp addD (gOp addD (gSl slD (gVar 3) gNoPart (gPart (gVar 6))) (gUn revD (gSl slD (gVar 3) (gPart (gVar 6)) (gPart (gVar 7))))) (gSl slD (gVar 3) (gPart (gVar 7)) gNoPart)))
    (gSeq (gSet 8 (gF (gLc (gItA (gSl slD (gVar 3) (gPart (gVar 6)) (gPart (gVar 7)))) (ggTup 2 (ggCons (ggName 4) (ggCons (ggName 9) ggNil))) gYes (gF (gLst (gaCons (gVar 4) (gaCons (gCB tupleD (gaCons (gF (gLc (gItA (gVar 9)) (ggName 10) gYes (gOp ixD (gOp ixD (gOp ixD (gVar 0) (gC (.int 1))) (gVar 5)) (gVar 10)) [10])) gaNil)) gaNil)))) [4, 9])))
    (gSet 3 (gOp addD (gOp addD (gSl slD (gVar 3) gNoPart (gPart (gVar 6))) (gVar 8)) (gSl slD (gVar 3) (gPart (gVar 7)) gNoPart))))))
    (gRet false (gCB tupleD (gaCons (gF (gLc (gItA (gVar 3)) (ggTup 2 (ggCons (ggName 4) (ggCons (ggName 9) ggNil))) gYes (gTup (gaCons (gOp ixD (gF (gLst (gaCons (gVar 4) (gaCons (gC .non) gaNil)))) (gCB intD (gaCons (gOp eqD (gUn lsD (gVar 9)) (gC (.int 1))) gaNil))) (gaCons (gVar 9) gaNil))) [4, 9])) gaNil))))))) from
      (vss_cons (vs_ow (ow2 := [3]) (vs_setF (i := 3) sc__law_form.nd rfl (.inl rfl) (vf_lst va_nil)))
      (vss_cons (vs_wk (ow2 := []) (vs_for (passes_of rfl) rfl (vi_range1 (by rfl) z.range (va_cons (ve_var (pv 2)) va_nil)) (vg_name (i := 4) sc__law_form.nd rfl (.inl rfl))
      (vss_one (vs_expr (ve_app (pv 3) (by decide) (ve_f (vf_lst (va_cons (ve_var (pv 4)) (va_cons (ve_tupRg rfl (by rfl) z.tuple (by rfl) z.range (ve_sub rfl (hu_of hr) (ve_var (pv 0)) (ve_int pe_int))) va_nil)))))))))
      (vss_cons (vs_for (passes_of rfl) rfl (vi_any rfl (ve_var (pv 1))) (vg_tup 3 rfl rfl (vgs_cons (vg_name (i := 5) sc__law_form.nd rfl (.inr rfl)) (vgs_cons (vg_name (i := 6) sc__law_form.nd rfl (.inl rfl)) (vgs_cons (vg_name (i := 7) sc__law_form.nd rfl (.inl rfl)) vgs_nil))))
      (vss_one (vs_if (vt_cmp (opD_eq rfl hr.units) (ve_var (pv 5)) (ve_str pe_str)) (vss_one (vs_set (i := 3) sc__law_form.nd rfl (.inl rfl) (ve_op (opD_add rfl) (ve_op (opD_add rfl) (ve_sl (slD_ok rfl) (ve_var (pv 3)) vo_none (vo_some (ve_var (pv 6)))) (ve_rev rfl (ve_sl (slD_ok rfl) (ve_var (pv 3)) (vo_some (ve_var (pv 6))) (vo_some (ve_var (pv 7)))))) (ve_sl (slD_ok rfl) (ve_var (pv 3)) (vo_some (ve_var (pv 7))) vo_none)))) (vss_cons (vs_setLc (i := 8) (by rfl) sc__law_form.nd rfl rfl (sw_true rfl rfl rfl (by decide +kernel)) (own := [("_law_place", 4), ("_law_line", 9)]) (vi_any rfl (ve_sl (slD_ok rfl) (ve_var (pv 3)) (vo_some (ve_var (pv 6))) (vo_some (ve_var (pv 7))))) (blkOk_by (own := [("_law_place", 4), ("_law_line", 9)]) (N := ["_law_own_here", "_law_steps", "_law_long", "_law_goal", "_law_place", "_law_act", "_law_first", "_law_last", "_law_some", "_law_line", "_law_value"]) (sc := (defScope s__law_form)) (by decide +kernel)) (fun _ _ _ _ _ => (vg_tup 2 rfl rfl (vgs_cons (vg_name (i := 4) sc__law_form.nd rfl (.inl rfl)) (vgs_cons (vg_name (i := 9) sc__law_form.nd rfl (.inl rfl)) vgs_nil)))) (fun _ _ _ _ _ => vts_nil) (fun _ _ _ _ _ => (ve_f (vf_lst (va_cons (ve_var (pv 4)) (va_cons (ve_ct (cD_tuple rfl) (by rfl) z.tuple (by decide +kernel) (va_cons (ve_f (vf_lc (own := [("_law_value", 10)]) rfl sc__law_form.nd (vi_any rfl (ve_var (pv 9))) (blkOk_by (own := [("_law_value", 10)]) (N := ["_law_own_here", "_law_steps", "_law_long", "_law_goal", "_law_place", "_law_act", "_law_first", "_law_last", "_law_some", "_law_line", "_law_value"]) (by rfl)) (fun _ _ _ _ _ => (vg_name (i := 10) sc__law_form.nd rfl (.inl rfl))) (fun _ _ _ _ _ => vts_nil) (fun _ _ _ _ _ => (ve_sub rfl (hu_of hr) (ve_sub rfl (hu_of hr) (ve_sub rfl (hu_of hr) (ve_var (pv 0)) (ve_int pe_int)) (ve_var (pv 5))) (ve_var (pv 10)))))) va_nil)) va_nil))))))
      (vss_one (vs_set (i := 3) sc__law_form.nd rfl (.inl rfl) (ve_op (opD_add rfl) (ve_op (opD_add rfl) (ve_sl (slD_ok rfl) (ve_var (pv 3)) vo_none (vo_some (ve_var (pv 6)))) (ve_var (pv 8))) (ve_sl (slD_ok rfl) (ve_var (pv 3)) (vo_some (ve_var (pv 7))) vo_none))))))))
      (vss_one (vs_ret (ve_ct (cD_tuple rfl) (by rfl) z.tuple (by decide +kernel) (va_cons (ve_f (vf_lc (own := [("_law_place", 4), ("_law_line", 9)]) rfl sc__law_form.nd (vi_any rfl (ve_var (pv 3))) (blkOk_by (own := [("_law_place", 4), ("_law_line", 9)]) (N := ["_law_own_here", "_law_steps", "_law_long", "_law_goal", "_law_place", "_law_act", "_law_first", "_law_last", "_law_some", "_law_line", "_law_value"]) (sc := (defScope s__law_form)) (by decide +kernel)) (fun _ _ _ _ _ => (vg_tup 2 rfl rfl (vgs_cons (vg_name (i := 4) sc__law_form.nd rfl (.inl rfl)) (vgs_cons (vg_name (i := 9) sc__law_form.nd rfl (.inl rfl)) vgs_nil)))) (fun _ _ _ _ _ => vts_nil) (fun _ _ _ _ _ => (ve_tup (va_cons (ve_sub rfl (hu_of hr) (ve_f (vf_lst (va_cons (ve_var (pv 4)) (va_cons (ve_non pe_non) va_nil)))) (ve_ct (cD_int) (by rfl) z.int (by decide +kernel) (va_cons (ve_cmp (opD_eq rfl hr.units) (ve_lenSet rfl rfl (by rfl) z.len (by rfl) z.set (ve_var (pv 9))) (ve_int pe_int)) va_nil))) (va_cons (ve_var (pv 9)) va_nil)))))) va_nil))))))))
noncomputable def g__law_right : GS := (gSeq (gSet 3 (gOp ixD (gF (gLst (gaCons (gCallI 2 F__law_draw (gaCons (gOwn 0) (gaCons (gC (.int 7)) gaNil))) (gaCons (gCallI 2 F__law_draw (gaCons (gOwn 0) (gaCons (gC (.int 61)) gaNil))) gaNil)))) (gCB intD (gaCons (gOp eqD (gCallI 2 F__law_draw (gaCons (gOwn 0) (gaCons (gC (.int 4)) gaNil))) (gC (.int 0))) gaNil))))
    (gSeq (gSet 4 (gCallI 4 F__law_plan (gaCons (gOwn 0) (gaCons (gVar 1) (gaCons (gVar 3) (gaCons (gOp ixD (gF (gLst (gaCons (gC (.int 6)) (gaCons (gC (.int 6)) (gaCons (gC (.int 6)) (gaCons (gC (.int 36)) gaNil)))))) (gOp mulD (gCallI 2 F__law_draw (gaCons (gOwn 0) (gaCons (gC (.int 4)) gaNil))) (gCB intD (gaCons (gOp ltD (gVar 3) (gC (.int 7))) gaNil)))) gaNil))))))
    (gSeq (gSet 5 (gCallI 2 F__law_draw (gaCons (gOwn 0) (gaCons (gOp addD (gCB lenD (gaCons (gVar 4) gaNil)) (gC (.int 1))) gaNil))))
    (gSeq (gSet 4 (gOp addD (gOp addD (gSl slD (gVar 4) gNoPart (gPart (gVar 5))) (gOp mulD (gSl slD (gVar 4) (gPart (gVar 5)) (gPart (gOp addD (gVar 5) (gC (.int 1))))) (gCallI 2 F__law_draw (gaCons (gOwn 0) (gaCons (gC (.int 4)) gaNil))))) (gSl slD (gVar 4) (gPart (gVar 5)) gNoPart)))
    (gSeq (gSet 6 (gCall 3 F__law_form (gaCons (gVar 1) (gaCons (gVar 4) (gaCons (gVar 3) gaNil)))))
    (gSeq (gSet 7 (gF (gLc (gRng rng1 (gaCons (gCB lenD (gaCons (gVar 4) gaNil)) gaNil)) (ggName 9) (gB (gOp eqD (gCall 3 F__law_form (gaCons (gVar 1) (gaCons (gOp addD (gSl slD (gVar 4) gNoPart (gPart (gVar 9))) (gSl slD (gVar 4) (gPart (gOp addD (gVar 9) (gC (.int 1)))) gNoPart)) (gaCons (gVar 3) gaNil)))) (gVar 6))) (gVar 9) [9])))
    (gSeq (gSetF 8 (gLst gaNil))
    (gSeq (gFor (gRng rng1 (gaCons (gOp subD (gCB lenD (gaCons (gVar 4) gaNil)) (gC (.int 1))) gaNil)) (ggName 9)
    (gIfS (gB (gOp eqD (gCall 3 F__law_form (gaCons (gVar 1) (gaCons (gOp addD (gOp addD (gSl slD (gVar 4) gNoPart (gPart (gVar 9))) (gF (gLst (gaCons (gOp ixD (gVar 4) (gOp addD (gVar 9) (gC (.int 1)))) (gaCons (gOp ixD (gVar 4) (gVar 9)) gaNil))))) (gSl slD (gVar 4) (gPart (gOp addD (gVar 9) (gC (.int 2)))) gNoPart)) (gaCons (gVar 3) gaNil)))) (gVar 6)))
    (gExpr (gApp 8 (gVar 9)))
    gNil))
    (gSeq (gTwo 10 11 12 (gCallF 3 F_idle (gaCons (gVar 2) (gaCons (gVar 4) (gaCons (gVar 3) gaNil)))) (gCallF 3 F_swaps (gaCons (gVar 2) (gaCons (gCB tupleD (gaCons (gVar 4) gaNil)) (gaCons (gVar 3) gaNil)))) (gF (gLst (gaCons (gVar 7) (gaCons (gVar 8) gaNil))))
    (gRet true (gC (.bl false))))
    (gSeq (gSet 10 (gF (gLst (gaCons (gCallK 3 F_idle [2, 1, 0] (gaCons (gVar 3) (gaCons (gCB tupleD (gaCons (gVar 4) gaNil)) (gaCons (gVar 2) gaNil)))) (gaCons (gCallK 3 F_swaps [2, 1, 0] (gaCons (gVar 3) (gaCons (gVar 4) (gaCons (gVar 2) gaNil)))) gaNil)))))
    (gRet true (gOp eqD (gVar 10) (gF (gLst (gaCons (gVar 7) (gaCons (gVar 8) gaNil))))))))))))))))
noncomputable def F__law_right : List D → Res (D × D) := runI 13 g__law_right
theorem ok__law_right (z : Z mg) (er : Er P w K mg base cs) (su : Su0 K mg suc) (T : Tc mg) (c__law_draw : LT.Cal P w K mg base (L2.CX P w) "_law_draw" 2 ["_law_purse_here", "_law_out_of"] (spI ⟨K, mg⟩ 2 F__law_draw)) (c_idle : LT.Cal P w K mg base (L2.CX P w) "idle" 7 ["setting", "plan", "length"] (spF ⟨K, mg⟩ 3 F_idle)) (c_swaps : LT.Cal P w K mg base (L2.CX P w) "swaps" 7 ["setting", "plan", "length"] (spF ⟨K, mg⟩ 3 F_swaps)) (c__law_plan : LT.Cal P w K mg base (L2.CX P w) "_law_plan" 3 ["_law_purse_here", "_law_own_here", "_law_long", "_law_most"] (spI ⟨K, mg⟩ 4 F__law_plan)) (c__law_form : LT.Cal P w K mg base (L2.CX P w) "_law_form" 1 ["_law_own_here", "_law_steps", "_law_long"] (spD ⟨K, mg⟩ 3 F__law_form)) (k_idle_2_1_0 : LT.CalK P w K mg base (L2.CX P w) "idle" 7 ["setting", "plan", "length"] ["length", "plan", "setting"] (pick .non [2, 1, 0]) (spD ⟨K, mg⟩ 3 F_idle)) (k_swaps_2_1_0 : LT.CalK P w K mg base (L2.CX P w) "swaps" 7 ["setting", "plan", "length"] ["length", "plan", "setting"] (pick .non [2, 1, 0]) (spD ⟨K, mg⟩ 3 F_swaps)) {f : Addr} {fd : FuncData} (F : Fun K "_law_right" "_law_right" s__law_right f fd) :
    FnOk P w K mg base (L2.CX P w) 8 f fd ["_law_purse_here", "_law_own_here", "_law_made"] (spI ⟨K, mg⟩ 3 F__law_right) :=
  okI (ow := [0]) (k := 7) (m := 13) (g := g__law_right) (Fd := F__law_right) rfl F sc__law_right rfl rfl (by decide) fun cdv A outer s H E hr =>
    (show PSs _ _ (tS ⟨K, mg⟩ true E [0] _ [0] (gSeq (gSet 3 (gOp ixD (gF (gLst (gaCons (gCallI 2 F__law_draw (gaCons (gOwn 0) (gaCons (gC (.int 7)) gaNil))) (gaCons (gCallI 2 F__law_draw (gaCons (gOwn 0) (gaCons (gC (.int 61)) gaNil))) gaNil)))) (gCB intD (gaCons (gOp eqD (gCallI 2 F__law_draw (gaCons (gOwn 0) (gaCons (gC (.int 4)) gaNil))) (gC (.int 0))) gaNil))))
    (gSeq (gSet 4 (gCallI 4 F__law_plan (gaCons (gOwn 0) (gaCons (gVar 1) (gaCons (gVar 3) (gaCons (gOp ixD (gF (gLst (gaCons (gC (.int 6)) (gaCons (gC (.int 6)) (gaCons (gC (.int 6)) (gaCons (gC (.int 36)) gaNil)))))) (gOp mulD (gCallI 2 F__law_draw (gaCons (gOwn 0) (gaCons (gC (.int 4)) gaNil))) (gCB intD (gaCons (gOp ltD (gVar 3) (gC (.int 7))) gaNil)))) gaNil))))))
    (gSeq (gSet 5 (gCallI 2 F__law_draw (gaCons (gOwn 0) (gaCons (gOp addD (gCB lenD (gaCons (gVar 4) gaNil)) (gC (.int 1))) gaNil))))
    (gSeq (gSet 4 (gOp addD (gOp addD (gSl slD (gVar 4) gNoPart (gPart (gVar 5))) (gOp mulD (gSl slD (gVar 4) (gPart (gVar 5)) (gPart (gOp addD (gVar 5) (gC (.int 1))))) (gCallI 2 F__law_draw (gaCons (gOwn 0) (gaCons (gC (.int 4)) gaNil))))) (gSl slD (gVar 4) (gPart (gVar 5)) gNoPart)))
    (gSeq (gSet 6 (gCall 3 F__law_form (gaCons (gVar 1) (gaCons (gVar 4) (gaCons (gVar 3) gaNil)))))
    (gSeq (gSet 7 (gF (gLc (gRng rng1 (gaCons (gCB lenD (gaCons (gVar 4) gaNil)) gaNil)) (ggName 9) (gB (gOp eqD (gCall 3 F__law_form (gaCons (gVar 1) (gaCons (gOp addD (gSl slD (gVar 4) gNoPart (gPart (gVar 9))) (gSl slD (gVar 4) (gPart (gOp addD (gVar 9) (gC (.int 1)))) gNoPart)) (gaCons (gVar 3) gaNil)))) (gVar 6))) (gVar 9) [9])))
    (gSeq (gSetF 8 (gLst gaNil))
    (gSeq (gFor (gRng rng1 (gaCons (gOp subD (gCB lenD (gaCons (gVar 4) gaNil)) (gC (.int 1))) gaNil)) (ggName 9)
    (gIfS (gB (gOp eqD (gCall 3 F__law_form (gaCons (gVar 1) (gaCons (gOp addD (gOp addD (gSl slD (gVar 4) gNoPart (gPart (gVar 9))) (gF (gLst (gaCons (gOp ixD (gVar 4) (gOp addD (gVar 9) (gC (.int 1)))) (gaCons (gOp ixD (gVar 4) (gVar 9)) gaNil))))) (gSl slD (gVar 4) (gPart (gOp addD (gVar 9) (gC (.int 2)))) gNoPart)) (gaCons (gVar 3) gaNil)))) (gVar 6)))
    (gExpr (gApp 8 (gVar 9)))
    gNil))
    (gSeq (gTwo 10 11 12 (gCallF 3 F_idle (gaCons (gVar 2) (gaCons (gVar 4) (gaCons (gVar 3) gaNil)))) (gCallF 3 F_swaps (gaCons (gVar 2) (gaCons (gCB tupleD (gaCons (gVar 4) gaNil)) (gaCons (gVar 3) gaNil)))) (gF (gLst (gaCons (gVar 7) (gaCons (gVar 8) gaNil))))
    (gRet true (gC (.bl false))))
    (gSeq (gSet 10 (gF (gLst (gaCons (gCallK 3 F_idle [2, 1, 0] (gaCons (gVar 3) (gaCons (gCB tupleD (gaCons (gVar 4) gaNil)) (gaCons (gVar 2) gaNil)))) (gaCons (gCallK 3 F_swaps [2, 1, 0] (gaCons (gVar 3) (gaCons (gVar 4) (gaCons (gVar 2) gaNil)))) gaNil)))))
    (gRet true (gOp eqD (gVar 10) (gF (gLst (gaCons (gVar 7) (gaCons (gVar 8) gaNil))))))))))))))))) from
      (vss_cons (vs_set (i := 3) sc__law_right.nd rfl (.inr rfl) (ve_sub rfl (hu_of hr) (ve_f (vf_lst (va_cons (ve_callI c__law_draw hr rfl (passes_call (takes_of rfl rfl rfl rfl) (fun _ _ _ _ z => z)) (va_cons (ve_own (pv 0)) (va_cons (ve_int pe_int) va_nil))) (va_cons (ve_callI c__law_draw hr rfl (passes_call (takes_of rfl rfl rfl rfl) (fun _ _ _ _ z => z)) (va_cons (ve_own (pv 0)) (va_cons (ve_int pe_int) va_nil))) va_nil)))) (ve_ct (cD_int) (by rfl) z.int (by decide +kernel) (va_cons (ve_cmp (opD_eq rfl hr.units) (ve_callI c__law_draw hr rfl (passes_call (takes_of rfl rfl rfl rfl) (fun _ _ _ _ z => z)) (va_cons (ve_own (pv 0)) (va_cons (ve_int pe_int) va_nil))) (ve_int pe_int)) va_nil))))
      (vss_cons (vs_set (i := 4) sc__law_right.nd rfl (.inr rfl) (ve_callI c__law_plan hr rfl (passes_call (takes_of rfl rfl rfl rfl) (fun _ _ _ _ z => z)) (va_cons (ve_own (pv 0)) (va_cons (ve_var (pv 1)) (va_cons (ve_var (pv 3)) (va_cons (ve_sub rfl (hu_of hr) (ve_f (vf_lst (va_cons (ve_int pe_int) (va_cons (ve_int pe_int) (va_cons (ve_int pe_int) (va_cons (ve_int pe_int) va_nil)))))) (ve_op (opD_mul rfl) (ve_callI c__law_draw hr rfl (passes_call (takes_of rfl rfl rfl rfl) (fun _ _ _ _ z => z)) (va_cons (ve_own (pv 0)) (va_cons (ve_int pe_int) va_nil))) (ve_ct (cD_int) (by rfl) z.int (by decide +kernel) (va_cons (ve_cmp (opD_lt) (ve_var (pv 3)) (ve_int pe_int)) va_nil)))) va_nil))))))
      (vss_cons (vs_set (i := 5) sc__law_right.nd rfl (.inl rfl) (ve_callI c__law_draw hr rfl (passes_call (takes_of rfl rfl rfl rfl) (fun _ _ _ _ z => z)) (va_cons (ve_own (pv 0)) (va_cons (ve_op (opD_add rfl) (ve_cb (cD_len rfl) (by rfl) z.len (by decide +kernel) (va_cons (ve_var (pv 4)) va_nil)) (ve_int pe_int)) va_nil))))
      (vss_cons (vs_set (i := 4) sc__law_right.nd rfl (.inr rfl) (ve_op (opD_add rfl) (ve_op (opD_add rfl) (ve_sl (slD_ok rfl) (ve_var (pv 4)) vo_none (vo_some (ve_var (pv 5)))) (ve_op (opD_mul rfl) (ve_sl (slD_ok rfl) (ve_var (pv 4)) (vo_some (ve_var (pv 5))) (vo_some (ve_op (opD_add rfl) (ve_var (pv 5)) (ve_int pe_int)))) (ve_callI c__law_draw hr rfl (passes_call (takes_of rfl rfl rfl rfl) (fun _ _ _ _ z => z)) (va_cons (ve_own (pv 0)) (va_cons (ve_int pe_int) va_nil))))) (ve_sl (slD_ok rfl) (ve_var (pv 4)) (vo_some (ve_var (pv 5))) vo_none)))
      (vss_cons (vs_set (i := 6) sc__law_right.nd rfl (.inr rfl) (ve_call c__law_form hr rfl (passes_call (takes_of rfl rfl rfl rfl) (fun _ _ _ _ z => z)) (va_cons (ve_var (pv 1)) (va_cons (ve_var (pv 4)) (va_cons (ve_var (pv 3)) va_nil)))))
      (vss_cons (vs_setLc (i := 7) (by rfl) sc__law_right.nd rfl rfl (sw_true rfl rfl rfl (by decide +kernel)) (own := [("_law_k", 9)]) (vi_range1 (by rfl) z.range (va_cons (ve_cb (cD_len rfl) (by rfl) z.len (by decide +kernel) (va_cons (ve_var (pv 4)) va_nil)) va_nil)) (blkOk_by (own := [("_law_k", 9)]) (N := ["_law_purse_here", "_law_own_here", "_law_made", "_law_long", "_law_steps", "_law_at_here", "_law_goal", "_law_due", "_law_changed", "_law_k", "_law_told", "_law_first", "_law_last"]) (sc := (defScope s__law_right)) (by decide +kernel)) (fun _ _ _ _ _ => (vg_name (i := 9) sc__law_right.nd rfl (.inl rfl))) (fun _ _ _ _ _ => (vts_one (vt_cmp (opD_eq rfl hr.units) (ve_call c__law_form hr rfl passL (va_cons (ve_var (pv 1)) (va_cons (ve_op (opD_add rfl) (ve_sl (slD_ok rfl) (ve_var (pv 4)) vo_none (vo_some (ve_var (pv 9)))) (ve_sl (slD_ok rfl) (ve_var (pv 4)) (vo_some (ve_op (opD_add rfl) (ve_var (pv 9)) (ve_int pe_int))) vo_none)) (va_cons (ve_var (pv 3)) va_nil)))) (ve_var (pv 6))))) (fun _ _ _ _ _ => (ve_var (pv 9))))
      (vss_cons (vs_ow (ow2 := [8, 0]) (vs_setF (i := 8) sc__law_right.nd rfl (.inl rfl) (vf_lst va_nil)))
      (vss_cons (vs_wk (ow2 := [0]) (vs_for (passes_of rfl) rfl (vi_range1 (by rfl) z.range (va_cons (ve_op (opD_sub) (ve_cb (cD_len rfl) (by rfl) z.len (by decide +kernel) (va_cons (ve_var (pv 4)) va_nil)) (ve_int pe_int)) va_nil)) (vg_name (i := 9) sc__law_right.nd rfl (.inl rfl))
      (vss_one (vs_if (vt_cmp (opD_eq rfl hr.units) (ve_call c__law_form hr rfl (passes_call (takes_of rfl rfl rfl rfl) (fun _ _ _ _ z => z)) (va_cons (ve_var (pv 1)) (va_cons (ve_op (opD_add rfl) (ve_op (opD_add rfl) (ve_sl (slD_ok rfl) (ve_var (pv 4)) vo_none (vo_some (ve_var (pv 9)))) (ve_f (vf_lst (va_cons (ve_sub rfl (hu_of hr) (ve_var (pv 4)) (ve_op (opD_add rfl) (ve_var (pv 9)) (ve_int pe_int))) (va_cons (ve_sub rfl (hu_of hr) (ve_var (pv 4)) (ve_var (pv 9))) va_nil))))) (ve_sl (slD_ok rfl) (ve_var (pv 4)) (vo_some (ve_op (opD_add rfl) (ve_var (pv 9)) (ve_int pe_int))) vo_none)) (va_cons (ve_var (pv 3)) va_nil)))) (ve_var (pv 6))) (vss_one (vs_expr (ve_app (pv 8) (by decide) (ve_var (pv 9))))) vss_nil))))
      (vss_two (i := 10) (a := 11) (b := 12) (ca := .int 99) (da := .int 99) (cb := .int 99) (db := .int 99) rfl rfl sc__law_right.nd rfl (.inl rfl) rfl (.inl rfl) rfl (.inl rfl) (vf_call c_idle hr rfl (passes_call (takes_of rfl rfl rfl rfl) (fun _ _ _ _ z => z)) (va_cons (ve_var (pv 2)) (va_cons (ve_var (pv 4)) (va_cons (ve_var (pv 3)) va_nil)))) (vf_call c_swaps hr rfl (passes_call (takes_of rfl rfl rfl rfl) (fun _ _ _ _ z => z)) (va_cons (ve_var (pv 2)) (va_cons (ve_ct (cD_tuple rfl) (by rfl) z.tuple (by decide +kernel) (va_cons (ve_var (pv 4)) va_nil)) (va_cons (ve_var (pv 3)) va_nil)))) (pv 10) (pv 10) (ve_f (vf_lst (va_cons (ve_var (pv 7)) (va_cons (ve_var (pv 8)) va_nil)))) (opD_ne rfl hr.units)
      (vss_one (vs_ret (ve_bl pe_bl)))
      (fun _ _ => VL.Rp.int _) (fun _ _ => VL.Rp.int _)
      (vss_cons (vs_set (i := 10) sc__law_right.nd rfl (.inl rfl) (ve_f (vf_lst (va_cons (ve_callK k_idle_2_1_0 hr rfl (passes_call (takes_of rfl rfl rfl rfl) (fun _ _ _ _ z => z)) (vk_cons (ve_var (pv 3)) (vk_cons (ve_ct (cD_tuple rfl) (by rfl) z.tuple (by decide +kernel) (va_cons (ve_var (pv 4)) va_nil)) (vk_cons (ve_var (pv 2)) vk_nil)))) (va_cons (ve_callK k_swaps_2_1_0 hr rfl (passes_call (takes_of rfl rfl rfl rfl) (fun _ _ _ _ z => z)) (vk_cons (ve_var (pv 3)) (vk_cons (ve_var (pv 4)) (vk_cons (ve_var (pv 2)) vk_nil)))) va_nil)))))
      (vss_one (vs_ret (ve_cmp (opD_eq rfl hr.units) (ve_var (pv 10)) (ve_f (vf_lst (va_cons (ve_var (pv 7)) (va_cons (ve_var (pv 8)) va_nil))))))))
      (by decide) (by decide) (by decide) (by decide) (.inr rfl) (.inr rfl) (.inr rfl) rfl rfl rfl rfl rfl rfl rfl rfl rfl rfl rfl (pe_appv (pv 11) pe_int) (pe_appv (pv 12) pe_int) rfl rfl))))))))))
noncomputable def g_law : GS := (gSeq (gFor (gRng rng1 (gaCons (gOp addD (gC (.int 1)) (gCB minD (gaCons (gC (.int 6)) (gaCons (gCB lenD (gaCons (gVar 0) gaNil)) gaNil)))) gaNil)) (ggName 1)
    (gSeq (gSetF 2 (gCallF 2 F__law_purse (gaCons (gVar 0) (gaCons (gVar 1) gaNil))))
    (gSeq (gSet 3 (gCallI 3 F__law_own (gaCons (gOwn 2) (gaCons (gC (.int 4)) (gaCons (gC (.int 1)) gaNil)))))
    (gSeq (gSet 4 (gCall 1 F__law_setting (gaCons (gVar 3) gaNil)))
    (gFor (gRng rng1 (gaCons (gC (.int 4)) gaNil)) (ggName 5)
    (gIfS (gNotT (gTru (gCallI 3 F__law_right (gaCons (gOwn 2) (gaCons (gVar 3) (gaCons (gVar 4) gaNil))))))
    (gRet false (gC (.bl false)))
    gNil))))))
    (gSeq (gSet 6 (gF (gMake "Setting" 5 F_Setting___init__ (gaCons (gC (.int 3)) (gaCons (gF (gDisp [((gC (.str "up")), (gTup (gaCons (gC (.int 1)) (gaCons (gC (.int 2)) (gaCons (gC (.int 2)) gaNil))))), ((gC (.str "two")), (gTup (gaCons (gC (.int 2)) (gaCons (gC (.int 2)) (gaCons (gC (.int 2)) gaNil)))))])) (gaCons (gC .non) (gaCons (gC (.bl true)) gaNil)))))))
    (gSeq (gSet 7 (gTup (gaCons (gTup (gaCons (gC (.str "turn")) (gaCons (gC (.int 0)) (gaCons (gC (.int 4)) gaNil)))) (gaCons (gTup (gaCons (gC (.str "two")) (gaCons (gC (.int 0)) (gaCons (gC (.int 2)) gaNil)))) (gaCons (gTup (gaCons (gC (.str "up")) (gaCons (gC (.int 0)) (gaCons (gC (.int 4)) gaNil)))) (gaCons (gTup (gaCons (gC (.str "turn")) (gaCons (gC (.int 2)) (gaCons (gC (.int 2)) gaNil)))) (gaCons (gTup (gaCons (gC (.str "turn")) (gaCons (gC (.int 0)) (gaCons (gC (.int 4)) gaNil)))) gaNil)))))))
    (gRet false (gAnd (gOp eqD (gF (gCallF 3 F_idle (gaCons (gVar 6) (gaCons (gVar 7) (gaCons (gC (.int 4)) gaNil))))) (gF (gLst (gaCons (gC (.int 3)) gaNil)))) (gAnd (gOp eqD (gF (gCallF 3 F_swaps (gaCons (gVar 6) (gaCons (gVar 7) (gaCons (gC (.int 4)) gaNil))))) (gF (gLst (gaCons (gC (.int 1)) (gaCons (gC (.int 2)) (gaCons (gC (.int 3)) gaNil)))))) (gOp eqD (gF (gCallF 3 F_swaps (gaCons (gVar 6) (gaCons (gTup gaNil) (gaCons (gC (.int 0)) gaNil))))) (gF (gLst gaNil)))))))))
noncomputable def F_law : List D → Res D := runD 8 g_law
theorem ok_law (z : Z mg) (er : Er P w K mg base cs) (su : Su0 K mg suc) (T : Tc mg) (mk_Setting : MakeOk P w K mg base "Setting" 6 5 F_Setting___init__) (c__law_purse : LT.Cal P w K mg base (L2.CX P w) "_law_purse" 2 ["_law_script", "_law_at_here"] (spF ⟨K, mg⟩ 2 F__law_purse)) (c__law_own : LT.Cal P w K mg base (L2.CX P w) "_law_own" 4 ["_law_purse_here", "_law_wide", "_law_most"] (spI ⟨K, mg⟩ 3 F__law_own)) (c__law_setting : LT.Cal P w K mg base (L2.CX P w) "_law_setting" 8 ["_law_own_here"] (spD ⟨K, mg⟩ 1 F__law_setting)) (c_idle : LT.Cal P w K mg base (L2.CX P w) "idle" 7 ["setting", "plan", "length"] (spF ⟨K, mg⟩ 3 F_idle)) (c_swaps : LT.Cal P w K mg base (L2.CX P w) "swaps" 7 ["setting", "plan", "length"] (spF ⟨K, mg⟩ 3 F_swaps)) (c__law_right : LT.Cal P w K mg base (L2.CX P w) "_law_right" 8 ["_law_purse_here", "_law_own_here", "_law_made"] (spI ⟨K, mg⟩ 3 F__law_right)) {f : Addr} {fd : FuncData} (F : Fun K "law" "law" s_law f fd) :
    FnOk P w K mg base (L2.CX P w) 9 f fd ["_law_script"] (spD ⟨K, mg⟩ 1 F_law) :=
  okD (ow := []) (k := 8) (m := 8) (g := g_law) (Fd := F_law) rfl F sc_law rfl rfl fun cdv A outer s H E hr =>
    (show PSs _ _ (tS ⟨K, mg⟩ false E [] _ [] (gSeq (gFor (gRng rng1 (gaCons (gOp addD (gC (.int 1)) (gCB minD (gaCons (gC (.int 6)) (gaCons (gCB lenD (gaCons (gVar 0) gaNil)) gaNil)))) gaNil)) (ggName 1)
    (gSeq (gSetF 2 (gCallF 2 F__law_purse (gaCons (gVar 0) (gaCons (gVar 1) gaNil))))
    (gSeq (gSet 3 (gCallI 3 F__law_own (gaCons (gOwn 2) (gaCons (gC (.int 4)) (gaCons (gC (.int 1)) gaNil)))))
    (gSeq (gSet 4 (gCall 1 F__law_setting (gaCons (gVar 3) gaNil)))
    (gFor (gRng rng1 (gaCons (gC (.int 4)) gaNil)) (ggName 5)
    (gIfS (gNotT (gTru (gCallI 3 F__law_right (gaCons (gOwn 2) (gaCons (gVar 3) (gaCons (gVar 4) gaNil))))))
    (gRet false (gC (.bl false)))
    gNil))))))
    (gSeq (gSet 6 (gF (gMake "Setting" 5 F_Setting___init__ (gaCons (gC (.int 3)) (gaCons (gF (gDisp [((gC (.str "up")), (gTup (gaCons (gC (.int 1)) (gaCons (gC (.int 2)) (gaCons (gC (.int 2)) gaNil))))), ((gC (.str "two")), (gTup (gaCons (gC (.int 2)) (gaCons (gC (.int 2)) (gaCons (gC (.int 2)) gaNil)))))])) (gaCons (gC .non) (gaCons (gC (.bl true)) gaNil)))))))
    (gSeq (gSet 7 (gTup (gaCons (gTup (gaCons (gC (.str "turn")) (gaCons (gC (.int 0)) (gaCons (gC (.int 4)) gaNil)))) (gaCons (gTup (gaCons (gC (.str "two")) (gaCons (gC (.int 0)) (gaCons (gC (.int 2)) gaNil)))) (gaCons (gTup (gaCons (gC (.str "up")) (gaCons (gC (.int 0)) (gaCons (gC (.int 4)) gaNil)))) (gaCons (gTup (gaCons (gC (.str "turn")) (gaCons (gC (.int 2)) (gaCons (gC (.int 2)) gaNil)))) (gaCons (gTup (gaCons (gC (.str "turn")) (gaCons (gC (.int 0)) (gaCons (gC (.int 4)) gaNil)))) gaNil)))))))
    (gRet false (gAnd (gOp eqD (gF (gCallF 3 F_idle (gaCons (gVar 6) (gaCons (gVar 7) (gaCons (gC (.int 4)) gaNil))))) (gF (gLst (gaCons (gC (.int 3)) gaNil)))) (gAnd (gOp eqD (gF (gCallF 3 F_swaps (gaCons (gVar 6) (gaCons (gVar 7) (gaCons (gC (.int 4)) gaNil))))) (gF (gLst (gaCons (gC (.int 1)) (gaCons (gC (.int 2)) (gaCons (gC (.int 3)) gaNil)))))) (gOp eqD (gF (gCallF 3 F_swaps (gaCons (gVar 6) (gaCons (gTup gaNil) (gaCons (gC (.int 0)) gaNil))))) (gF (gLst gaNil)))))))))) from
      (vss_cons (vs_for (passes_of rfl) rfl (vi_range1 (by rfl) z.range (va_cons (ve_op (opD_add rfl) (ve_int pe_int) (ve_cb (cD_min rfl) (by rfl) z.min (by decide +kernel) (va_cons (ve_int pe_int) (va_cons (ve_cb (cD_len rfl) (by rfl) z.len (by decide +kernel) (va_cons (ve_var (pv 0)) va_nil)) va_nil)))) va_nil)) (vg_name (i := 1) sc_law.nd rfl (.inl rfl))
      (vss_cons (vs_ow (ow2 := [2]) (vs_setF (i := 2) sc_law.nd rfl (.inl rfl) (vf_call c__law_purse hr rfl (passes_call (takes_of rfl rfl rfl rfl) (fun _ _ _ _ z => z)) (va_cons (ve_var (pv 0)) (va_cons (ve_var (pv 1)) va_nil)))))
      (vss_cons (vs_set (i := 3) sc_law.nd rfl (.inl rfl) (ve_callI c__law_own hr rfl (passes_call (takes_of rfl rfl rfl rfl) (fun _ _ _ _ z => z)) (va_cons (ve_own (pv 2)) (va_cons (ve_int pe_int) (va_cons (ve_int pe_int) va_nil)))))
      (vss_cons (vs_set (i := 4) sc_law.nd rfl (.inl rfl) (ve_call c__law_setting hr rfl (passes_call (takes_of rfl rfl rfl rfl) (fun _ _ _ _ z => z)) (va_cons (ve_var (pv 3)) va_nil)))
      (vss_one (vs_wk (ow2 := []) (vs_for (passes_of rfl) rfl (vi_range1 (by rfl) z.range (va_cons (ve_int pe_int) va_nil)) (vg_name (i := 5) sc_law.nd rfl (.inl rfl))
      (vss_one (vs_if (vt_not (vt_tru rfl (ve_callI c__law_right hr rfl (passes_call (takes_of rfl rfl rfl rfl) (fun _ _ _ _ z => z)) (va_cons (ve_own (pv 2)) (va_cons (ve_var (pv 3)) (va_cons (ve_var (pv 4)) va_nil)))))) (vss_one (vs_ret (ve_bl pe_bl))) vss_nil)))))))))
      (vss_cons (vs_set (i := 6) sc_law.nd rfl (.inl rfl) (ve_f (vf_makeM mk_Setting rfl hr (by rfl) (passes_call (takes_of rfl rfl rfl rfl) (fun _ _ _ _ z => z)) (va_cons (ve_int pe_int) (va_cons (ve_f (vf_disp (gs := [((gC (.str "up")), (gTup (gaCons (gC (.int 1)) (gaCons (gC (.int 2)) (gaCons (gC (.int 2)) gaNil))))), ((gC (.str "two")), (gTup (gaCons (gC (.int 2)) (gaCons (gC (.int 2)) (gaCons (gC (.int 2)) gaNil)))))]) (vps_cons (ve_str pe_str) (ve_tup (va_cons (ve_int pe_int) (va_cons (ve_int pe_int) (va_cons (ve_int pe_int) va_nil)))) (vps_cons (ve_str pe_str) (ve_tup (va_cons (ve_int pe_int) (va_cons (ve_int pe_int) (va_cons (ve_int pe_int) va_nil)))) vps_nil)))) (va_cons (ve_non pe_non) (va_cons (ve_bl pe_bl) va_nil)))))))
      (vss_cons (vs_set (i := 7) sc_law.nd rfl (.inl rfl) (ve_tup (va_cons (ve_tup (va_cons (ve_str pe_str) (va_cons (ve_int pe_int) (va_cons (ve_int pe_int) va_nil)))) (va_cons (ve_tup (va_cons (ve_str pe_str) (va_cons (ve_int pe_int) (va_cons (ve_int pe_int) va_nil)))) (va_cons (ve_tup (va_cons (ve_str pe_str) (va_cons (ve_int pe_int) (va_cons (ve_int pe_int) va_nil)))) (va_cons (ve_tup (va_cons (ve_str pe_str) (va_cons (ve_int pe_int) (va_cons (ve_int pe_int) va_nil)))) (va_cons (ve_tup (va_cons (ve_str pe_str) (va_cons (ve_int pe_int) (va_cons (ve_int pe_int) va_nil)))) va_nil)))))))
      (vss_one (vs_ret (ve_and (ve_cmp (opD_eq rfl hr.units) (ve_f (vf_call c_idle hr rfl (passes_call (takes_of rfl rfl rfl rfl) (fun _ _ _ _ z => z)) (va_cons (ve_var (pv 6)) (va_cons (ve_var (pv 7)) (va_cons (ve_int pe_int) va_nil))))) (ve_f (vf_lst (va_cons (ve_int pe_int) va_nil)))) (ve_and (ve_cmp (opD_eq rfl hr.units) (ve_f (vf_call c_swaps hr rfl (passes_call (takes_of rfl rfl rfl rfl) (fun _ _ _ _ z => z)) (va_cons (ve_var (pv 6)) (va_cons (ve_var (pv 7)) (va_cons (ve_int pe_int) va_nil))))) (ve_f (vf_lst (va_cons (ve_int pe_int) (va_cons (ve_int pe_int) (va_cons (ve_int pe_int) va_nil)))))) (ve_one (ve_cmp (opD_eq rfl hr.units) (ve_f (vf_call c_swaps hr rfl (passes_call (takes_of rfl rfl rfl rfl) (fun _ _ _ _ z => z)) (va_cons (ve_var (pv 6)) (va_cons (ve_tup va_nil) (va_cons (ve_int pe_int) va_nil))))) (ve_f (vf_lst va_nil))))))))))))
end
end K34
namespace K34
open PySem PySem.Spec PyProof.Rows L2 VL
theorem is_integer (a lo hi : Int) : F_is_integer [.int a, .int lo, .int hi] = .ok (.bl (decide (lo ≤ a) && decide (a ≤ hi))) := by
  unfold F_is_integer g_is_integer
  simp [VL.bind_ok, VL.bind_er, VL.rs_d, VL.ofO_some, VL.runD_ap, VL.runF_ap, VL.runI, VL.startR, VL.rs, VL.rsL, VL.strL, VL.pick, VL.wipeR, VL.back, VL.noE_o, VL.gVar_ap, VL.gOwn_ap, VL.gC_ap, VL.gOp_ap, VL.gB_ap, VL.gCh_ap, VL.gAndT_ap, VL.gOrT_ap, VL.gNotT_ap, VL.gAnd_ap, VL.gOr_ap, VL.gNot_ap, VL.gIf_ap, VL.gaNil_ap, VL.gaCons_ap, VL.gTup_ap, VL.gLst_ap, VL.gF_ap, VL.gCB_ap, VL.gCBF_ap, VL.gOpF_ap, VL.gTru_ap, VL.gNoPart_ap, VL.gPart_ap, VL.gSl_ap, VL.gSlF_ap, VL.gNil_ap, VL.gSeq_ap, VL.gPass_ap, VL.gBrk_ap, VL.gCont_ap, VL.gExpr_ap, VL.gRet_ap, VL.gRetF_ap, VL.gRetN_ap, VL.gIfS_ap, VL.gSet_ap, VL.gSetF_ap, VL.ggName_ap, VL.ggNil_ap, VL.ggCons_ap, VL.ggTup_ap, VL.gAsg_ap, VL.gIt_ap, VL.gRng_ap, VL.gItS_ap, VL.gFor_ap, VL.gLc_ap, VL.gCall_ap, VL.gCallF_ap, VL.gCallI_ap, VL.gCallK_ap, VL.gUn_ap, VL.gUnF_ap, VL.gDnew_ap, VL.gApp_ap, VL.gSetIx_ap, VL.gYes_ap, VL.gRaise_ap, VL.gSetF'_ap, VL.gMeth_ap, VL.gProp_ap, VL.gMake_ap, VL.gaStar_ap, VL.gPar2F_ap, VL.gSetSl_ap, VL.gDc_ap, VL.gItA_ap, VL.gDisp_ap, isDl, isB, tyN, tys, kb_int, kb_ib, leD, cmpD]
  by_cases h : lo ≤ a <;> simp [VL.bind_ok, VL.bind_er, VL.rs_d, VL.ofO_some, VL.runD_ap, VL.runF_ap, VL.runI, VL.startR, VL.rs, VL.rsL, VL.strL, VL.pick, VL.wipeR, VL.back, VL.noE_o, VL.gVar_ap, VL.gOwn_ap, VL.gC_ap, VL.gOp_ap, VL.gB_ap, VL.gCh_ap, VL.gAndT_ap, VL.gOrT_ap, VL.gNotT_ap, VL.gAnd_ap, VL.gOr_ap, VL.gNot_ap, VL.gIf_ap, VL.gaNil_ap, VL.gaCons_ap, VL.gTup_ap, VL.gLst_ap, VL.gF_ap, VL.gCB_ap, VL.gCBF_ap, VL.gOpF_ap, VL.gTru_ap, VL.gNoPart_ap, VL.gPart_ap, VL.gSl_ap, VL.gSlF_ap, VL.gNil_ap, VL.gSeq_ap, VL.gPass_ap, VL.gBrk_ap, VL.gCont_ap, VL.gExpr_ap, VL.gRet_ap, VL.gRetF_ap, VL.gRetN_ap, VL.gIfS_ap, VL.gSet_ap, VL.gSetF_ap, VL.ggName_ap, VL.ggNil_ap, VL.ggCons_ap, VL.ggTup_ap, VL.gAsg_ap, VL.gIt_ap, VL.gRng_ap, VL.gItS_ap, VL.gFor_ap, VL.gLc_ap, VL.gCall_ap, VL.gCallF_ap, VL.gCallI_ap, VL.gCallK_ap, VL.gUn_ap, VL.gUnF_ap, VL.gDnew_ap, VL.gApp_ap, VL.gSetIx_ap, VL.gYes_ap, VL.gRaise_ap, VL.gSetF'_ap, VL.gMeth_ap, VL.gProp_ap, VL.gMake_ap, VL.gaStar_ap, VL.gPar2F_ap, VL.gSetSl_ap, VL.gDc_ap, VL.gItA_ap, VL.gDisp_ap, h]
theorem is_integer_ok {a lo hi : Int} (h1 : lo ≤ a) (h2 : a ≤ hi) : F_is_integer [.int a, .int lo, .int hi] = .ok (.bl true) := by rw [is_integer, decide_eq_true h1, decide_eq_true h2]; rfl
theorem is_size_ok {a : Int} (h1 : 1 ≤ a) (h2 : a ≤ 4) : F_is_size [.int a] = .ok (.bl true) := by
  unfold F_is_size g_is_size
  simp [VL.bind_ok, VL.bind_er, VL.rs_d, VL.ofO_some, VL.runD_ap, VL.runF_ap, VL.runI, VL.startR, VL.rs, VL.rsL, VL.strL, VL.pick, VL.wipeR, VL.back, VL.noE_o, VL.gVar_ap, VL.gOwn_ap, VL.gC_ap, VL.gOp_ap, VL.gB_ap, VL.gCh_ap, VL.gAndT_ap, VL.gOrT_ap, VL.gNotT_ap, VL.gAnd_ap, VL.gOr_ap, VL.gNot_ap, VL.gIf_ap, VL.gaNil_ap, VL.gaCons_ap, VL.gTup_ap, VL.gLst_ap, VL.gF_ap, VL.gCB_ap, VL.gCBF_ap, VL.gOpF_ap, VL.gTru_ap, VL.gNoPart_ap, VL.gPart_ap, VL.gSl_ap, VL.gSlF_ap, VL.gNil_ap, VL.gSeq_ap, VL.gPass_ap, VL.gBrk_ap, VL.gCont_ap, VL.gExpr_ap, VL.gRet_ap, VL.gRetF_ap, VL.gRetN_ap, VL.gIfS_ap, VL.gSet_ap, VL.gSetF_ap, VL.ggName_ap, VL.ggNil_ap, VL.ggCons_ap, VL.ggTup_ap, VL.gAsg_ap, VL.gIt_ap, VL.gRng_ap, VL.gItS_ap, VL.gFor_ap, VL.gLc_ap, VL.gCall_ap, VL.gCallF_ap, VL.gCallI_ap, VL.gCallK_ap, VL.gUn_ap, VL.gUnF_ap, VL.gDnew_ap, VL.gApp_ap, VL.gSetIx_ap, VL.gYes_ap, VL.gRaise_ap, VL.gSetF'_ap, VL.gMeth_ap, VL.gProp_ap, VL.gMake_ap, VL.gaStar_ap, VL.gPar2F_ap, VL.gSetSl_ap, VL.gDc_ap, VL.gItA_ap, VL.gDisp_ap, is_integer_ok h1 h2]
def IsRow (n : Int) (xs : List Int) : Prop := ∀ x ∈ xs, 0 ≤ x ∧ x ≤ n - 1
theorem all_true {α : Type} (xs : List α) : allD [.lst (xs.map fun _ => .bl true)] = some (.bl true) := by
  rw [allD_mapA (fun _ => true)]
  simp
theorem is_row_ok {xs : List Int} {n : Int} (h : IsRow n xs) : F_is_row [iT xs, .int n] = .ok (.bl true) := by
  unfold F_is_row g_is_row iT
  simp [VL.bind_ok, VL.bind_er, VL.rs_d, VL.ofO_some, VL.runD_ap, VL.runF_ap, VL.runI, VL.startR, VL.rs, VL.rsL, VL.strL, VL.pick, VL.wipeR, VL.back, VL.noE_o, VL.gVar_ap, VL.gOwn_ap, VL.gC_ap, VL.gOp_ap, VL.gB_ap, VL.gCh_ap, VL.gAndT_ap, VL.gOrT_ap, VL.gNotT_ap, VL.gAnd_ap, VL.gOr_ap, VL.gNot_ap, VL.gIf_ap, VL.gaNil_ap, VL.gaCons_ap, VL.gTup_ap, VL.gLst_ap, VL.gF_ap, VL.gCB_ap, VL.gCBF_ap, VL.gOpF_ap, VL.gTru_ap, VL.gNoPart_ap, VL.gPart_ap, VL.gSl_ap, VL.gSlF_ap, VL.gNil_ap, VL.gSeq_ap, VL.gPass_ap, VL.gBrk_ap, VL.gCont_ap, VL.gExpr_ap, VL.gRet_ap, VL.gRetF_ap, VL.gRetN_ap, VL.gIfS_ap, VL.gSet_ap, VL.gSetF_ap, VL.ggName_ap, VL.ggNil_ap, VL.ggCons_ap, VL.ggTup_ap, VL.gAsg_ap, VL.gIt_ap, VL.gRng_ap, VL.gItS_ap, VL.gFor_ap, VL.gLc_ap, VL.gCall_ap, VL.gCallF_ap, VL.gCallI_ap, VL.gCallK_ap, VL.gUn_ap, VL.gUnF_ap, VL.gDnew_ap, VL.gApp_ap, VL.gSetIx_ap, VL.gYes_ap, VL.gRaise_ap, VL.gSetF'_ap, VL.gMeth_ap, VL.gProp_ap, VL.gMake_ap, VL.gaStar_ap, VL.gPar2F_ap, VL.gSetSl_ap, VL.gDc_ap, VL.gItA_ap, VL.gDisp_ap, isDl, isB, tyN, tys, kb_tt, itA, subD]
  rw [lcL_mapA fun x => .bl true]
  · simp [VL.bind_ok, VL.bind_er, VL.rs_d, VL.ofO_some, VL.runD_ap, VL.runF_ap, VL.runI, VL.startR, VL.rs, VL.rsL, VL.strL, VL.pick, VL.wipeR, VL.back, VL.noE_o, VL.gVar_ap, VL.gOwn_ap, VL.gC_ap, VL.gOp_ap, VL.gB_ap, VL.gCh_ap, VL.gAndT_ap, VL.gOrT_ap, VL.gNotT_ap, VL.gAnd_ap, VL.gOr_ap, VL.gNot_ap, VL.gIf_ap, VL.gaNil_ap, VL.gaCons_ap, VL.gTup_ap, VL.gLst_ap, VL.gF_ap, VL.gCB_ap, VL.gCBF_ap, VL.gOpF_ap, VL.gTru_ap, VL.gNoPart_ap, VL.gPart_ap, VL.gSl_ap, VL.gSlF_ap, VL.gNil_ap, VL.gSeq_ap, VL.gPass_ap, VL.gBrk_ap, VL.gCont_ap, VL.gExpr_ap, VL.gRet_ap, VL.gRetF_ap, VL.gRetN_ap, VL.gIfS_ap, VL.gSet_ap, VL.gSetF_ap, VL.ggName_ap, VL.ggNil_ap, VL.ggCons_ap, VL.ggTup_ap, VL.gAsg_ap, VL.gIt_ap, VL.gRng_ap, VL.gItS_ap, VL.gFor_ap, VL.gLc_ap, VL.gCall_ap, VL.gCallF_ap, VL.gCallI_ap, VL.gCallK_ap, VL.gUn_ap, VL.gUnF_ap, VL.gDnew_ap, VL.gApp_ap, VL.gSetIx_ap, VL.gYes_ap, VL.gRaise_ap, VL.gSetF'_ap, VL.gMeth_ap, VL.gProp_ap, VL.gMake_ap, VL.gaStar_ap, VL.gPar2F_ap, VL.gSetSl_ap, VL.gDc_ap, VL.gItA_ap, VL.gDisp_ap, all_true]
  · intro x hx
    simp [VL.bind_ok, VL.bind_er, VL.rs_d, VL.ofO_some, VL.runD_ap, VL.runF_ap, VL.runI, VL.startR, VL.rs, VL.rsL, VL.strL, VL.pick, VL.wipeR, VL.back, VL.noE_o, VL.gVar_ap, VL.gOwn_ap, VL.gC_ap, VL.gOp_ap, VL.gB_ap, VL.gCh_ap, VL.gAndT_ap, VL.gOrT_ap, VL.gNotT_ap, VL.gAnd_ap, VL.gOr_ap, VL.gNot_ap, VL.gIf_ap, VL.gaNil_ap, VL.gaCons_ap, VL.gTup_ap, VL.gLst_ap, VL.gF_ap, VL.gCB_ap, VL.gCBF_ap, VL.gOpF_ap, VL.gTru_ap, VL.gNoPart_ap, VL.gPart_ap, VL.gSl_ap, VL.gSlF_ap, VL.gNil_ap, VL.gSeq_ap, VL.gPass_ap, VL.gBrk_ap, VL.gCont_ap, VL.gExpr_ap, VL.gRet_ap, VL.gRetF_ap, VL.gRetN_ap, VL.gIfS_ap, VL.gSet_ap, VL.gSetF_ap, VL.ggName_ap, VL.ggNil_ap, VL.ggCons_ap, VL.ggTup_ap, VL.gAsg_ap, VL.gIt_ap, VL.gRng_ap, VL.gItS_ap, VL.gFor_ap, VL.gLc_ap, VL.gCall_ap, VL.gCallF_ap, VL.gCallI_ap, VL.gCallK_ap, VL.gUn_ap, VL.gUnF_ap, VL.gDnew_ap, VL.gApp_ap, VL.gSetIx_ap, VL.gYes_ap, VL.gRaise_ap, VL.gSetF'_ap, VL.gMeth_ap, VL.gProp_ap, VL.gMake_ap, VL.gaStar_ap, VL.gPar2F_ap, VL.gSetSl_ap, VL.gDc_ap, VL.gItA_ap, VL.gDisp_ap, is_integer_ok (h x hx).1 (h x hx).2, subD]
theorem is_line_ok {xs : List Int} {m n : Int} (h : IsRow n xs) (hl : (xs.length : Int) = m) : F_is_line [iT xs, .int m, .int n] = .ok (.bl true) := by
  unfold F_is_line g_is_line
  simp [VL.bind_ok, VL.bind_er, VL.rs_d, VL.ofO_some, VL.runD_ap, VL.runF_ap, VL.runI, VL.startR, VL.rs, VL.rsL, VL.strL, VL.pick, VL.wipeR, VL.back, VL.noE_o, VL.gVar_ap, VL.gOwn_ap, VL.gC_ap, VL.gOp_ap, VL.gB_ap, VL.gCh_ap, VL.gAndT_ap, VL.gOrT_ap, VL.gNotT_ap, VL.gAnd_ap, VL.gOr_ap, VL.gNot_ap, VL.gIf_ap, VL.gaNil_ap, VL.gaCons_ap, VL.gTup_ap, VL.gLst_ap, VL.gF_ap, VL.gCB_ap, VL.gCBF_ap, VL.gOpF_ap, VL.gTru_ap, VL.gNoPart_ap, VL.gPart_ap, VL.gSl_ap, VL.gSlF_ap, VL.gNil_ap, VL.gSeq_ap, VL.gPass_ap, VL.gBrk_ap, VL.gCont_ap, VL.gExpr_ap, VL.gRet_ap, VL.gRetF_ap, VL.gRetN_ap, VL.gIfS_ap, VL.gSet_ap, VL.gSetF_ap, VL.ggName_ap, VL.ggNil_ap, VL.ggCons_ap, VL.ggTup_ap, VL.gAsg_ap, VL.gIt_ap, VL.gRng_ap, VL.gItS_ap, VL.gFor_ap, VL.gLc_ap, VL.gCall_ap, VL.gCallF_ap, VL.gCallI_ap, VL.gCallK_ap, VL.gUn_ap, VL.gUnF_ap, VL.gDnew_ap, VL.gApp_ap, VL.gSetIx_ap, VL.gYes_ap, VL.gRaise_ap, VL.gSetF'_ap, VL.gMeth_ap, VL.gProp_ap, VL.gMake_ap, VL.gaStar_ap, VL.gPar2F_ap, VL.gSetSl_ap, VL.gDc_ap, VL.gItA_ap, VL.gDisp_ap, is_row_ok h]
  simp [VL.bind_ok, VL.bind_er, VL.rs_d, VL.ofO_some, VL.runD_ap, VL.runF_ap, VL.runI, VL.startR, VL.rs, VL.rsL, VL.strL, VL.pick, VL.wipeR, VL.back, VL.noE_o, VL.gVar_ap, VL.gOwn_ap, VL.gC_ap, VL.gOp_ap, VL.gB_ap, VL.gCh_ap, VL.gAndT_ap, VL.gOrT_ap, VL.gNotT_ap, VL.gAnd_ap, VL.gOr_ap, VL.gNot_ap, VL.gIf_ap, VL.gaNil_ap, VL.gaCons_ap, VL.gTup_ap, VL.gLst_ap, VL.gF_ap, VL.gCB_ap, VL.gCBF_ap, VL.gOpF_ap, VL.gTru_ap, VL.gNoPart_ap, VL.gPart_ap, VL.gSl_ap, VL.gSlF_ap, VL.gNil_ap, VL.gSeq_ap, VL.gPass_ap, VL.gBrk_ap, VL.gCont_ap, VL.gExpr_ap, VL.gRet_ap, VL.gRetF_ap, VL.gRetN_ap, VL.gIfS_ap, VL.gSet_ap, VL.gSetF_ap, VL.ggName_ap, VL.ggNil_ap, VL.ggCons_ap, VL.ggTup_ap, VL.gAsg_ap, VL.gIt_ap, VL.gRng_ap, VL.gItS_ap, VL.gFor_ap, VL.gLc_ap, VL.gCall_ap, VL.gCallF_ap, VL.gCallI_ap, VL.gCallK_ap, VL.gUn_ap, VL.gUnF_ap, VL.gDnew_ap, VL.gApp_ap, VL.gSetIx_ap, VL.gYes_ap, VL.gRaise_ap, VL.gSetF'_ap, VL.gMeth_ap, VL.gProp_ap, VL.gMake_ap, VL.gaStar_ap, VL.gPar2F_ap, VL.gSetSl_ap, VL.gDc_ap, VL.gItA_ap, VL.gDisp_ap, iT, lenD, eqD_int, hl]
theorem is_map_ok {n : Int} {xs : List Int} (h : IsRow n xs) (hl : (xs.length : Int) = n) : F_is_map [iT xs, .int n] = .ok (.bl true) := by
  unfold F_is_map g_is_map
  simp [VL.bind_ok, VL.bind_er, VL.rs_d, VL.ofO_some, VL.runD_ap, VL.runF_ap, VL.runI, VL.startR, VL.rs, VL.rsL, VL.strL, VL.pick, VL.wipeR, VL.back, VL.noE_o, VL.gVar_ap, VL.gOwn_ap, VL.gC_ap, VL.gOp_ap, VL.gB_ap, VL.gCh_ap, VL.gAndT_ap, VL.gOrT_ap, VL.gNotT_ap, VL.gAnd_ap, VL.gOr_ap, VL.gNot_ap, VL.gIf_ap, VL.gaNil_ap, VL.gaCons_ap, VL.gTup_ap, VL.gLst_ap, VL.gF_ap, VL.gCB_ap, VL.gCBF_ap, VL.gOpF_ap, VL.gTru_ap, VL.gNoPart_ap, VL.gPart_ap, VL.gSl_ap, VL.gSlF_ap, VL.gNil_ap, VL.gSeq_ap, VL.gPass_ap, VL.gBrk_ap, VL.gCont_ap, VL.gExpr_ap, VL.gRet_ap, VL.gRetF_ap, VL.gRetN_ap, VL.gIfS_ap, VL.gSet_ap, VL.gSetF_ap, VL.ggName_ap, VL.ggNil_ap, VL.ggCons_ap, VL.ggTup_ap, VL.gAsg_ap, VL.gIt_ap, VL.gRng_ap, VL.gItS_ap, VL.gFor_ap, VL.gLc_ap, VL.gCall_ap, VL.gCallF_ap, VL.gCallI_ap, VL.gCallK_ap, VL.gUn_ap, VL.gUnF_ap, VL.gDnew_ap, VL.gApp_ap, VL.gSetIx_ap, VL.gYes_ap, VL.gRaise_ap, VL.gSetF'_ap, VL.gMeth_ap, VL.gProp_ap, VL.gMake_ap, VL.gaStar_ap, VL.gPar2F_ap, VL.gSetSl_ap, VL.gDc_ap, VL.gItA_ap, VL.gDisp_ap, is_line_ok h hl]
structure Nm (x : Str) : Prop where
  ok : PyData.strOk x = true
  ne : (x == ("turn" : Str)) = false
  lo : 1 ≤ x.length
  hi : x.length ≤ 8
  le : ∀ c ∈ x.cps.toList, sLt ⟨#[c]⟩ "a" = false ∧ sLt "z" ⟨#[c]⟩ = false
theorem is_name_ok {x : Str} (h : Nm x) : F_is_name [.str x] = .ok (.bl true) := by
  have h1 := h.lo
  have h2 := h.hi
  have hz : x.length ≤ sizeLine := Nat.le_trans h2 (by decide)
  have h3 : (1 : Int) ≤ x.length := by omega
  have h4 : (x.length : Int) ≤ 8 := by omega
  unfold F_is_name g_is_name
  simp [VL.bind_ok, VL.bind_er, VL.rs_d, VL.ofO_some, VL.runD_ap, VL.runF_ap, VL.runI, VL.startR, VL.rs, VL.rsL, VL.strL, VL.pick, VL.wipeR, VL.back, VL.noE_o, VL.gVar_ap, VL.gOwn_ap, VL.gC_ap, VL.gOp_ap, VL.gB_ap, VL.gCh_ap, VL.gAndT_ap, VL.gOrT_ap, VL.gNotT_ap, VL.gAnd_ap, VL.gOr_ap, VL.gNot_ap, VL.gIf_ap, VL.gaNil_ap, VL.gaCons_ap, VL.gTup_ap, VL.gLst_ap, VL.gF_ap, VL.gCB_ap, VL.gCBF_ap, VL.gOpF_ap, VL.gTru_ap, VL.gNoPart_ap, VL.gPart_ap, VL.gSl_ap, VL.gSlF_ap, VL.gNil_ap, VL.gSeq_ap, VL.gPass_ap, VL.gBrk_ap, VL.gCont_ap, VL.gExpr_ap, VL.gRet_ap, VL.gRetF_ap, VL.gRetN_ap, VL.gIfS_ap, VL.gSet_ap, VL.gSetF_ap, VL.ggName_ap, VL.ggNil_ap, VL.ggCons_ap, VL.ggTup_ap, VL.gAsg_ap, VL.gIt_ap, VL.gRng_ap, VL.gItS_ap, VL.gFor_ap, VL.gLc_ap, VL.gCall_ap, VL.gCallF_ap, VL.gCallI_ap, VL.gCallK_ap, VL.gUn_ap, VL.gUnF_ap, VL.gDnew_ap, VL.gApp_ap, VL.gSetIx_ap, VL.gYes_ap, VL.gRaise_ap, VL.gSetF'_ap, VL.gMeth_ap, VL.gProp_ap, VL.gMake_ap, VL.gaStar_ap, VL.gPar2F_ap, VL.gSetSl_ap, VL.gDc_ap, VL.gItA_ap, VL.gDisp_ap, isDl, isB, tyN, tys, kb_ss, truD, eqD_str h.ok (show PyData.strOk "turn" = true by decide +kernel), h.ne, leD, cmpD, lenD, itA, hz, h3, h4]
  rw [lcL_mapA fun x => .bl true]
  · simp [VL.bind_ok, VL.bind_er, VL.rs_d, VL.ofO_some, VL.runD_ap, VL.runF_ap, VL.runI, VL.startR, VL.rs, VL.rsL, VL.strL, VL.pick, VL.wipeR, VL.back, VL.noE_o, VL.gVar_ap, VL.gOwn_ap, VL.gC_ap, VL.gOp_ap, VL.gB_ap, VL.gCh_ap, VL.gAndT_ap, VL.gOrT_ap, VL.gNotT_ap, VL.gAnd_ap, VL.gOr_ap, VL.gNot_ap, VL.gIf_ap, VL.gaNil_ap, VL.gaCons_ap, VL.gTup_ap, VL.gLst_ap, VL.gF_ap, VL.gCB_ap, VL.gCBF_ap, VL.gOpF_ap, VL.gTru_ap, VL.gNoPart_ap, VL.gPart_ap, VL.gSl_ap, VL.gSlF_ap, VL.gNil_ap, VL.gSeq_ap, VL.gPass_ap, VL.gBrk_ap, VL.gCont_ap, VL.gExpr_ap, VL.gRet_ap, VL.gRetF_ap, VL.gRetN_ap, VL.gIfS_ap, VL.gSet_ap, VL.gSetF_ap, VL.ggName_ap, VL.ggNil_ap, VL.ggCons_ap, VL.ggTup_ap, VL.gAsg_ap, VL.gIt_ap, VL.gRng_ap, VL.gItS_ap, VL.gFor_ap, VL.gLc_ap, VL.gCall_ap, VL.gCallF_ap, VL.gCallI_ap, VL.gCallK_ap, VL.gUn_ap, VL.gUnF_ap, VL.gDnew_ap, VL.gApp_ap, VL.gSetIx_ap, VL.gYes_ap, VL.gRaise_ap, VL.gSetF'_ap, VL.gMeth_ap, VL.gProp_ap, VL.gMake_ap, VL.gaStar_ap, VL.gPar2F_ap, VL.gSetSl_ap, VL.gDc_ap, VL.gItA_ap, VL.gDisp_ap, all_true]
  · intro c hc
    simp [VL.bind_ok, VL.bind_er, VL.rs_d, VL.ofO_some, VL.runD_ap, VL.runF_ap, VL.runI, VL.startR, VL.rs, VL.rsL, VL.strL, VL.pick, VL.wipeR, VL.back, VL.noE_o, VL.gVar_ap, VL.gOwn_ap, VL.gC_ap, VL.gOp_ap, VL.gB_ap, VL.gCh_ap, VL.gAndT_ap, VL.gOrT_ap, VL.gNotT_ap, VL.gAnd_ap, VL.gOr_ap, VL.gNot_ap, VL.gIf_ap, VL.gaNil_ap, VL.gaCons_ap, VL.gTup_ap, VL.gLst_ap, VL.gF_ap, VL.gCB_ap, VL.gCBF_ap, VL.gOpF_ap, VL.gTru_ap, VL.gNoPart_ap, VL.gPart_ap, VL.gSl_ap, VL.gSlF_ap, VL.gNil_ap, VL.gSeq_ap, VL.gPass_ap, VL.gBrk_ap, VL.gCont_ap, VL.gExpr_ap, VL.gRet_ap, VL.gRetF_ap, VL.gRetN_ap, VL.gIfS_ap, VL.gSet_ap, VL.gSetF_ap, VL.ggName_ap, VL.ggNil_ap, VL.ggCons_ap, VL.ggTup_ap, VL.gAsg_ap, VL.gIt_ap, VL.gRng_ap, VL.gItS_ap, VL.gFor_ap, VL.gLc_ap, VL.gCall_ap, VL.gCallF_ap, VL.gCallI_ap, VL.gCallK_ap, VL.gUn_ap, VL.gUnF_ap, VL.gDnew_ap, VL.gApp_ap, VL.gSetIx_ap, VL.gYes_ap, VL.gRaise_ap, VL.gSetF'_ap, VL.gMeth_ap, VL.gProp_ap, VL.gMake_ap, VL.gaStar_ap, VL.gPar2F_ap, VL.gSetSl_ap, VL.gDc_ap, VL.gItA_ap, VL.gDisp_ap, leD, cmpD, (h.le c hc).1, (h.le c hc).2]
structure Dk {α : Type} (g : α → D) (kvs kvs' : List (Str × α)) : Prop where
  nm : ∀ p ∈ kvs', Nm p.1
  nd : (kvs.map (·.1)).Nodup
  pm : kvs'.Perm kvs
  so : (kvs'.map (·.1)).Pairwise leS
  ln : kvs.length < 64
theorem Dk.nd' {α : Type} {g : α → D} {kvs kvs' : List (Str × α)} (h : Dk g kvs kvs') : (kvs'.map (·.1)).Nodup := (h.pm.map (·.1)).nodup_iff.mpr h.nd
theorem Dk.ix {α : Type} {g : α → D} {kvs kvs' : List (Str × α)} (h : Dk g kvs kvs') {p : Str × α} (hp : p ∈ kvs') : ixD (dS g kvs) (.str p.1) = some (g p.2) := ixD_in h.nd (h.pm.mem_iff.mp hp)
theorem Dk.lst {α : Type} {g : α → D} {kvs kvs' : List (Str × α)} (h : Dk g kvs kvs') : sortF [dS g kvs] = some (.lst (kvs'.map fun p => .str p.1)) := sortF_dS h.ln h.pm h.so
theorem isDl_d {α : Type} (g : α → D) (kvs : List (Str × α)) : isDl ["Setting"] [dS g kvs, .ty "dict"] = some (.bl true) := by simp [isDl, dS, isB, tyN, tys, kb_dd]
theorem truD_b (b : Bool) : truD (.bl b) = some b := rfl
theorem isND_d {α : Type} (g : α → D) (kvs : List (Str × α)) : isND (dS g kvs) .non = some (.bl false) := rfl
theorem itA_l (ds : List D) : itA (.lst ds) = some ds := rfl
theorem itA_t (ds : List D) : itA (.tup ds) = some ds := rfl
theorem checked_maps_ok {n : Int} {kvs kvs' : List (Str × List Int)} (h : Dk iT kvs kvs') (hm : ∀ p ∈ kvs', IsRow n p.2 ∧ (p.2.length : Int) = n) : F_checked_maps [dS iT kvs, .int n] = .ok (dS iT kvs') := by
  unfold F_checked_maps g_checked_maps
  simp [VL.bind_ok, VL.bind_er, VL.rs_d, VL.ofO_some, VL.runD_ap, VL.runF_ap, VL.runI, VL.startR, VL.rs, VL.rsL, VL.strL, VL.pick, VL.wipeR, VL.back, VL.noE_o, VL.gVar_ap, VL.gOwn_ap, VL.gC_ap, VL.gOp_ap, VL.gB_ap, VL.gCh_ap, VL.gAndT_ap, VL.gOrT_ap, VL.gNotT_ap, VL.gAnd_ap, VL.gOr_ap, VL.gNot_ap, VL.gIf_ap, VL.gaNil_ap, VL.gaCons_ap, VL.gTup_ap, VL.gLst_ap, VL.gF_ap, VL.gCB_ap, VL.gCBF_ap, VL.gOpF_ap, VL.gTru_ap, VL.gNoPart_ap, VL.gPart_ap, VL.gSl_ap, VL.gSlF_ap, VL.gNil_ap, VL.gSeq_ap, VL.gPass_ap, VL.gBrk_ap, VL.gCont_ap, VL.gExpr_ap, VL.gRet_ap, VL.gRetF_ap, VL.gRetN_ap, VL.gIfS_ap, VL.gSet_ap, VL.gSetF_ap, VL.ggName_ap, VL.ggNil_ap, VL.ggCons_ap, VL.ggTup_ap, VL.gAsg_ap, VL.gIt_ap, VL.gRng_ap, VL.gItS_ap, VL.gFor_ap, VL.gLc_ap, VL.gCall_ap, VL.gCallF_ap, VL.gCallI_ap, VL.gCallK_ap, VL.gUn_ap, VL.gUnF_ap, VL.gDnew_ap, VL.gApp_ap, VL.gSetIx_ap, VL.gYes_ap, VL.gRaise_ap, VL.gSetF'_ap, VL.gMeth_ap, VL.gProp_ap, VL.gMake_ap, VL.gaStar_ap, VL.gPar2F_ap, VL.gSetSl_ap, VL.gDc_ap, VL.gItA_ap, VL.gDisp_ap, isND_d, isDl_d, truD_b, h.lst, itA_l]
  obtain ⟨ρ', e, x, rfl⟩ := forL_fold (c := fun p : Str × List Int => D.str p.1) (fun _ _ => ()) (fun _ ρ => ∃ x, ρ = [some (dS iT kvs), some (.int n), x]) (xs := kvs') (a := ()) (ρ := [some (dS iT kvs), some (.int n), none]) ⟨none, rfl⟩ (gg := ggName 2) (s := gIfS (gOrT (gNotT (gTru (gCall 1 F_is_name (gaCons (gVar 2) gaNil)))) (gNotT (gTru (gCall 2 F_is_map (gaCons (gOp ixD (gVar 0) (gVar 2)) (gaCons (gVar 1) gaNil))))))
    (gRaise "InvalidMaps" "name" (gVar 2))
    gNil) (by
      rintro p hp _ _ ⟨x, rfl⟩
      refine ⟨[some (dS iT kvs), some (.int n), some (.str p.1)], ?_, _, rfl⟩
      simp [VL.bind_ok, VL.bind_er, VL.rs_d, VL.ofO_some, VL.runD_ap, VL.runF_ap, VL.runI, VL.startR, VL.rs, VL.rsL, VL.strL, VL.pick, VL.wipeR, VL.back, VL.noE_o, VL.gVar_ap, VL.gOwn_ap, VL.gC_ap, VL.gOp_ap, VL.gB_ap, VL.gCh_ap, VL.gAndT_ap, VL.gOrT_ap, VL.gNotT_ap, VL.gAnd_ap, VL.gOr_ap, VL.gNot_ap, VL.gIf_ap, VL.gaNil_ap, VL.gaCons_ap, VL.gTup_ap, VL.gLst_ap, VL.gF_ap, VL.gCB_ap, VL.gCBF_ap, VL.gOpF_ap, VL.gTru_ap, VL.gNoPart_ap, VL.gPart_ap, VL.gSl_ap, VL.gSlF_ap, VL.gNil_ap, VL.gSeq_ap, VL.gPass_ap, VL.gBrk_ap, VL.gCont_ap, VL.gExpr_ap, VL.gRet_ap, VL.gRetF_ap, VL.gRetN_ap, VL.gIfS_ap, VL.gSet_ap, VL.gSetF_ap, VL.ggName_ap, VL.ggNil_ap, VL.ggCons_ap, VL.ggTup_ap, VL.gAsg_ap, VL.gIt_ap, VL.gRng_ap, VL.gItS_ap, VL.gFor_ap, VL.gLc_ap, VL.gCall_ap, VL.gCallF_ap, VL.gCallI_ap, VL.gCallK_ap, VL.gUn_ap, VL.gUnF_ap, VL.gDnew_ap, VL.gApp_ap, VL.gSetIx_ap, VL.gYes_ap, VL.gRaise_ap, VL.gSetF'_ap, VL.gMeth_ap, VL.gProp_ap, VL.gMake_ap, VL.gaStar_ap, VL.gPar2F_ap, VL.gSetSl_ap, VL.gDc_ap, VL.gItA_ap, VL.gDisp_ap, is_name_ok (h.nm p hp), truD_b, h.ix hp, is_map_ok (hm p hp).1 (hm p hp).2])
  rw [e]
  simp [VL.bind_ok, VL.bind_er, VL.rs_d, VL.ofO_some, VL.runD_ap, VL.runF_ap, VL.runI, VL.startR, VL.rs, VL.rsL, VL.strL, VL.pick, VL.wipeR, VL.back, VL.noE_o, VL.gVar_ap, VL.gOwn_ap, VL.gC_ap, VL.gOp_ap, VL.gB_ap, VL.gCh_ap, VL.gAndT_ap, VL.gOrT_ap, VL.gNotT_ap, VL.gAnd_ap, VL.gOr_ap, VL.gNot_ap, VL.gIf_ap, VL.gaNil_ap, VL.gaCons_ap, VL.gTup_ap, VL.gLst_ap, VL.gF_ap, VL.gCB_ap, VL.gCBF_ap, VL.gOpF_ap, VL.gTru_ap, VL.gNoPart_ap, VL.gPart_ap, VL.gSl_ap, VL.gSlF_ap, VL.gNil_ap, VL.gSeq_ap, VL.gPass_ap, VL.gBrk_ap, VL.gCont_ap, VL.gExpr_ap, VL.gRet_ap, VL.gRetF_ap, VL.gRetN_ap, VL.gIfS_ap, VL.gSet_ap, VL.gSetF_ap, VL.ggName_ap, VL.ggNil_ap, VL.ggCons_ap, VL.ggTup_ap, VL.gAsg_ap, VL.gIt_ap, VL.gRng_ap, VL.gItS_ap, VL.gFor_ap, VL.gLc_ap, VL.gCall_ap, VL.gCallF_ap, VL.gCallI_ap, VL.gCallK_ap, VL.gUn_ap, VL.gUnF_ap, VL.gDnew_ap, VL.gApp_ap, VL.gSetIx_ap, VL.gYes_ap, VL.gRaise_ap, VL.gSetF'_ap, VL.gMeth_ap, VL.gProp_ap, VL.gMake_ap, VL.gaStar_ap, VL.gPar2F_ap, VL.gSetSl_ap, VL.gDc_ap, VL.gItA_ap, VL.gDisp_ap, h.lst, itA_l]
  rw [dcL_new (fun p : Str × List Int => .inr p.1) (fun p => iT p.2)]
  · simp [VL.bind_ok, VL.bind_er, VL.rs_d, VL.ofO_some, VL.runD_ap, VL.runF_ap, VL.runI, VL.startR, VL.rs, VL.rsL, VL.strL, VL.pick, VL.wipeR, VL.back, VL.noE_o, VL.gVar_ap, VL.gOwn_ap, VL.gC_ap, VL.gOp_ap, VL.gB_ap, VL.gCh_ap, VL.gAndT_ap, VL.gOrT_ap, VL.gNotT_ap, VL.gAnd_ap, VL.gOr_ap, VL.gNot_ap, VL.gIf_ap, VL.gaNil_ap, VL.gaCons_ap, VL.gTup_ap, VL.gLst_ap, VL.gF_ap, VL.gCB_ap, VL.gCBF_ap, VL.gOpF_ap, VL.gTru_ap, VL.gNoPart_ap, VL.gPart_ap, VL.gSl_ap, VL.gSlF_ap, VL.gNil_ap, VL.gSeq_ap, VL.gPass_ap, VL.gBrk_ap, VL.gCont_ap, VL.gExpr_ap, VL.gRet_ap, VL.gRetF_ap, VL.gRetN_ap, VL.gIfS_ap, VL.gSet_ap, VL.gSetF_ap, VL.ggName_ap, VL.ggNil_ap, VL.ggCons_ap, VL.ggTup_ap, VL.gAsg_ap, VL.gIt_ap, VL.gRng_ap, VL.gItS_ap, VL.gFor_ap, VL.gLc_ap, VL.gCall_ap, VL.gCallF_ap, VL.gCallI_ap, VL.gCallK_ap, VL.gUn_ap, VL.gUnF_ap, VL.gDnew_ap, VL.gApp_ap, VL.gSetIx_ap, VL.gYes_ap, VL.gRaise_ap, VL.gSetF'_ap, VL.gMeth_ap, VL.gProp_ap, VL.gMake_ap, VL.gaStar_ap, VL.gPar2F_ap, VL.gSetSl_ap, VL.gDc_ap, VL.gItA_ap, VL.gDisp_ap]
    rfl
  · intro p hp
    simp [VL.bind_ok, VL.bind_er, VL.rs_d, VL.ofO_some, VL.runD_ap, VL.runF_ap, VL.runI, VL.startR, VL.rs, VL.rsL, VL.strL, VL.pick, VL.wipeR, VL.back, VL.noE_o, VL.gVar_ap, VL.gOwn_ap, VL.gC_ap, VL.gOp_ap, VL.gB_ap, VL.gCh_ap, VL.gAndT_ap, VL.gOrT_ap, VL.gNotT_ap, VL.gAnd_ap, VL.gOr_ap, VL.gNot_ap, VL.gIf_ap, VL.gaNil_ap, VL.gaCons_ap, VL.gTup_ap, VL.gLst_ap, VL.gF_ap, VL.gCB_ap, VL.gCBF_ap, VL.gOpF_ap, VL.gTru_ap, VL.gNoPart_ap, VL.gPart_ap, VL.gSl_ap, VL.gSlF_ap, VL.gNil_ap, VL.gSeq_ap, VL.gPass_ap, VL.gBrk_ap, VL.gCont_ap, VL.gExpr_ap, VL.gRet_ap, VL.gRetF_ap, VL.gRetN_ap, VL.gIfS_ap, VL.gSet_ap, VL.gSetF_ap, VL.ggName_ap, VL.ggNil_ap, VL.ggCons_ap, VL.ggTup_ap, VL.gAsg_ap, VL.gIt_ap, VL.gRng_ap, VL.gItS_ap, VL.gFor_ap, VL.gLc_ap, VL.gCall_ap, VL.gCallF_ap, VL.gCallI_ap, VL.gCallK_ap, VL.gUn_ap, VL.gUnF_ap, VL.gDnew_ap, VL.gApp_ap, VL.gSetIx_ap, VL.gYes_ap, VL.gRaise_ap, VL.gSetF'_ap, VL.gMeth_ap, VL.gProp_ap, VL.gMake_ap, VL.gaStar_ap, VL.gPar2F_ap, VL.gSetSl_ap, VL.gDc_ap, VL.gItA_ap, VL.gDisp_ap, h.ix hp]
    rfl
  · exact List.pairwise_map.mpr ((List.pairwise_map.mp h.nd').imp fun hne e => hne (by injection e))
  · intro _ _ _ hk
    exact nomatch hk
  · have := h.ln
    rw [h.pm.length_eq]
    show 0 + kvs.length < big
    unfold big
    omega
end K34
namespace K34
open PySem PySem.Spec PyProof.Rows L2 VL
structure Mach where
  start : Int
  steps : List (List Int)
  ans : List Int
def mT (m : Mach) : D := .tup [.int m.start, .tup (m.steps.map iT), iT m.ans]
structure OkM (n : Int) (m : Mach) : Prop where
  s0 : 0 ≤ m.start
  s1 : m.start ≤ (m.steps.length : Int) - 1
  ne : m.steps ≠ []
  ro : ∀ l ∈ m.steps, IsRow m.steps.length l ∧ (l.length : Int) = n
  la : m.ans.length = m.steps.length
  an : ∀ a ∈ m.ans, 0 ≤ a ∧ a ≤ 99
theorem lenD_t (ds : List D) : lenD [.tup ds] = some (.int ds.length) := rfl
theorem lenD_l (ds : List D) : lenD [.lst ds] = some (.int ds.length) := rfl
theorem isDl_t (ds : List D) : isDl ["Setting"] [.tup ds, .ty "tuple"] = some (.bl true) := by simp [isDl, isB, tyN, tys, kb_tt]
theorem isDl_b (b : Bool) : isDl ["Setting"] [.bl b, .ty "bool"] = some (.bl true) := by simp [isDl, isB, tyN, tys, kb_bb]
theorem has_machine_form_ok {n : Int} {m : Mach} (h : OkM n m) : F_has_machine_form [mT m] = .ok (.bl true) := by
  have h1 : m.steps ≠ [] := h.ne
  have h2 : 0 < m.steps.length := List.length_pos_iff.mpr h1
  have h3 : 0 < m.ans.length := h.la ▸ h2
  unfold F_has_machine_form g_has_machine_form mT
  simp [VL.bind_ok, VL.bind_er, VL.rs_d, VL.ofO_some, VL.runD_ap, VL.runF_ap, VL.runI, VL.startR, VL.rs, VL.rsL, VL.strL, VL.pick, VL.wipeR, VL.back, VL.noE_o, VL.gVar_ap, VL.gOwn_ap, VL.gC_ap, VL.gOp_ap, VL.gB_ap, VL.gCh_ap, VL.gAndT_ap, VL.gOrT_ap, VL.gNotT_ap, VL.gAnd_ap, VL.gOr_ap, VL.gNot_ap, VL.gIf_ap, VL.gaNil_ap, VL.gaCons_ap, VL.gTup_ap, VL.gLst_ap, VL.gF_ap, VL.gCB_ap, VL.gCBF_ap, VL.gOpF_ap, VL.gTru_ap, VL.gNoPart_ap, VL.gPart_ap, VL.gSl_ap, VL.gSlF_ap, VL.gNil_ap, VL.gSeq_ap, VL.gPass_ap, VL.gBrk_ap, VL.gCont_ap, VL.gExpr_ap, VL.gRet_ap, VL.gRetF_ap, VL.gRetN_ap, VL.gIfS_ap, VL.gSet_ap, VL.gSetF_ap, VL.ggName_ap, VL.ggNil_ap, VL.ggCons_ap, VL.ggTup_ap, VL.gAsg_ap, VL.gIt_ap, VL.gRng_ap, VL.gItS_ap, VL.gFor_ap, VL.gLc_ap, VL.gCall_ap, VL.gCallF_ap, VL.gCallI_ap, VL.gCallK_ap, VL.gUn_ap, VL.gUnF_ap, VL.gDnew_ap, VL.gApp_ap, VL.gSetIx_ap, VL.gYes_ap, VL.gRaise_ap, VL.gSetF'_ap, VL.gMeth_ap, VL.gProp_ap, VL.gMake_ap, VL.gaStar_ap, VL.gPar2F_ap, VL.gSetSl_ap, VL.gDc_ap, VL.gItA_ap, VL.gDisp_ap, isDl_t, lenD_t, neD_int, truD_b, itA_l, slD, VL.cutD, HT.sIx]
  simp [VL.bind_ok, VL.bind_er, VL.rs_d, VL.ofO_some, VL.runD_ap, VL.runF_ap, VL.runI, VL.startR, VL.rs, VL.rsL, VL.strL, VL.pick, VL.wipeR, VL.back, VL.noE_o, VL.gVar_ap, VL.gOwn_ap, VL.gC_ap, VL.gOp_ap, VL.gB_ap, VL.gCh_ap, VL.gAndT_ap, VL.gOrT_ap, VL.gNotT_ap, VL.gAnd_ap, VL.gOr_ap, VL.gNot_ap, VL.gIf_ap, VL.gaNil_ap, VL.gaCons_ap, VL.gTup_ap, VL.gLst_ap, VL.gF_ap, VL.gCB_ap, VL.gCBF_ap, VL.gOpF_ap, VL.gTru_ap, VL.gNoPart_ap, VL.gPart_ap, VL.gSl_ap, VL.gSlF_ap, VL.gNil_ap, VL.gSeq_ap, VL.gPass_ap, VL.gBrk_ap, VL.gCont_ap, VL.gExpr_ap, VL.gRet_ap, VL.gRetF_ap, VL.gRetN_ap, VL.gIfS_ap, VL.gSet_ap, VL.gSetF_ap, VL.ggName_ap, VL.ggNil_ap, VL.ggCons_ap, VL.ggTup_ap, VL.gAsg_ap, VL.gIt_ap, VL.gRng_ap, VL.gItS_ap, VL.gFor_ap, VL.gLc_ap, VL.gCall_ap, VL.gCallF_ap, VL.gCallI_ap, VL.gCallK_ap, VL.gUn_ap, VL.gUnF_ap, VL.gDnew_ap, VL.gApp_ap, VL.gSetIx_ap, VL.gYes_ap, VL.gRaise_ap, VL.gSetF'_ap, VL.gMeth_ap, VL.gProp_ap, VL.gMake_ap, VL.gaStar_ap, VL.gPar2F_ap, VL.gSetSl_ap, VL.gDc_ap, VL.gItA_ap, VL.gDisp_ap, lcL, itA, isDl_t, lenD_t, gtD, cmpD, iT, allD, boolsD]
  have h4 : (0 : Int) < m.steps.length := by omega
  have h5 : (0 : Int) < m.ans.length := by omega
  simp [VL.bind_ok, VL.bind_er, VL.rs_d, VL.ofO_some, VL.runD_ap, VL.runF_ap, VL.runI, VL.startR, VL.rs, VL.rsL, VL.strL, VL.pick, VL.wipeR, VL.back, VL.noE_o, VL.gVar_ap, VL.gOwn_ap, VL.gC_ap, VL.gOp_ap, VL.gB_ap, VL.gCh_ap, VL.gAndT_ap, VL.gOrT_ap, VL.gNotT_ap, VL.gAnd_ap, VL.gOr_ap, VL.gNot_ap, VL.gIf_ap, VL.gaNil_ap, VL.gaCons_ap, VL.gTup_ap, VL.gLst_ap, VL.gF_ap, VL.gCB_ap, VL.gCBF_ap, VL.gOpF_ap, VL.gTru_ap, VL.gNoPart_ap, VL.gPart_ap, VL.gSl_ap, VL.gSlF_ap, VL.gNil_ap, VL.gSeq_ap, VL.gPass_ap, VL.gBrk_ap, VL.gCont_ap, VL.gExpr_ap, VL.gRet_ap, VL.gRetF_ap, VL.gRetN_ap, VL.gIfS_ap, VL.gSet_ap, VL.gSetF_ap, VL.ggName_ap, VL.ggNil_ap, VL.ggCons_ap, VL.ggTup_ap, VL.gAsg_ap, VL.gIt_ap, VL.gRng_ap, VL.gItS_ap, VL.gFor_ap, VL.gLc_ap, VL.gCall_ap, VL.gCallF_ap, VL.gCallI_ap, VL.gCallK_ap, VL.gUn_ap, VL.gUnF_ap, VL.gDnew_ap, VL.gApp_ap, VL.gSetIx_ap, VL.gYes_ap, VL.gRaise_ap, VL.gSetF'_ap, VL.gMeth_ap, VL.gProp_ap, VL.gMake_ap, VL.gaStar_ap, VL.gPar2F_ap, VL.gSetSl_ap, VL.gDc_ap, VL.gItA_ap, VL.gDisp_ap, h4, h5, h2, h3, h1]
theorem enumL_at {ds : List D} {i : Nat} {d : D} (h : (enumL ds)[i]? = some d) : ∃ e, ds[i]? = some e ∧ d = .tup [.int (i : Nat), e] := by
  unfold enumL at h
  rw [List.getElem?_mapIdx] at h
  obtain ⟨e, h1, h2⟩ := Option.map_eq_some_iff.mp h
  exact ⟨e, h1, h2.symm⟩
theorem check_machine_ok {n : Int} {m : Mach} (h : OkM n m) (n1 : 1 ≤ n) (n4 : n ≤ 4) : F_check_machine [mT m, .int n] = .ok .non := by
  unfold F_check_machine g_check_machine
  simp [VL.bind_ok, VL.bind_er, VL.rs_d, VL.ofO_some, VL.runD_ap, VL.runF_ap, VL.runI, VL.startR, VL.rs, VL.rsL, VL.strL, VL.pick, VL.wipeR, VL.back, VL.noE_o, VL.gVar_ap, VL.gOwn_ap, VL.gC_ap, VL.gOp_ap, VL.gB_ap, VL.gCh_ap, VL.gAndT_ap, VL.gOrT_ap, VL.gNotT_ap, VL.gAnd_ap, VL.gOr_ap, VL.gNot_ap, VL.gIf_ap, VL.gaNil_ap, VL.gaCons_ap, VL.gTup_ap, VL.gLst_ap, VL.gF_ap, VL.gCB_ap, VL.gCBF_ap, VL.gOpF_ap, VL.gTru_ap, VL.gNoPart_ap, VL.gPart_ap, VL.gSl_ap, VL.gSlF_ap, VL.gNil_ap, VL.gSeq_ap, VL.gPass_ap, VL.gBrk_ap, VL.gCont_ap, VL.gExpr_ap, VL.gRet_ap, VL.gRetF_ap, VL.gRetN_ap, VL.gIfS_ap, VL.gSet_ap, VL.gSetF_ap, VL.ggName_ap, VL.ggNil_ap, VL.ggCons_ap, VL.ggTup_ap, VL.gAsg_ap, VL.gIt_ap, VL.gRng_ap, VL.gItS_ap, VL.gFor_ap, VL.gLc_ap, VL.gCall_ap, VL.gCallF_ap, VL.gCallI_ap, VL.gCallK_ap, VL.gUn_ap, VL.gUnF_ap, VL.gDnew_ap, VL.gApp_ap, VL.gSetIx_ap, VL.gYes_ap, VL.gRaise_ap, VL.gSetF'_ap, VL.gMeth_ap, VL.gProp_ap, VL.gMake_ap, VL.gaStar_ap, VL.gPar2F_ap, VL.gSetSl_ap, VL.gDc_ap, VL.gItA_ap, VL.gDisp_ap, is_size_ok n1 n4, truD_b, has_machine_form_ok h]
  unfold mT
  simp [VL.bind_ok, VL.bind_er, VL.rs_d, VL.ofO_some, VL.runD_ap, VL.runF_ap, VL.runI, VL.startR, VL.rs, VL.rsL, VL.strL, VL.pick, VL.wipeR, VL.back, VL.noE_o, VL.gVar_ap, VL.gOwn_ap, VL.gC_ap, VL.gOp_ap, VL.gB_ap, VL.gCh_ap, VL.gAndT_ap, VL.gOrT_ap, VL.gNotT_ap, VL.gAnd_ap, VL.gOr_ap, VL.gNot_ap, VL.gIf_ap, VL.gaNil_ap, VL.gaCons_ap, VL.gTup_ap, VL.gLst_ap, VL.gF_ap, VL.gCB_ap, VL.gCBF_ap, VL.gOpF_ap, VL.gTru_ap, VL.gNoPart_ap, VL.gPart_ap, VL.gSl_ap, VL.gSlF_ap, VL.gNil_ap, VL.gSeq_ap, VL.gPass_ap, VL.gBrk_ap, VL.gCont_ap, VL.gExpr_ap, VL.gRet_ap, VL.gRetF_ap, VL.gRetN_ap, VL.gIfS_ap, VL.gSet_ap, VL.gSetF_ap, VL.ggName_ap, VL.ggNil_ap, VL.ggCons_ap, VL.ggTup_ap, VL.gAsg_ap, VL.gIt_ap, VL.gRng_ap, VL.gItS_ap, VL.gFor_ap, VL.gLc_ap, VL.gCall_ap, VL.gCallF_ap, VL.gCallI_ap, VL.gCallK_ap, VL.gUn_ap, VL.gUnF_ap, VL.gDnew_ap, VL.gApp_ap, VL.gSetIx_ap, VL.gYes_ap, VL.gRaise_ap, VL.gSetF'_ap, VL.gMeth_ap, VL.gProp_ap, VL.gMake_ap, VL.gaStar_ap, VL.gPar2F_ap, VL.gSetSl_ap, VL.gDc_ap, VL.gItA_ap, VL.gDisp_ap, enD]
  obtain ⟨ρ', e, x, y, rfl⟩ := forL_at (ds := enumL (m.steps.map iT)) (n := 0) (fun _ ρ => ∃ x y, ρ = [some (mT m), some (.int n), some (.int m.start), some (.tup (m.steps.map iT)), some (iT m.ans), x, y, none])
    (ρ := [some (mT m), some (.int n), some (.int m.start), some (.tup (m.steps.map iT)), some (iT m.ans), none, none, none]) ⟨none, none, rfl⟩
    (gg := ggTup 2 (ggCons (ggName 5) (ggCons (ggName 6) ggNil)))
    (s := gIfS (gNotT (gTru (gCall 3 F_is_line (gaCons (gVar 6) (gaCons (gVar 1) (gaCons (gCB lenD (gaCons (gVar 3) gaNil)) gaNil))))))
    (gRet false (gTup (gaCons (gC (.str "steps")) (gaCons (gVar 5) gaNil))))
    gNil) (by
      rintro i d hd _ ⟨x, y, rfl⟩
      obtain ⟨e, he, rfl⟩ := enumL_at hd
      rw [List.getElem?_map] at he
      obtain ⟨l, hl, rfl⟩ := Option.map_eq_some_iff.mp he
      have hl := List.mem_of_getElem? hl
      refine ⟨[some (mT m), some (.int n), some (.int m.start), some (.tup (m.steps.map iT)), some (iT m.ans), some (.int (i : Nat)), some (iT l), none], ?_, _, _, rfl⟩
      simp [VL.bind_ok, VL.bind_er, VL.rs_d, VL.ofO_some, VL.runD_ap, VL.runF_ap, VL.runI, VL.startR, VL.rs, VL.rsL, VL.strL, VL.pick, VL.wipeR, VL.back, VL.noE_o, VL.gVar_ap, VL.gOwn_ap, VL.gC_ap, VL.gOp_ap, VL.gB_ap, VL.gCh_ap, VL.gAndT_ap, VL.gOrT_ap, VL.gNotT_ap, VL.gAnd_ap, VL.gOr_ap, VL.gNot_ap, VL.gIf_ap, VL.gaNil_ap, VL.gaCons_ap, VL.gTup_ap, VL.gLst_ap, VL.gF_ap, VL.gCB_ap, VL.gCBF_ap, VL.gOpF_ap, VL.gTru_ap, VL.gNoPart_ap, VL.gPart_ap, VL.gSl_ap, VL.gSlF_ap, VL.gNil_ap, VL.gSeq_ap, VL.gPass_ap, VL.gBrk_ap, VL.gCont_ap, VL.gExpr_ap, VL.gRet_ap, VL.gRetF_ap, VL.gRetN_ap, VL.gIfS_ap, VL.gSet_ap, VL.gSetF_ap, VL.ggName_ap, VL.ggNil_ap, VL.ggCons_ap, VL.ggTup_ap, VL.gAsg_ap, VL.gIt_ap, VL.gRng_ap, VL.gItS_ap, VL.gFor_ap, VL.gLc_ap, VL.gCall_ap, VL.gCallF_ap, VL.gCallI_ap, VL.gCallK_ap, VL.gUn_ap, VL.gUnF_ap, VL.gDnew_ap, VL.gApp_ap, VL.gSetIx_ap, VL.gYes_ap, VL.gRaise_ap, VL.gSetF'_ap, VL.gMeth_ap, VL.gProp_ap, VL.gMake_ap, VL.gaStar_ap, VL.gPar2F_ap, VL.gSetSl_ap, VL.gDc_ap, VL.gItA_ap, VL.gDisp_ap, lenD_t, is_line_ok (h.ro l hl).1 (h.ro l hl).2, truD_b])
  unfold mT at e
  rw [e]
  simp [VL.bind_ok, VL.bind_er, VL.rs_d, VL.ofO_some, VL.runD_ap, VL.runF_ap, VL.runI, VL.startR, VL.rs, VL.rsL, VL.strL, VL.pick, VL.wipeR, VL.back, VL.noE_o, VL.gVar_ap, VL.gOwn_ap, VL.gC_ap, VL.gOp_ap, VL.gB_ap, VL.gCh_ap, VL.gAndT_ap, VL.gOrT_ap, VL.gNotT_ap, VL.gAnd_ap, VL.gOr_ap, VL.gNot_ap, VL.gIf_ap, VL.gaNil_ap, VL.gaCons_ap, VL.gTup_ap, VL.gLst_ap, VL.gF_ap, VL.gCB_ap, VL.gCBF_ap, VL.gOpF_ap, VL.gTru_ap, VL.gNoPart_ap, VL.gPart_ap, VL.gSl_ap, VL.gSlF_ap, VL.gNil_ap, VL.gSeq_ap, VL.gPass_ap, VL.gBrk_ap, VL.gCont_ap, VL.gExpr_ap, VL.gRet_ap, VL.gRetF_ap, VL.gRetN_ap, VL.gIfS_ap, VL.gSet_ap, VL.gSetF_ap, VL.ggName_ap, VL.ggNil_ap, VL.ggCons_ap, VL.ggTup_ap, VL.gAsg_ap, VL.gIt_ap, VL.gRng_ap, VL.gItS_ap, VL.gFor_ap, VL.gLc_ap, VL.gCall_ap, VL.gCallF_ap, VL.gCallI_ap, VL.gCallK_ap, VL.gUn_ap, VL.gUnF_ap, VL.gDnew_ap, VL.gApp_ap, VL.gSetIx_ap, VL.gYes_ap, VL.gRaise_ap, VL.gSetF'_ap, VL.gMeth_ap, VL.gProp_ap, VL.gMake_ap, VL.gaStar_ap, VL.gPar2F_ap, VL.gSetSl_ap, VL.gDc_ap, VL.gItA_ap, VL.gDisp_ap]
  unfold iT
  simp [VL.bind_ok, VL.bind_er, VL.rs_d, VL.ofO_some, VL.runD_ap, VL.runF_ap, VL.runI, VL.startR, VL.rs, VL.rsL, VL.strL, VL.pick, VL.wipeR, VL.back, VL.noE_o, VL.gVar_ap, VL.gOwn_ap, VL.gC_ap, VL.gOp_ap, VL.gB_ap, VL.gCh_ap, VL.gAndT_ap, VL.gOrT_ap, VL.gNotT_ap, VL.gAnd_ap, VL.gOr_ap, VL.gNot_ap, VL.gIf_ap, VL.gaNil_ap, VL.gaCons_ap, VL.gTup_ap, VL.gLst_ap, VL.gF_ap, VL.gCB_ap, VL.gCBF_ap, VL.gOpF_ap, VL.gTru_ap, VL.gNoPart_ap, VL.gPart_ap, VL.gSl_ap, VL.gSlF_ap, VL.gNil_ap, VL.gSeq_ap, VL.gPass_ap, VL.gBrk_ap, VL.gCont_ap, VL.gExpr_ap, VL.gRet_ap, VL.gRetF_ap, VL.gRetN_ap, VL.gIfS_ap, VL.gSet_ap, VL.gSetF_ap, VL.ggName_ap, VL.ggNil_ap, VL.ggCons_ap, VL.ggTup_ap, VL.gAsg_ap, VL.gIt_ap, VL.gRng_ap, VL.gItS_ap, VL.gFor_ap, VL.gLc_ap, VL.gCall_ap, VL.gCallF_ap, VL.gCallI_ap, VL.gCallK_ap, VL.gUn_ap, VL.gUnF_ap, VL.gDnew_ap, VL.gApp_ap, VL.gSetIx_ap, VL.gYes_ap, VL.gRaise_ap, VL.gSetF'_ap, VL.gMeth_ap, VL.gProp_ap, VL.gMake_ap, VL.gaStar_ap, VL.gPar2F_ap, VL.gSetSl_ap, VL.gDc_ap, VL.gItA_ap, VL.gDisp_ap, lenD_t, neD_int, h.la, itA_t]
  rw [lcL_mapA fun x => .bl true]
  · simp [VL.bind_ok, VL.bind_er, VL.rs_d, VL.ofO_some, VL.runD_ap, VL.runF_ap, VL.runI, VL.startR, VL.rs, VL.rsL, VL.strL, VL.pick, VL.wipeR, VL.back, VL.noE_o, VL.gVar_ap, VL.gOwn_ap, VL.gC_ap, VL.gOp_ap, VL.gB_ap, VL.gCh_ap, VL.gAndT_ap, VL.gOrT_ap, VL.gNotT_ap, VL.gAnd_ap, VL.gOr_ap, VL.gNot_ap, VL.gIf_ap, VL.gaNil_ap, VL.gaCons_ap, VL.gTup_ap, VL.gLst_ap, VL.gF_ap, VL.gCB_ap, VL.gCBF_ap, VL.gOpF_ap, VL.gTru_ap, VL.gNoPart_ap, VL.gPart_ap, VL.gSl_ap, VL.gSlF_ap, VL.gNil_ap, VL.gSeq_ap, VL.gPass_ap, VL.gBrk_ap, VL.gCont_ap, VL.gExpr_ap, VL.gRet_ap, VL.gRetF_ap, VL.gRetN_ap, VL.gIfS_ap, VL.gSet_ap, VL.gSetF_ap, VL.ggName_ap, VL.ggNil_ap, VL.ggCons_ap, VL.ggTup_ap, VL.gAsg_ap, VL.gIt_ap, VL.gRng_ap, VL.gItS_ap, VL.gFor_ap, VL.gLc_ap, VL.gCall_ap, VL.gCallF_ap, VL.gCallI_ap, VL.gCallK_ap, VL.gUn_ap, VL.gUnF_ap, VL.gDnew_ap, VL.gApp_ap, VL.gSetIx_ap, VL.gYes_ap, VL.gRaise_ap, VL.gSetF'_ap, VL.gMeth_ap, VL.gProp_ap, VL.gMake_ap, VL.gaStar_ap, VL.gPar2F_ap, VL.gSetSl_ap, VL.gDc_ap, VL.gItA_ap, VL.gDisp_ap, all_true, truD_b, lenD_t, subD, is_integer_ok h.s0 h.s1]
  · intro a ha
    simp [VL.bind_ok, VL.bind_er, VL.rs_d, VL.ofO_some, VL.runD_ap, VL.runF_ap, VL.runI, VL.startR, VL.rs, VL.rsL, VL.strL, VL.pick, VL.wipeR, VL.back, VL.noE_o, VL.gVar_ap, VL.gOwn_ap, VL.gC_ap, VL.gOp_ap, VL.gB_ap, VL.gCh_ap, VL.gAndT_ap, VL.gOrT_ap, VL.gNotT_ap, VL.gAnd_ap, VL.gOr_ap, VL.gNot_ap, VL.gIf_ap, VL.gaNil_ap, VL.gaCons_ap, VL.gTup_ap, VL.gLst_ap, VL.gF_ap, VL.gCB_ap, VL.gCBF_ap, VL.gOpF_ap, VL.gTru_ap, VL.gNoPart_ap, VL.gPart_ap, VL.gSl_ap, VL.gSlF_ap, VL.gNil_ap, VL.gSeq_ap, VL.gPass_ap, VL.gBrk_ap, VL.gCont_ap, VL.gExpr_ap, VL.gRet_ap, VL.gRetF_ap, VL.gRetN_ap, VL.gIfS_ap, VL.gSet_ap, VL.gSetF_ap, VL.ggName_ap, VL.ggNil_ap, VL.ggCons_ap, VL.ggTup_ap, VL.gAsg_ap, VL.gIt_ap, VL.gRng_ap, VL.gItS_ap, VL.gFor_ap, VL.gLc_ap, VL.gCall_ap, VL.gCallF_ap, VL.gCallI_ap, VL.gCallK_ap, VL.gUn_ap, VL.gUnF_ap, VL.gDnew_ap, VL.gApp_ap, VL.gSetIx_ap, VL.gYes_ap, VL.gRaise_ap, VL.gSetF'_ap, VL.gMeth_ap, VL.gProp_ap, VL.gMake_ap, VL.gaStar_ap, VL.gPar2F_ap, VL.gSetSl_ap, VL.gDc_ap, VL.gItA_ap, VL.gDisp_ap, is_integer_ok (h.an a ha).1 (h.an a ha).2]
theorem notND_n : notND .non .non = some (.bl false) := rfl
theorem checked_asks_ok {n : Int} {kvs kvs' : List (Str × Mach)} (h : Dk mT kvs kvs') (n1 : 1 ≤ n) (n4 : n ≤ 4) (hm : ∀ p ∈ kvs', OkM n p.2) : F_checked_asks [dS mT kvs, .int n] = .ok (dS mT kvs') := by
  unfold F_checked_asks g_checked_asks
  simp [VL.bind_ok, VL.bind_er, VL.rs_d, VL.ofO_some, VL.runD_ap, VL.runF_ap, VL.runI, VL.startR, VL.rs, VL.rsL, VL.strL, VL.pick, VL.wipeR, VL.back, VL.noE_o, VL.gVar_ap, VL.gOwn_ap, VL.gC_ap, VL.gOp_ap, VL.gB_ap, VL.gCh_ap, VL.gAndT_ap, VL.gOrT_ap, VL.gNotT_ap, VL.gAnd_ap, VL.gOr_ap, VL.gNot_ap, VL.gIf_ap, VL.gaNil_ap, VL.gaCons_ap, VL.gTup_ap, VL.gLst_ap, VL.gF_ap, VL.gCB_ap, VL.gCBF_ap, VL.gOpF_ap, VL.gTru_ap, VL.gNoPart_ap, VL.gPart_ap, VL.gSl_ap, VL.gSlF_ap, VL.gNil_ap, VL.gSeq_ap, VL.gPass_ap, VL.gBrk_ap, VL.gCont_ap, VL.gExpr_ap, VL.gRet_ap, VL.gRetF_ap, VL.gRetN_ap, VL.gIfS_ap, VL.gSet_ap, VL.gSetF_ap, VL.ggName_ap, VL.ggNil_ap, VL.ggCons_ap, VL.ggTup_ap, VL.gAsg_ap, VL.gIt_ap, VL.gRng_ap, VL.gItS_ap, VL.gFor_ap, VL.gLc_ap, VL.gCall_ap, VL.gCallF_ap, VL.gCallI_ap, VL.gCallK_ap, VL.gUn_ap, VL.gUnF_ap, VL.gDnew_ap, VL.gApp_ap, VL.gSetIx_ap, VL.gYes_ap, VL.gRaise_ap, VL.gSetF'_ap, VL.gMeth_ap, VL.gProp_ap, VL.gMake_ap, VL.gaStar_ap, VL.gPar2F_ap, VL.gSetSl_ap, VL.gDc_ap, VL.gItA_ap, VL.gDisp_ap, isND_d, isDl_d, truD_b, h.lst, itA_l]
  obtain ⟨ρ', e, x, rfl⟩ := forL_fold (c := fun p : Str × Mach => D.str p.1) (fun _ _ => ()) (fun _ ρ => ∃ x, ρ = [some (dS mT kvs), some (.int n), x]) (xs := kvs') (a := ()) (ρ := [some (dS mT kvs), some (.int n), none]) ⟨none, rfl⟩ (gg := ggName 2) (s := gIfS (gOrT (gNotT (gTru (gCall 1 F_is_name (gaCons (gVar 2) gaNil)))) (gB (gOp notND (gCall 2 F_check_machine (gaCons (gOp ixD (gVar 0) (gVar 2)) (gaCons (gVar 1) gaNil))) (gC .non))))
    (gRaise "InvalidAsks" "name" (gVar 2))
    gNil) (by
      rintro p hp _ _ ⟨x, rfl⟩
      refine ⟨[some (dS mT kvs), some (.int n), some (.str p.1)], ?_, _, rfl⟩
      simp [VL.bind_ok, VL.bind_er, VL.rs_d, VL.ofO_some, VL.runD_ap, VL.runF_ap, VL.runI, VL.startR, VL.rs, VL.rsL, VL.strL, VL.pick, VL.wipeR, VL.back, VL.noE_o, VL.gVar_ap, VL.gOwn_ap, VL.gC_ap, VL.gOp_ap, VL.gB_ap, VL.gCh_ap, VL.gAndT_ap, VL.gOrT_ap, VL.gNotT_ap, VL.gAnd_ap, VL.gOr_ap, VL.gNot_ap, VL.gIf_ap, VL.gaNil_ap, VL.gaCons_ap, VL.gTup_ap, VL.gLst_ap, VL.gF_ap, VL.gCB_ap, VL.gCBF_ap, VL.gOpF_ap, VL.gTru_ap, VL.gNoPart_ap, VL.gPart_ap, VL.gSl_ap, VL.gSlF_ap, VL.gNil_ap, VL.gSeq_ap, VL.gPass_ap, VL.gBrk_ap, VL.gCont_ap, VL.gExpr_ap, VL.gRet_ap, VL.gRetF_ap, VL.gRetN_ap, VL.gIfS_ap, VL.gSet_ap, VL.gSetF_ap, VL.ggName_ap, VL.ggNil_ap, VL.ggCons_ap, VL.ggTup_ap, VL.gAsg_ap, VL.gIt_ap, VL.gRng_ap, VL.gItS_ap, VL.gFor_ap, VL.gLc_ap, VL.gCall_ap, VL.gCallF_ap, VL.gCallI_ap, VL.gCallK_ap, VL.gUn_ap, VL.gUnF_ap, VL.gDnew_ap, VL.gApp_ap, VL.gSetIx_ap, VL.gYes_ap, VL.gRaise_ap, VL.gSetF'_ap, VL.gMeth_ap, VL.gProp_ap, VL.gMake_ap, VL.gaStar_ap, VL.gPar2F_ap, VL.gSetSl_ap, VL.gDc_ap, VL.gItA_ap, VL.gDisp_ap, is_name_ok (h.nm p hp), truD_b, h.ix hp, check_machine_ok (hm p hp) n1 n4, notND_n])
  rw [e]
  simp [VL.bind_ok, VL.bind_er, VL.rs_d, VL.ofO_some, VL.runD_ap, VL.runF_ap, VL.runI, VL.startR, VL.rs, VL.rsL, VL.strL, VL.pick, VL.wipeR, VL.back, VL.noE_o, VL.gVar_ap, VL.gOwn_ap, VL.gC_ap, VL.gOp_ap, VL.gB_ap, VL.gCh_ap, VL.gAndT_ap, VL.gOrT_ap, VL.gNotT_ap, VL.gAnd_ap, VL.gOr_ap, VL.gNot_ap, VL.gIf_ap, VL.gaNil_ap, VL.gaCons_ap, VL.gTup_ap, VL.gLst_ap, VL.gF_ap, VL.gCB_ap, VL.gCBF_ap, VL.gOpF_ap, VL.gTru_ap, VL.gNoPart_ap, VL.gPart_ap, VL.gSl_ap, VL.gSlF_ap, VL.gNil_ap, VL.gSeq_ap, VL.gPass_ap, VL.gBrk_ap, VL.gCont_ap, VL.gExpr_ap, VL.gRet_ap, VL.gRetF_ap, VL.gRetN_ap, VL.gIfS_ap, VL.gSet_ap, VL.gSetF_ap, VL.ggName_ap, VL.ggNil_ap, VL.ggCons_ap, VL.ggTup_ap, VL.gAsg_ap, VL.gIt_ap, VL.gRng_ap, VL.gItS_ap, VL.gFor_ap, VL.gLc_ap, VL.gCall_ap, VL.gCallF_ap, VL.gCallI_ap, VL.gCallK_ap, VL.gUn_ap, VL.gUnF_ap, VL.gDnew_ap, VL.gApp_ap, VL.gSetIx_ap, VL.gYes_ap, VL.gRaise_ap, VL.gSetF'_ap, VL.gMeth_ap, VL.gProp_ap, VL.gMake_ap, VL.gaStar_ap, VL.gPar2F_ap, VL.gSetSl_ap, VL.gDc_ap, VL.gItA_ap, VL.gDisp_ap, h.lst, itA_l]
  rw [dcL_new (fun p : Str × Mach => .inr p.1) (fun p => mT p.2)]
  · simp [VL.bind_ok, VL.bind_er, VL.rs_d, VL.ofO_some, VL.runD_ap, VL.runF_ap, VL.runI, VL.startR, VL.rs, VL.rsL, VL.strL, VL.pick, VL.wipeR, VL.back, VL.noE_o, VL.gVar_ap, VL.gOwn_ap, VL.gC_ap, VL.gOp_ap, VL.gB_ap, VL.gCh_ap, VL.gAndT_ap, VL.gOrT_ap, VL.gNotT_ap, VL.gAnd_ap, VL.gOr_ap, VL.gNot_ap, VL.gIf_ap, VL.gaNil_ap, VL.gaCons_ap, VL.gTup_ap, VL.gLst_ap, VL.gF_ap, VL.gCB_ap, VL.gCBF_ap, VL.gOpF_ap, VL.gTru_ap, VL.gNoPart_ap, VL.gPart_ap, VL.gSl_ap, VL.gSlF_ap, VL.gNil_ap, VL.gSeq_ap, VL.gPass_ap, VL.gBrk_ap, VL.gCont_ap, VL.gExpr_ap, VL.gRet_ap, VL.gRetF_ap, VL.gRetN_ap, VL.gIfS_ap, VL.gSet_ap, VL.gSetF_ap, VL.ggName_ap, VL.ggNil_ap, VL.ggCons_ap, VL.ggTup_ap, VL.gAsg_ap, VL.gIt_ap, VL.gRng_ap, VL.gItS_ap, VL.gFor_ap, VL.gLc_ap, VL.gCall_ap, VL.gCallF_ap, VL.gCallI_ap, VL.gCallK_ap, VL.gUn_ap, VL.gUnF_ap, VL.gDnew_ap, VL.gApp_ap, VL.gSetIx_ap, VL.gYes_ap, VL.gRaise_ap, VL.gSetF'_ap, VL.gMeth_ap, VL.gProp_ap, VL.gMake_ap, VL.gaStar_ap, VL.gPar2F_ap, VL.gSetSl_ap, VL.gDc_ap, VL.gItA_ap, VL.gDisp_ap]
    rfl
  · intro p hp
    simp [VL.bind_ok, VL.bind_er, VL.rs_d, VL.ofO_some, VL.runD_ap, VL.runF_ap, VL.runI, VL.startR, VL.rs, VL.rsL, VL.strL, VL.pick, VL.wipeR, VL.back, VL.noE_o, VL.gVar_ap, VL.gOwn_ap, VL.gC_ap, VL.gOp_ap, VL.gB_ap, VL.gCh_ap, VL.gAndT_ap, VL.gOrT_ap, VL.gNotT_ap, VL.gAnd_ap, VL.gOr_ap, VL.gNot_ap, VL.gIf_ap, VL.gaNil_ap, VL.gaCons_ap, VL.gTup_ap, VL.gLst_ap, VL.gF_ap, VL.gCB_ap, VL.gCBF_ap, VL.gOpF_ap, VL.gTru_ap, VL.gNoPart_ap, VL.gPart_ap, VL.gSl_ap, VL.gSlF_ap, VL.gNil_ap, VL.gSeq_ap, VL.gPass_ap, VL.gBrk_ap, VL.gCont_ap, VL.gExpr_ap, VL.gRet_ap, VL.gRetF_ap, VL.gRetN_ap, VL.gIfS_ap, VL.gSet_ap, VL.gSetF_ap, VL.ggName_ap, VL.ggNil_ap, VL.ggCons_ap, VL.ggTup_ap, VL.gAsg_ap, VL.gIt_ap, VL.gRng_ap, VL.gItS_ap, VL.gFor_ap, VL.gLc_ap, VL.gCall_ap, VL.gCallF_ap, VL.gCallI_ap, VL.gCallK_ap, VL.gUn_ap, VL.gUnF_ap, VL.gDnew_ap, VL.gApp_ap, VL.gSetIx_ap, VL.gYes_ap, VL.gRaise_ap, VL.gSetF'_ap, VL.gMeth_ap, VL.gProp_ap, VL.gMake_ap, VL.gaStar_ap, VL.gPar2F_ap, VL.gSetSl_ap, VL.gDc_ap, VL.gItA_ap, VL.gDisp_ap, h.ix hp]
    rfl
  · exact List.pairwise_map.mpr ((List.pairwise_map.mp h.nd').imp fun hne e => hne (by injection e))
  · intro _ _ _ hk
    exact nomatch hk
  · have := h.ln
    rw [h.pm.length_eq]
    show 0 + kvs.length < big
    unfold big
    omega
theorem checked_asks_non (n : Int) : F_checked_asks [.non, .int n] = .ok (dS mT []) := by
  unfold F_checked_asks g_checked_asks
  simp [VL.bind_ok, VL.bind_er, VL.rs_d, VL.ofO_some, VL.runD_ap, VL.runF_ap, VL.runI, VL.startR, VL.rs, VL.rsL, VL.strL, VL.pick, VL.wipeR, VL.back, VL.noE_o, VL.gVar_ap, VL.gOwn_ap, VL.gC_ap, VL.gOp_ap, VL.gB_ap, VL.gCh_ap, VL.gAndT_ap, VL.gOrT_ap, VL.gNotT_ap, VL.gAnd_ap, VL.gOr_ap, VL.gNot_ap, VL.gIf_ap, VL.gaNil_ap, VL.gaCons_ap, VL.gTup_ap, VL.gLst_ap, VL.gF_ap, VL.gCB_ap, VL.gCBF_ap, VL.gOpF_ap, VL.gTru_ap, VL.gNoPart_ap, VL.gPart_ap, VL.gSl_ap, VL.gSlF_ap, VL.gNil_ap, VL.gSeq_ap, VL.gPass_ap, VL.gBrk_ap, VL.gCont_ap, VL.gExpr_ap, VL.gRet_ap, VL.gRetF_ap, VL.gRetN_ap, VL.gIfS_ap, VL.gSet_ap, VL.gSetF_ap, VL.ggName_ap, VL.ggNil_ap, VL.ggCons_ap, VL.ggTup_ap, VL.gAsg_ap, VL.gIt_ap, VL.gRng_ap, VL.gItS_ap, VL.gFor_ap, VL.gLc_ap, VL.gCall_ap, VL.gCallF_ap, VL.gCallI_ap, VL.gCallK_ap, VL.gUn_ap, VL.gUnF_ap, VL.gDnew_ap, VL.gApp_ap, VL.gSetIx_ap, VL.gYes_ap, VL.gRaise_ap, VL.gSetF'_ap, VL.gMeth_ap, VL.gProp_ap, VL.gMake_ap, VL.gaStar_ap, VL.gPar2F_ap, VL.gSetSl_ap, VL.gDc_ap, VL.gItA_ap, VL.gDisp_ap, isND, isNone]
  rfl
abbrev sD (n : Int) (ms : List (Str × List Int)) (as : List (Str × Mach)) (t : Bool) : D := .ins "Setting" ["_size", "_maps", "_asks", "_turning"] [.int n, dS iT ms, dS mT as, .bl t]
theorem f01 : (("_size" : Str) = "_maps") = False := eq_false (by decide +kernel)
theorem f02 : (("_size" : Str) = "_asks") = False := eq_false (by decide +kernel)
theorem f03 : (("_size" : Str) = "_turning") = False := eq_false (by decide +kernel)
theorem f10 : (("_maps" : Str) = "_size") = False := eq_false (by decide +kernel)
theorem f12 : (("_maps" : Str) = "_asks") = False := eq_false (by decide +kernel)
theorem f13 : (("_maps" : Str) = "_turning") = False := eq_false (by decide +kernel)
theorem f20 : (("_asks" : Str) = "_size") = False := eq_false (by decide +kernel)
theorem f21 : (("_asks" : Str) = "_maps") = False := eq_false (by decide +kernel)
theorem f23 : (("_asks" : Str) = "_turning") = False := eq_false (by decide +kernel)
theorem f30 : (("_turning" : Str) = "_size") = False := eq_false (by decide +kernel)
theorem f31 : (("_turning" : Str) = "_maps") = False := eq_false (by decide +kernel)
theorem f32 : (("_turning" : Str) = "_asks") = False := eq_false (by decide +kernel)
theorem init_ok {n : Int} {ms ms' : List (Str × List Int)} {A : D} {as' : List (Str × Mach)} {t : Bool} (n1 : 1 ≤ n) (n4 : n ≤ 4) (h : Dk iT ms ms') (hm : ∀ p ∈ ms', IsRow n p.2 ∧ (p.2.length : Int) = n)
    (ha : F_checked_asks [A, .int n] = .ok (dS mT as')) : F_Setting___init__ [.ins "Setting" [] [], .int n, dS iT ms, A, .bl t] = .ok (.non, sD n ms' as' t) := by
  unfold F_Setting___init__ g_Setting___init__
  simp [VL.bind_ok, VL.bind_er, VL.rs_d, VL.ofO_some, VL.runD_ap, VL.runF_ap, VL.runI, VL.startR, VL.rs, VL.rsL, VL.strL, VL.pick, VL.wipeR, VL.back, VL.noE_o, VL.gVar_ap, VL.gOwn_ap, VL.gC_ap, VL.gOp_ap, VL.gB_ap, VL.gCh_ap, VL.gAndT_ap, VL.gOrT_ap, VL.gNotT_ap, VL.gAnd_ap, VL.gOr_ap, VL.gNot_ap, VL.gIf_ap, VL.gaNil_ap, VL.gaCons_ap, VL.gTup_ap, VL.gLst_ap, VL.gF_ap, VL.gCB_ap, VL.gCBF_ap, VL.gOpF_ap, VL.gTru_ap, VL.gNoPart_ap, VL.gPart_ap, VL.gSl_ap, VL.gSlF_ap, VL.gNil_ap, VL.gSeq_ap, VL.gPass_ap, VL.gBrk_ap, VL.gCont_ap, VL.gExpr_ap, VL.gRet_ap, VL.gRetF_ap, VL.gRetN_ap, VL.gIfS_ap, VL.gSet_ap, VL.gSetF_ap, VL.ggName_ap, VL.ggNil_ap, VL.ggCons_ap, VL.ggTup_ap, VL.gAsg_ap, VL.gIt_ap, VL.gRng_ap, VL.gItS_ap, VL.gFor_ap, VL.gLc_ap, VL.gCall_ap, VL.gCallF_ap, VL.gCallI_ap, VL.gCallK_ap, VL.gUn_ap, VL.gUnF_ap, VL.gDnew_ap, VL.gApp_ap, VL.gSetIx_ap, VL.gYes_ap, VL.gRaise_ap, VL.gSetF'_ap, VL.gMeth_ap, VL.gProp_ap, VL.gMake_ap, VL.gaStar_ap, VL.gPar2F_ap, VL.gSetSl_ap, VL.gDc_ap, VL.gItA_ap, VL.gDisp_ap, is_size_ok n1 n4, truD_b, checked_maps_ok h hm, ha, isDl_b, fldP, putFD, sD, f01, f02, f03, f10, f12, f13, f20, f21, f23, f30, f31, f32]
end K34
namespace K34
open PySem PySem.Spec PyProof.Rows L2 VL
/-! sorted texts -/
theorem sort_ex (xs : List Str) : ∃ ys : List Str, ys.Perm xs ∧ ys.Pairwise leS := by
  refine ⟨xs.mergeSort fun a b => decide (a.cps.toList ≤ b.cps.toList), List.mergeSort_perm _ _, ?_⟩
  have h := List.pairwise_mergeSort (le := fun a b : Str => decide (a.cps.toList ≤ b.cps.toList)) (fun a b c h1 h2 => decide_eq_true (List.le_trans (of_decide_eq_true h1) (of_decide_eq_true h2)))
    (fun a b => by
      rcases List.le_total a.cps.toList b.cps.toList with h | h
      · simp [h]
      · simp [h]) xs
  exact h.imp fun h => of_decide_eq_true h
theorem sortS_perm (xs : List Str) : (sortS xs).Perm xs := by
  obtain ⟨ys, h, s⟩ := sort_ex xs
  rw [sortS_of h s]
  exact h
noncomputable def actsOf (ms : List (Str × List Int)) (t : Bool) : List Str := sortS (ms.map (·.1) ++ if t = true then [("turn" : Str)] else [])
theorem actsOf_mem {ms : List (Str × List Int)} {t : Bool} {a : Str} (h : a ∈ actsOf ms t) : a ∈ ms.map (·.1) ∨ a = "turn" := by
  have := (sortS_perm _).mem_iff.mp h
  rcases List.mem_append.mp this with h | h
  · exact .inl h
  · cases t with
    | true => exact .inr (List.mem_singleton.mp h)
    | false => exact nomatch h
theorem strsD_s (xs : List Str) : strsD (xs.map .str) = some xs := by
  have := strsD_map (fun x : Str => x) xs
  rw [List.map_id'] at this
  exact this
theorem sortF_s {xs : List Str} (h : xs.length < 64) : sortF [.lst (xs.map .str)] = some (.lst ((sortS xs).map .str)) := by
  show sortL (xs.map .str) = _
  unfold sortL
  rw [if_pos (by rw [List.length_map]; exact h), strsD_s]
theorem fld_size {n ms as t} : fldD "Setting" "_size" (sD n ms as t) = some (.int n) := by rfl
theorem fld_maps {n ms as t} : fldD "Setting" "_maps" (sD n ms as t) = some (dS iT ms) := by rfl
theorem fld_turning {n ms as t} : fldD "Setting" "_turning" (sD n ms as t) = some (.bl t) := by rfl
theorem listF_dS (ms : List (Str × List Int)) : listF [dS iT ms] = some (.lst ((ms.map (·.1)).map .str)) := by
  show some (D.lst (ms.map fun p => .str p.1)) = _
  rw [List.map_map]
  rfl
theorem strL_star {α : Type} (f : α → D) {ws : List W} {ds : List D} (h : strL ws = some ds) : ∀ xs : List α, strL (xs.map (W.d ∘ f) ++ ws) = some (xs.map f ++ ds)
  | [] => h
  | x :: xs => by
    show (strL (xs.map (W.d ∘ f) ++ ws)).map (f x :: ·) = _
    rw [strL_star f h xs]
    rfl
theorem deeds_ok {n : Int} {ms : List (Str × List Int)} {as : List (Str × Mach)} {t : Bool} (hl : ms.length < 60) : F_Setting_deeds [sD n ms as t] = .ok (.tup ((actsOf ms t).map .str)) := by
  unfold F_Setting_deeds g_Setting_deeds
  simp [VL.bind_ok, VL.bind_er, VL.rs_d, VL.ofO_some, VL.runD_ap, VL.runF_ap, VL.runI, VL.startR, VL.rs, VL.rsL, VL.strL, VL.pick, VL.wipeR, VL.back, VL.noE_o, VL.gVar_ap, VL.gOwn_ap, VL.gC_ap, VL.gOp_ap, VL.gB_ap, VL.gCh_ap, VL.gAndT_ap, VL.gOrT_ap, VL.gNotT_ap, VL.gAnd_ap, VL.gOr_ap, VL.gNot_ap, VL.gIf_ap, VL.gaNil_ap, VL.gaCons_ap, VL.gTup_ap, VL.gLst_ap, VL.gF_ap, VL.gCB_ap, VL.gCBF_ap, VL.gOpF_ap, VL.gTru_ap, VL.gNoPart_ap, VL.gPart_ap, VL.gSl_ap, VL.gSlF_ap, VL.gNil_ap, VL.gSeq_ap, VL.gPass_ap, VL.gBrk_ap, VL.gCont_ap, VL.gExpr_ap, VL.gRet_ap, VL.gRetF_ap, VL.gRetN_ap, VL.gIfS_ap, VL.gSet_ap, VL.gSetF_ap, VL.ggName_ap, VL.ggNil_ap, VL.ggCons_ap, VL.ggTup_ap, VL.gAsg_ap, VL.gIt_ap, VL.gRng_ap, VL.gItS_ap, VL.gFor_ap, VL.gLc_ap, VL.gCall_ap, VL.gCallF_ap, VL.gCallI_ap, VL.gCallK_ap, VL.gUn_ap, VL.gUnF_ap, VL.gDnew_ap, VL.gApp_ap, VL.gSetIx_ap, VL.gYes_ap, VL.gRaise_ap, VL.gSetF'_ap, VL.gMeth_ap, VL.gProp_ap, VL.gMake_ap, VL.gaStar_ap, VL.gPar2F_ap, VL.gSetSl_ap, VL.gDc_ap, VL.gItA_ap, VL.gDisp_ap, fld_maps, fld_turning, listF_dS, truD_b]
  cases t with
  | true =>
    simp [VL.bind_ok, VL.bind_er, VL.rs_d, VL.ofO_some, VL.runD_ap, VL.runF_ap, VL.runI, VL.startR, VL.rs, VL.rsL, VL.strL, VL.pick, VL.wipeR, VL.back, VL.noE_o, VL.gVar_ap, VL.gOwn_ap, VL.gC_ap, VL.gOp_ap, VL.gB_ap, VL.gCh_ap, VL.gAndT_ap, VL.gOrT_ap, VL.gNotT_ap, VL.gAnd_ap, VL.gOr_ap, VL.gNot_ap, VL.gIf_ap, VL.gaNil_ap, VL.gaCons_ap, VL.gTup_ap, VL.gLst_ap, VL.gF_ap, VL.gCB_ap, VL.gCBF_ap, VL.gOpF_ap, VL.gTru_ap, VL.gNoPart_ap, VL.gPart_ap, VL.gSl_ap, VL.gSlF_ap, VL.gNil_ap, VL.gSeq_ap, VL.gPass_ap, VL.gBrk_ap, VL.gCont_ap, VL.gExpr_ap, VL.gRet_ap, VL.gRetF_ap, VL.gRetN_ap, VL.gIfS_ap, VL.gSet_ap, VL.gSetF_ap, VL.ggName_ap, VL.ggNil_ap, VL.ggCons_ap, VL.ggTup_ap, VL.gAsg_ap, VL.gIt_ap, VL.gRng_ap, VL.gItS_ap, VL.gFor_ap, VL.gLc_ap, VL.gCall_ap, VL.gCallF_ap, VL.gCallI_ap, VL.gCallK_ap, VL.gUn_ap, VL.gUnF_ap, VL.gDnew_ap, VL.gApp_ap, VL.gSetIx_ap, VL.gYes_ap, VL.gRaise_ap, VL.gSetF'_ap, VL.gMeth_ap, VL.gProp_ap, VL.gMake_ap, VL.gaStar_ap, VL.gPar2F_ap, VL.gSetSl_ap, VL.gDc_ap, VL.gItA_ap, VL.gDisp_ap, itD, tupleD]
    have := sortF_s (xs := ms.map (·.1) ++ [("turn" : Str)]) (by rw [List.length_append, List.length_map]; show ms.length + 1 < 64; omega)
    rw [List.map_append, List.map_map] at this
    have e2 := strL_star (D.str ∘ fun x : Str × List Int => x.1) (ws := [W.d (.str "turn")]) (ds := [.str "turn"]) rfl ms
    have h1 : ms.length + 1 ≤ 1000 := by omega
    simp only [List.map_cons, List.map_nil] at this
    simp [VL.bind_ok, VL.bind_er, VL.rs_d, VL.ofO_some, VL.runD_ap, VL.runF_ap, VL.runI, VL.startR, VL.rs, VL.rsL, VL.strL, VL.pick, VL.wipeR, VL.back, VL.noE_o, VL.gVar_ap, VL.gOwn_ap, VL.gC_ap, VL.gOp_ap, VL.gB_ap, VL.gCh_ap, VL.gAndT_ap, VL.gOrT_ap, VL.gNotT_ap, VL.gAnd_ap, VL.gOr_ap, VL.gNot_ap, VL.gIf_ap, VL.gaNil_ap, VL.gaCons_ap, VL.gTup_ap, VL.gLst_ap, VL.gF_ap, VL.gCB_ap, VL.gCBF_ap, VL.gOpF_ap, VL.gTru_ap, VL.gNoPart_ap, VL.gPart_ap, VL.gSl_ap, VL.gSlF_ap, VL.gNil_ap, VL.gSeq_ap, VL.gPass_ap, VL.gBrk_ap, VL.gCont_ap, VL.gExpr_ap, VL.gRet_ap, VL.gRetF_ap, VL.gRetN_ap, VL.gIfS_ap, VL.gSet_ap, VL.gSetF_ap, VL.ggName_ap, VL.ggNil_ap, VL.ggCons_ap, VL.ggTup_ap, VL.gAsg_ap, VL.gIt_ap, VL.gRng_ap, VL.gItS_ap, VL.gFor_ap, VL.gLc_ap, VL.gCall_ap, VL.gCallF_ap, VL.gCallI_ap, VL.gCallK_ap, VL.gUn_ap, VL.gUnF_ap, VL.gDnew_ap, VL.gApp_ap, VL.gSetIx_ap, VL.gYes_ap, VL.gRaise_ap, VL.gSetF'_ap, VL.gMeth_ap, VL.gProp_ap, VL.gMake_ap, VL.gaStar_ap, VL.gPar2F_ap, VL.gSetSl_ap, VL.gDc_ap, VL.gItA_ap, VL.gDisp_ap, e2, this, h1, tupleD, actsOf]
  | false =>
    have := sortF_s (xs := ms.map (·.1)) (by rw [List.length_map]; omega)
    rw [List.map_map] at this
    simp [VL.bind_ok, VL.bind_er, VL.rs_d, VL.ofO_some, VL.runD_ap, VL.runF_ap, VL.runI, VL.startR, VL.rs, VL.rsL, VL.strL, VL.pick, VL.wipeR, VL.back, VL.noE_o, VL.gVar_ap, VL.gOwn_ap, VL.gC_ap, VL.gOp_ap, VL.gB_ap, VL.gCh_ap, VL.gAndT_ap, VL.gOrT_ap, VL.gNotT_ap, VL.gAnd_ap, VL.gOr_ap, VL.gNot_ap, VL.gIf_ap, VL.gaNil_ap, VL.gaCons_ap, VL.gTup_ap, VL.gLst_ap, VL.gF_ap, VL.gCB_ap, VL.gCBF_ap, VL.gOpF_ap, VL.gTru_ap, VL.gNoPart_ap, VL.gPart_ap, VL.gSl_ap, VL.gSlF_ap, VL.gNil_ap, VL.gSeq_ap, VL.gPass_ap, VL.gBrk_ap, VL.gCont_ap, VL.gExpr_ap, VL.gRet_ap, VL.gRetF_ap, VL.gRetN_ap, VL.gIfS_ap, VL.gSet_ap, VL.gSetF_ap, VL.ggName_ap, VL.ggNil_ap, VL.ggCons_ap, VL.ggTup_ap, VL.gAsg_ap, VL.gIt_ap, VL.gRng_ap, VL.gItS_ap, VL.gFor_ap, VL.gLc_ap, VL.gCall_ap, VL.gCallF_ap, VL.gCallI_ap, VL.gCallK_ap, VL.gUn_ap, VL.gUnF_ap, VL.gDnew_ap, VL.gApp_ap, VL.gSetIx_ap, VL.gYes_ap, VL.gRaise_ap, VL.gSetF'_ap, VL.gMeth_ap, VL.gProp_ap, VL.gMake_ap, VL.gaStar_ap, VL.gPar2F_ap, VL.gSetSl_ap, VL.gDc_ap, VL.gItA_ap, VL.gDisp_ap, tupleD, this, actsOf]
theorem maps_ok {n : Int} {ms : List (Str × List Int)} {as : List (Str × Mach)} {t : Bool} : F_Setting_maps [sD n ms as t] = .ok (dS iT ms) := by
  unfold F_Setting_maps g_Setting_maps
  simp [VL.bind_ok, VL.bind_er, VL.rs_d, VL.ofO_some, VL.runD_ap, VL.runF_ap, VL.runI, VL.startR, VL.rs, VL.rsL, VL.strL, VL.pick, VL.wipeR, VL.back, VL.noE_o, VL.gVar_ap, VL.gOwn_ap, VL.gC_ap, VL.gOp_ap, VL.gB_ap, VL.gCh_ap, VL.gAndT_ap, VL.gOrT_ap, VL.gNotT_ap, VL.gAnd_ap, VL.gOr_ap, VL.gNot_ap, VL.gIf_ap, VL.gaNil_ap, VL.gaCons_ap, VL.gTup_ap, VL.gLst_ap, VL.gF_ap, VL.gCB_ap, VL.gCBF_ap, VL.gOpF_ap, VL.gTru_ap, VL.gNoPart_ap, VL.gPart_ap, VL.gSl_ap, VL.gSlF_ap, VL.gNil_ap, VL.gSeq_ap, VL.gPass_ap, VL.gBrk_ap, VL.gCont_ap, VL.gExpr_ap, VL.gRet_ap, VL.gRetF_ap, VL.gRetN_ap, VL.gIfS_ap, VL.gSet_ap, VL.gSetF_ap, VL.ggName_ap, VL.ggNil_ap, VL.ggCons_ap, VL.ggTup_ap, VL.gAsg_ap, VL.gIt_ap, VL.gRng_ap, VL.gItS_ap, VL.gFor_ap, VL.gLc_ap, VL.gCall_ap, VL.gCallF_ap, VL.gCallI_ap, VL.gCallK_ap, VL.gUn_ap, VL.gUnF_ap, VL.gDnew_ap, VL.gApp_ap, VL.gSetIx_ap, VL.gYes_ap, VL.gRaise_ap, VL.gSetF'_ap, VL.gMeth_ap, VL.gProp_ap, VL.gMake_ap, VL.gaStar_ap, VL.gPar2F_ap, VL.gSetSl_ap, VL.gDc_ap, VL.gItA_ap, VL.gDisp_ap, fld_maps, dictF, dS]
theorem size_ok {n : Int} {ms : List (Str × List Int)} {as : List (Str × Mach)} {t : Bool} : F_Setting_size [sD n ms as t] = .ok (.int n) := by
  unfold F_Setting_size g_Setting_size
  simp [VL.bind_ok, VL.bind_er, VL.rs_d, VL.ofO_some, VL.runD_ap, VL.runF_ap, VL.runI, VL.startR, VL.rs, VL.rsL, VL.strL, VL.pick, VL.wipeR, VL.back, VL.noE_o, VL.gVar_ap, VL.gOwn_ap, VL.gC_ap, VL.gOp_ap, VL.gB_ap, VL.gCh_ap, VL.gAndT_ap, VL.gOrT_ap, VL.gNotT_ap, VL.gAnd_ap, VL.gOr_ap, VL.gNot_ap, VL.gIf_ap, VL.gaNil_ap, VL.gaCons_ap, VL.gTup_ap, VL.gLst_ap, VL.gF_ap, VL.gCB_ap, VL.gCBF_ap, VL.gOpF_ap, VL.gTru_ap, VL.gNoPart_ap, VL.gPart_ap, VL.gSl_ap, VL.gSlF_ap, VL.gNil_ap, VL.gSeq_ap, VL.gPass_ap, VL.gBrk_ap, VL.gCont_ap, VL.gExpr_ap, VL.gRet_ap, VL.gRetF_ap, VL.gRetN_ap, VL.gIfS_ap, VL.gSet_ap, VL.gSetF_ap, VL.ggName_ap, VL.ggNil_ap, VL.ggCons_ap, VL.ggTup_ap, VL.gAsg_ap, VL.gIt_ap, VL.gRng_ap, VL.gItS_ap, VL.gFor_ap, VL.gLc_ap, VL.gCall_ap, VL.gCallF_ap, VL.gCallI_ap, VL.gCallK_ap, VL.gUn_ap, VL.gUnF_ap, VL.gDnew_ap, VL.gApp_ap, VL.gSetIx_ap, VL.gYes_ap, VL.gRaise_ap, VL.gSetF'_ap, VL.gMeth_ap, VL.gProp_ap, VL.gMake_ap, VL.gaStar_ap, VL.gPar2F_ap, VL.gSetSl_ap, VL.gDc_ap, VL.gItA_ap, VL.gDisp_ap, fld_size]
def idL (n : Int) : List Int := (List.range n.toNat).map fun (i : Nat) => (0 : Int) + (i : Int)
theorem idL_row (n : Int) : IsRow n (idL n) := fun x hx => by
  obtain ⟨i, hi, rfl⟩ := List.mem_map.mp hx
  have := List.mem_range.mp hi
  omega
theorem no_map_ok {n : Int} {ms : List (Str × List Int)} {as : List (Str × Mach)} {t : Bool} (n1 : 1 ≤ n) (n4 : n ≤ 4) : F_no_map [sD n ms as t] = .ok (iT (idL n)) := by
  unfold F_no_map g_no_map
  have h : rgT (.int n) = some (iT (idL n)) := by
    unfold rgT
    dsimp only
    rw [if_pos ⟨by omega, by omega⟩]
    unfold rngL iT idL
    rw [List.map_map]
    rfl
  simp [VL.bind_ok, VL.bind_er, VL.rs_d, VL.ofO_some, VL.runD_ap, VL.runF_ap, VL.runI, VL.startR, VL.rs, VL.rsL, VL.strL, VL.pick, VL.wipeR, VL.back, VL.noE_o, VL.gVar_ap, VL.gOwn_ap, VL.gC_ap, VL.gOp_ap, VL.gB_ap, VL.gCh_ap, VL.gAndT_ap, VL.gOrT_ap, VL.gNotT_ap, VL.gAnd_ap, VL.gOr_ap, VL.gNot_ap, VL.gIf_ap, VL.gaNil_ap, VL.gaCons_ap, VL.gTup_ap, VL.gLst_ap, VL.gF_ap, VL.gCB_ap, VL.gCBF_ap, VL.gOpF_ap, VL.gTru_ap, VL.gNoPart_ap, VL.gPart_ap, VL.gSl_ap, VL.gSlF_ap, VL.gNil_ap, VL.gSeq_ap, VL.gPass_ap, VL.gBrk_ap, VL.gCont_ap, VL.gExpr_ap, VL.gRet_ap, VL.gRetF_ap, VL.gRetN_ap, VL.gIfS_ap, VL.gSet_ap, VL.gSetF_ap, VL.ggName_ap, VL.ggNil_ap, VL.ggCons_ap, VL.ggTup_ap, VL.gAsg_ap, VL.gIt_ap, VL.gRng_ap, VL.gItS_ap, VL.gFor_ap, VL.gLc_ap, VL.gCall_ap, VL.gCallF_ap, VL.gCallI_ap, VL.gCallK_ap, VL.gUn_ap, VL.gUnF_ap, VL.gDnew_ap, VL.gApp_ap, VL.gSetIx_ap, VL.gYes_ap, VL.gRaise_ap, VL.gSetF'_ap, VL.gMeth_ap, VL.gProp_ap, VL.gMake_ap, VL.gaStar_ap, VL.gPar2F_ap, VL.gSetSl_ap, VL.gDc_ap, VL.gItA_ap, VL.gDisp_ap, size_ok, h]
/-! plans -/
abbrev Stp := Str × Int × Int
def pD (s : Stp) : D := .tup [.str s.1, .int s.2.1, .int s.2.2]
structure OkS (acts : List Str) (long : Int) (s : Stp) : Prop where
  a : s.1 ∈ acts
  f0 : 0 ≤ s.2.1
  fl : s.2.1 ≤ s.2.2
  ll : s.2.2 ≤ long
theorem inD_str {a : Str} {acts : List Str} (h : a ∈ acts) : inD (.str a) (.tup (acts.map .str)) = some (.bl true) := by
  unfold inD
  dsimp only
  have h1 : (acts.map D.str).all flatD = true := List.all_eq_true.mpr fun d hd => by
    obtain ⟨x, _, rfl⟩ := List.mem_map.mp hd
    rfl
  rw [if_pos ⟨rfl, h1⟩]
  have : inB (.str a) (acts.map D.str) = true := by
    unfold inB inV
    refine List.any_eq_true.mpr ⟨.str a, List.mem_map.mpr ⟨.str a, List.mem_map.mpr ⟨a, h, rfl⟩, rfl⟩, ?_⟩
    simp [toV, eqV]
  rw [this]
theorem is_range_ok {f l n : Int} (h0 : 0 ≤ f) (h1 : f ≤ l) (h2 : l ≤ n) : F_is_range [.int f, .int l, .int n] = .ok (.bl true) := by
  unfold F_is_range g_is_range
  simp [VL.bind_ok, VL.bind_er, VL.rs_d, VL.ofO_some, VL.runD_ap, VL.runF_ap, VL.runI, VL.startR, VL.rs, VL.rsL, VL.strL, VL.pick, VL.wipeR, VL.back, VL.noE_o, VL.gVar_ap, VL.gOwn_ap, VL.gC_ap, VL.gOp_ap, VL.gB_ap, VL.gCh_ap, VL.gAndT_ap, VL.gOrT_ap, VL.gNotT_ap, VL.gAnd_ap, VL.gOr_ap, VL.gNot_ap, VL.gIf_ap, VL.gaNil_ap, VL.gaCons_ap, VL.gTup_ap, VL.gLst_ap, VL.gF_ap, VL.gCB_ap, VL.gCBF_ap, VL.gOpF_ap, VL.gTru_ap, VL.gNoPart_ap, VL.gPart_ap, VL.gSl_ap, VL.gSlF_ap, VL.gNil_ap, VL.gSeq_ap, VL.gPass_ap, VL.gBrk_ap, VL.gCont_ap, VL.gExpr_ap, VL.gRet_ap, VL.gRetF_ap, VL.gRetN_ap, VL.gIfS_ap, VL.gSet_ap, VL.gSetF_ap, VL.ggName_ap, VL.ggNil_ap, VL.ggCons_ap, VL.ggTup_ap, VL.gAsg_ap, VL.gIt_ap, VL.gRng_ap, VL.gItS_ap, VL.gFor_ap, VL.gLc_ap, VL.gCall_ap, VL.gCallF_ap, VL.gCallI_ap, VL.gCallK_ap, VL.gUn_ap, VL.gUnF_ap, VL.gDnew_ap, VL.gApp_ap, VL.gSetIx_ap, VL.gYes_ap, VL.gRaise_ap, VL.gSetF'_ap, VL.gMeth_ap, VL.gProp_ap, VL.gMake_ap, VL.gaStar_ap, VL.gPar2F_ap, VL.gSetSl_ap, VL.gDc_ap, VL.gItA_ap, VL.gDisp_ap, is_integer_ok h0 (Int.le_trans h1 h2), is_integer_ok h1 h2]
theorem is_step_ok {acts : List Str} {long : Int} {s : Stp} (h : OkS acts long s) : F_is_step [pD s, .int long, .tup (acts.map .str)] = .ok (.bl true) := by
  unfold F_is_step g_is_step pD
  simp [VL.bind_ok, VL.bind_er, VL.rs_d, VL.ofO_some, VL.runD_ap, VL.runF_ap, VL.runI, VL.startR, VL.rs, VL.rsL, VL.strL, VL.pick, VL.wipeR, VL.back, VL.noE_o, VL.gVar_ap, VL.gOwn_ap, VL.gC_ap, VL.gOp_ap, VL.gB_ap, VL.gCh_ap, VL.gAndT_ap, VL.gOrT_ap, VL.gNotT_ap, VL.gAnd_ap, VL.gOr_ap, VL.gNot_ap, VL.gIf_ap, VL.gaNil_ap, VL.gaCons_ap, VL.gTup_ap, VL.gLst_ap, VL.gF_ap, VL.gCB_ap, VL.gCBF_ap, VL.gOpF_ap, VL.gTru_ap, VL.gNoPart_ap, VL.gPart_ap, VL.gSl_ap, VL.gSlF_ap, VL.gNil_ap, VL.gSeq_ap, VL.gPass_ap, VL.gBrk_ap, VL.gCont_ap, VL.gExpr_ap, VL.gRet_ap, VL.gRetF_ap, VL.gRetN_ap, VL.gIfS_ap, VL.gSet_ap, VL.gSetF_ap, VL.ggName_ap, VL.ggNil_ap, VL.ggCons_ap, VL.ggTup_ap, VL.gAsg_ap, VL.gIt_ap, VL.gRng_ap, VL.gItS_ap, VL.gFor_ap, VL.gLc_ap, VL.gCall_ap, VL.gCallF_ap, VL.gCallI_ap, VL.gCallK_ap, VL.gUn_ap, VL.gUnF_ap, VL.gDnew_ap, VL.gApp_ap, VL.gSetIx_ap, VL.gYes_ap, VL.gRaise_ap, VL.gSetF'_ap, VL.gMeth_ap, VL.gProp_ap, VL.gMake_ap, VL.gaStar_ap, VL.gPar2F_ap, VL.gSetSl_ap, VL.gDc_ap, VL.gItA_ap, VL.gDisp_ap, isDl_t, lenD_t, neD_int, truD_b]
  have hi := inD_str h.a
  have := is_range_ok h.f0 h.fl h.ll
  simp [VL.bind_ok, VL.bind_er, VL.rs_d, VL.ofO_some, VL.runD_ap, VL.runF_ap, VL.runI, VL.startR, VL.rs, VL.rsL, VL.strL, VL.pick, VL.wipeR, VL.back, VL.noE_o, VL.gVar_ap, VL.gOwn_ap, VL.gC_ap, VL.gOp_ap, VL.gB_ap, VL.gCh_ap, VL.gAndT_ap, VL.gOrT_ap, VL.gNotT_ap, VL.gAnd_ap, VL.gOr_ap, VL.gNot_ap, VL.gIf_ap, VL.gaNil_ap, VL.gaCons_ap, VL.gTup_ap, VL.gLst_ap, VL.gF_ap, VL.gCB_ap, VL.gCBF_ap, VL.gOpF_ap, VL.gTru_ap, VL.gNoPart_ap, VL.gPart_ap, VL.gSl_ap, VL.gSlF_ap, VL.gNil_ap, VL.gSeq_ap, VL.gPass_ap, VL.gBrk_ap, VL.gCont_ap, VL.gExpr_ap, VL.gRet_ap, VL.gRetF_ap, VL.gRetN_ap, VL.gIfS_ap, VL.gSet_ap, VL.gSetF_ap, VL.ggName_ap, VL.ggNil_ap, VL.ggCons_ap, VL.ggTup_ap, VL.gAsg_ap, VL.gIt_ap, VL.gRng_ap, VL.gItS_ap, VL.gFor_ap, VL.gLc_ap, VL.gCall_ap, VL.gCallF_ap, VL.gCallI_ap, VL.gCallK_ap, VL.gUn_ap, VL.gUnF_ap, VL.gDnew_ap, VL.gApp_ap, VL.gSetIx_ap, VL.gYes_ap, VL.gRaise_ap, VL.gSetF'_ap, VL.gMeth_ap, VL.gProp_ap, VL.gMake_ap, VL.gaStar_ap, VL.gPar2F_ap, VL.gSetSl_ap, VL.gDc_ap, VL.gItA_ap, VL.gDisp_ap, hi, this]
theorem kb_ty_t (ds : List D) : isDl ["Setting"] [.tup ds, .tup [.ty "tuple", .ty "list"]] = some (.bl true) := by simp [isDl, isB, tyN, tys, kb_tt, kb_tl]
theorem kb_ty_l (ds : List D) : isDl ["Setting"] [.lst ds, .tup [.ty "tuple", .ty "list"]] = some (.bl true) := by simp [isDl, isB, tyN, tys, kb_ll, kb_lt]
theorem need_plan_ok {acts : List Str} {long : Int} {ss : List Stp} (h : ∀ s ∈ ss, OkS acts long s) {P : D} (hP : P = .tup (ss.map pD) ∨ P = .lst (ss.map pD)) : F_need_plan [P, .int long, .tup (acts.map .str)] = .ok .non := by
  have he : enD [.d P] = some (enumL (ss.map pD)) := by rcases hP with rfl | rfl <;> rfl
  have hi : isDl ["Setting"] [P, .tup [.ty "tuple", .ty "list"]] = some (.bl true) := by
    rcases hP with rfl | rfl
    · exact kb_ty_t _
    · exact kb_ty_l _
  unfold F_need_plan g_need_plan
  simp [VL.bind_ok, VL.bind_er, VL.rs_d, VL.ofO_some, VL.runD_ap, VL.runF_ap, VL.runI, VL.startR, VL.rs, VL.rsL, VL.strL, VL.pick, VL.wipeR, VL.back, VL.noE_o, VL.gVar_ap, VL.gOwn_ap, VL.gC_ap, VL.gOp_ap, VL.gB_ap, VL.gCh_ap, VL.gAndT_ap, VL.gOrT_ap, VL.gNotT_ap, VL.gAnd_ap, VL.gOr_ap, VL.gNot_ap, VL.gIf_ap, VL.gaNil_ap, VL.gaCons_ap, VL.gTup_ap, VL.gLst_ap, VL.gF_ap, VL.gCB_ap, VL.gCBF_ap, VL.gOpF_ap, VL.gTru_ap, VL.gNoPart_ap, VL.gPart_ap, VL.gSl_ap, VL.gSlF_ap, VL.gNil_ap, VL.gSeq_ap, VL.gPass_ap, VL.gBrk_ap, VL.gCont_ap, VL.gExpr_ap, VL.gRet_ap, VL.gRetF_ap, VL.gRetN_ap, VL.gIfS_ap, VL.gSet_ap, VL.gSetF_ap, VL.ggName_ap, VL.ggNil_ap, VL.ggCons_ap, VL.ggTup_ap, VL.gAsg_ap, VL.gIt_ap, VL.gRng_ap, VL.gItS_ap, VL.gFor_ap, VL.gLc_ap, VL.gCall_ap, VL.gCallF_ap, VL.gCallI_ap, VL.gCallK_ap, VL.gUn_ap, VL.gUnF_ap, VL.gDnew_ap, VL.gApp_ap, VL.gSetIx_ap, VL.gYes_ap, VL.gRaise_ap, VL.gSetF'_ap, VL.gMeth_ap, VL.gProp_ap, VL.gMake_ap, VL.gaStar_ap, VL.gPar2F_ap, VL.gSetSl_ap, VL.gDc_ap, VL.gItA_ap, VL.gDisp_ap, hi, truD_b, he]
  obtain ⟨ρ', e, x, y, rfl⟩ := forL_at (ds := enumL (ss.map pD)) (n := 0) (fun _ ρ => ∃ x y, ρ = [some P, some (.int long), some (.tup (acts.map .str)), x, y])
    (ρ := [some P, some (.int long), some (.tup (acts.map .str)), none, none]) ⟨none, none, rfl⟩
    (gg := ggTup 2 (ggCons (ggName 3) (ggCons (ggName 4) ggNil)))
    (s := gIfS (gNotT (gTru (gCall 3 F_is_step (gaCons (gVar 4) (gaCons (gVar 1) (gaCons (gVar 2) gaNil))))))
    (gRaise "InvalidPlan" "place" (gVar 3))
    gNil) (by
      rintro i d hd _ ⟨x, y, rfl⟩
      obtain ⟨e, he, rfl⟩ := enumL_at hd
      rw [List.getElem?_map] at he
      obtain ⟨l, hl, rfl⟩ := Option.map_eq_some_iff.mp he
      have hl := List.mem_of_getElem? hl
      refine ⟨[some P, some (.int long), some (.tup (acts.map .str)), some (.int (i : Nat)), some (pD l)], ?_, _, _, rfl⟩
      simp [VL.bind_ok, VL.bind_er, VL.rs_d, VL.ofO_some, VL.runD_ap, VL.runF_ap, VL.runI, VL.startR, VL.rs, VL.rsL, VL.strL, VL.pick, VL.wipeR, VL.back, VL.noE_o, VL.gVar_ap, VL.gOwn_ap, VL.gC_ap, VL.gOp_ap, VL.gB_ap, VL.gCh_ap, VL.gAndT_ap, VL.gOrT_ap, VL.gNotT_ap, VL.gAnd_ap, VL.gOr_ap, VL.gNot_ap, VL.gIf_ap, VL.gaNil_ap, VL.gaCons_ap, VL.gTup_ap, VL.gLst_ap, VL.gF_ap, VL.gCB_ap, VL.gCBF_ap, VL.gOpF_ap, VL.gTru_ap, VL.gNoPart_ap, VL.gPart_ap, VL.gSl_ap, VL.gSlF_ap, VL.gNil_ap, VL.gSeq_ap, VL.gPass_ap, VL.gBrk_ap, VL.gCont_ap, VL.gExpr_ap, VL.gRet_ap, VL.gRetF_ap, VL.gRetN_ap, VL.gIfS_ap, VL.gSet_ap, VL.gSetF_ap, VL.ggName_ap, VL.ggNil_ap, VL.ggCons_ap, VL.ggTup_ap, VL.gAsg_ap, VL.gIt_ap, VL.gRng_ap, VL.gItS_ap, VL.gFor_ap, VL.gLc_ap, VL.gCall_ap, VL.gCallF_ap, VL.gCallI_ap, VL.gCallK_ap, VL.gUn_ap, VL.gUnF_ap, VL.gDnew_ap, VL.gApp_ap, VL.gSetIx_ap, VL.gYes_ap, VL.gRaise_ap, VL.gSetF'_ap, VL.gMeth_ap, VL.gProp_ap, VL.gMake_ap, VL.gaStar_ap, VL.gPar2F_ap, VL.gSetSl_ap, VL.gDc_ap, VL.gItA_ap, VL.gDisp_ap, is_step_ok (h l hl), truD_b])
  rw [e]
  simp [VL.bind_ok, VL.bind_er, VL.rs_d, VL.ofO_some, VL.runD_ap, VL.runF_ap, VL.runI, VL.startR, VL.rs, VL.rsL, VL.strL, VL.pick, VL.wipeR, VL.back, VL.noE_o, VL.gVar_ap, VL.gOwn_ap, VL.gC_ap, VL.gOp_ap, VL.gB_ap, VL.gCh_ap, VL.gAndT_ap, VL.gOrT_ap, VL.gNotT_ap, VL.gAnd_ap, VL.gOr_ap, VL.gNot_ap, VL.gIf_ap, VL.gaNil_ap, VL.gaCons_ap, VL.gTup_ap, VL.gLst_ap, VL.gF_ap, VL.gCB_ap, VL.gCBF_ap, VL.gOpF_ap, VL.gTru_ap, VL.gNoPart_ap, VL.gPart_ap, VL.gSl_ap, VL.gSlF_ap, VL.gNil_ap, VL.gSeq_ap, VL.gPass_ap, VL.gBrk_ap, VL.gCont_ap, VL.gExpr_ap, VL.gRet_ap, VL.gRetF_ap, VL.gRetN_ap, VL.gIfS_ap, VL.gSet_ap, VL.gSetF_ap, VL.ggName_ap, VL.ggNil_ap, VL.ggCons_ap, VL.ggTup_ap, VL.gAsg_ap, VL.gIt_ap, VL.gRng_ap, VL.gItS_ap, VL.gFor_ap, VL.gLc_ap, VL.gCall_ap, VL.gCallF_ap, VL.gCallI_ap, VL.gCallK_ap, VL.gUn_ap, VL.gUnF_ap, VL.gDnew_ap, VL.gApp_ap, VL.gSetIx_ap, VL.gYes_ap, VL.gRaise_ap, VL.gSetF'_ap, VL.gMeth_ap, VL.gProp_ap, VL.gMake_ap, VL.gaStar_ap, VL.gPar2F_ap, VL.gSetSl_ap, VL.gDc_ap, VL.gItA_ap, VL.gDisp_ap]
theorem isDl_s (n : Int) (ms : List (Str × List Int)) (as : List (Str × Mach)) (t : Bool) : isDl ["Setting"] [sD n ms as t, .cls "Setting"] = some (.bl true) := by simp [isDl, isB]
theorem need_setting_ok (n : Int) (ms : List (Str × List Int)) (as : List (Str × Mach)) (t : Bool) : F_need_setting [sD n ms as t] = .ok .non := by
  unfold F_need_setting g_need_setting
  simp [VL.bind_ok, VL.bind_er, VL.rs_d, VL.ofO_some, VL.runD_ap, VL.runF_ap, VL.runI, VL.startR, VL.rs, VL.rsL, VL.strL, VL.pick, VL.wipeR, VL.back, VL.noE_o, VL.gVar_ap, VL.gOwn_ap, VL.gC_ap, VL.gOp_ap, VL.gB_ap, VL.gCh_ap, VL.gAndT_ap, VL.gOrT_ap, VL.gNotT_ap, VL.gAnd_ap, VL.gOr_ap, VL.gNot_ap, VL.gIf_ap, VL.gaNil_ap, VL.gaCons_ap, VL.gTup_ap, VL.gLst_ap, VL.gF_ap, VL.gCB_ap, VL.gCBF_ap, VL.gOpF_ap, VL.gTru_ap, VL.gNoPart_ap, VL.gPart_ap, VL.gSl_ap, VL.gSlF_ap, VL.gNil_ap, VL.gSeq_ap, VL.gPass_ap, VL.gBrk_ap, VL.gCont_ap, VL.gExpr_ap, VL.gRet_ap, VL.gRetF_ap, VL.gRetN_ap, VL.gIfS_ap, VL.gSet_ap, VL.gSetF_ap, VL.ggName_ap, VL.ggNil_ap, VL.ggCons_ap, VL.ggTup_ap, VL.gAsg_ap, VL.gIt_ap, VL.gRng_ap, VL.gItS_ap, VL.gFor_ap, VL.gLc_ap, VL.gCall_ap, VL.gCallF_ap, VL.gCallI_ap, VL.gCallK_ap, VL.gUn_ap, VL.gUnF_ap, VL.gDnew_ap, VL.gApp_ap, VL.gSetIx_ap, VL.gYes_ap, VL.gRaise_ap, VL.gSetF'_ap, VL.gMeth_ap, VL.gProp_ap, VL.gMake_ap, VL.gaStar_ap, VL.gPar2F_ap, VL.gSetSl_ap, VL.gDc_ap, VL.gItA_ap, VL.gDisp_ap, isDl_s, truD_b]
theorem need_length_ok {n : Int} (h0 : 0 ≤ n) (h : n ≤ 60) : F_need_length [.int n] = .ok .non := by
  unfold F_need_length g_need_length
  simp [VL.bind_ok, VL.bind_er, VL.rs_d, VL.ofO_some, VL.runD_ap, VL.runF_ap, VL.runI, VL.startR, VL.rs, VL.rsL, VL.strL, VL.pick, VL.wipeR, VL.back, VL.noE_o, VL.gVar_ap, VL.gOwn_ap, VL.gC_ap, VL.gOp_ap, VL.gB_ap, VL.gCh_ap, VL.gAndT_ap, VL.gOrT_ap, VL.gNotT_ap, VL.gAnd_ap, VL.gOr_ap, VL.gNot_ap, VL.gIf_ap, VL.gaNil_ap, VL.gaCons_ap, VL.gTup_ap, VL.gLst_ap, VL.gF_ap, VL.gCB_ap, VL.gCBF_ap, VL.gOpF_ap, VL.gTru_ap, VL.gNoPart_ap, VL.gPart_ap, VL.gSl_ap, VL.gSlF_ap, VL.gNil_ap, VL.gSeq_ap, VL.gPass_ap, VL.gBrk_ap, VL.gCont_ap, VL.gExpr_ap, VL.gRet_ap, VL.gRetF_ap, VL.gRetN_ap, VL.gIfS_ap, VL.gSet_ap, VL.gSetF_ap, VL.ggName_ap, VL.ggNil_ap, VL.ggCons_ap, VL.ggTup_ap, VL.gAsg_ap, VL.gIt_ap, VL.gRng_ap, VL.gItS_ap, VL.gFor_ap, VL.gLc_ap, VL.gCall_ap, VL.gCallF_ap, VL.gCallI_ap, VL.gCallK_ap, VL.gUn_ap, VL.gUnF_ap, VL.gDnew_ap, VL.gApp_ap, VL.gSetIx_ap, VL.gYes_ap, VL.gRaise_ap, VL.gSetF'_ap, VL.gMeth_ap, VL.gProp_ap, VL.gMake_ap, VL.gaStar_ap, VL.gPar2F_ap, VL.gSetSl_ap, VL.gDc_ap, VL.gItA_ap, VL.gDisp_ap, is_integer_ok h0 h, truD_b]
theorem need_plans_ok {n : Int} {ms : List (Str × List Int)} {as : List (Str × Mach)} {t : Bool} (hl : ms.length < 60) {long : Int} (h0 : 0 ≤ long) (h6 : long ≤ 60) {ss : List Stp} (h : ∀ s ∈ ss, OkS (actsOf ms t) long s) {P : D} (hP : P = .tup (ss.map pD) ∨ P = .lst (ss.map pD)) :
    F_need_plans [sD n ms as t, .lst [P], .int long] = .ok .non := by
  unfold F_need_plans g_need_plans
  have hd := deeds_ok (n := n) (as := as) (t := t) hl
  simp [VL.bind_ok, VL.bind_er, VL.rs_d, VL.ofO_some, VL.runD_ap, VL.runF_ap, VL.runI, VL.startR, VL.rs, VL.rsL, VL.strL, VL.pick, VL.wipeR, VL.back, VL.noE_o, VL.gVar_ap, VL.gOwn_ap, VL.gC_ap, VL.gOp_ap, VL.gB_ap, VL.gCh_ap, VL.gAndT_ap, VL.gOrT_ap, VL.gNotT_ap, VL.gAnd_ap, VL.gOr_ap, VL.gNot_ap, VL.gIf_ap, VL.gaNil_ap, VL.gaCons_ap, VL.gTup_ap, VL.gLst_ap, VL.gF_ap, VL.gCB_ap, VL.gCBF_ap, VL.gOpF_ap, VL.gTru_ap, VL.gNoPart_ap, VL.gPart_ap, VL.gSl_ap, VL.gSlF_ap, VL.gNil_ap, VL.gSeq_ap, VL.gPass_ap, VL.gBrk_ap, VL.gCont_ap, VL.gExpr_ap, VL.gRet_ap, VL.gRetF_ap, VL.gRetN_ap, VL.gIfS_ap, VL.gSet_ap, VL.gSetF_ap, VL.ggName_ap, VL.ggNil_ap, VL.ggCons_ap, VL.ggTup_ap, VL.gAsg_ap, VL.gIt_ap, VL.gRng_ap, VL.gItS_ap, VL.gFor_ap, VL.gLc_ap, VL.gCall_ap, VL.gCallF_ap, VL.gCallI_ap, VL.gCallK_ap, VL.gUn_ap, VL.gUnF_ap, VL.gDnew_ap, VL.gApp_ap, VL.gSetIx_ap, VL.gYes_ap, VL.gRaise_ap, VL.gSetF'_ap, VL.gMeth_ap, VL.gProp_ap, VL.gMake_ap, VL.gaStar_ap, VL.gPar2F_ap, VL.gSetSl_ap, VL.gDc_ap, VL.gItA_ap, VL.gDisp_ap, need_setting_ok, need_length_ok h0 h6, itA_l, forL, hd, need_plan_ok h hP]
end K34
namespace K34
open PySem PySem.Spec PyProof.Rows L2 VL
def look (m : List Int) (x : Int) : Int := m.getD x.toNat 0
theorem ixD_iT {m : List Int} {x : Int} (h0 : 0 ≤ x) (h1 : x < m.length) : ixD (iT m) (.int x) = some (.int (look m x)) := by
  show atI (m.map D.int) x = _
  rw [atI_in h0 (by rw [List.length_map]; exact h1), List.getElem_map]
  unfold look
  rw [List.getD_eq_getElem?_getD, List.getElem?_eq_getElem (by omega)]
  rfl
theorem joined_ok {a m : List Int} (h : IsRow m.length a) : F_joined [iT a, iT m] = .ok (iT (a.map (look m))) := by
  unfold F_joined g_joined
  have hi : itA (iT a) = some (a.map D.int) := rfl
  simp [VL.bind_ok, VL.bind_er, VL.rs_d, VL.ofO_some, VL.runD_ap, VL.runF_ap, VL.runI, VL.startR, VL.rs, VL.rsL, VL.strL, VL.pick, VL.wipeR, VL.back, VL.noE_o, VL.gVar_ap, VL.gOwn_ap, VL.gC_ap, VL.gOp_ap, VL.gB_ap, VL.gCh_ap, VL.gAndT_ap, VL.gOrT_ap, VL.gNotT_ap, VL.gAnd_ap, VL.gOr_ap, VL.gNot_ap, VL.gIf_ap, VL.gaNil_ap, VL.gaCons_ap, VL.gTup_ap, VL.gLst_ap, VL.gF_ap, VL.gCB_ap, VL.gCBF_ap, VL.gOpF_ap, VL.gTru_ap, VL.gNoPart_ap, VL.gPart_ap, VL.gSl_ap, VL.gSlF_ap, VL.gNil_ap, VL.gSeq_ap, VL.gPass_ap, VL.gBrk_ap, VL.gCont_ap, VL.gExpr_ap, VL.gRet_ap, VL.gRetF_ap, VL.gRetN_ap, VL.gIfS_ap, VL.gSet_ap, VL.gSetF_ap, VL.ggName_ap, VL.ggNil_ap, VL.ggCons_ap, VL.ggTup_ap, VL.gAsg_ap, VL.gIt_ap, VL.gRng_ap, VL.gItS_ap, VL.gFor_ap, VL.gLc_ap, VL.gCall_ap, VL.gCallF_ap, VL.gCallI_ap, VL.gCallK_ap, VL.gUn_ap, VL.gUnF_ap, VL.gDnew_ap, VL.gApp_ap, VL.gSetIx_ap, VL.gYes_ap, VL.gRaise_ap, VL.gSetF'_ap, VL.gMeth_ap, VL.gProp_ap, VL.gMake_ap, VL.gaStar_ap, VL.gPar2F_ap, VL.gSetSl_ap, VL.gDc_ap, VL.gItA_ap, VL.gDisp_ap, hi]
  rw [lcL_mapA fun x => .int (look m x)]
  · simp [VL.bind_ok, VL.bind_er, VL.rs_d, VL.ofO_some, VL.runD_ap, VL.runF_ap, VL.runI, VL.startR, VL.rs, VL.rsL, VL.strL, VL.pick, VL.wipeR, VL.back, VL.noE_o, VL.gVar_ap, VL.gOwn_ap, VL.gC_ap, VL.gOp_ap, VL.gB_ap, VL.gCh_ap, VL.gAndT_ap, VL.gOrT_ap, VL.gNotT_ap, VL.gAnd_ap, VL.gOr_ap, VL.gNot_ap, VL.gIf_ap, VL.gaNil_ap, VL.gaCons_ap, VL.gTup_ap, VL.gLst_ap, VL.gF_ap, VL.gCB_ap, VL.gCBF_ap, VL.gOpF_ap, VL.gTru_ap, VL.gNoPart_ap, VL.gPart_ap, VL.gSl_ap, VL.gSlF_ap, VL.gNil_ap, VL.gSeq_ap, VL.gPass_ap, VL.gBrk_ap, VL.gCont_ap, VL.gExpr_ap, VL.gRet_ap, VL.gRetF_ap, VL.gRetN_ap, VL.gIfS_ap, VL.gSet_ap, VL.gSetF_ap, VL.ggName_ap, VL.ggNil_ap, VL.ggCons_ap, VL.ggTup_ap, VL.gAsg_ap, VL.gIt_ap, VL.gRng_ap, VL.gItS_ap, VL.gFor_ap, VL.gLc_ap, VL.gCall_ap, VL.gCallF_ap, VL.gCallI_ap, VL.gCallK_ap, VL.gUn_ap, VL.gUnF_ap, VL.gDnew_ap, VL.gApp_ap, VL.gSetIx_ap, VL.gYes_ap, VL.gRaise_ap, VL.gSetF'_ap, VL.gMeth_ap, VL.gProp_ap, VL.gMake_ap, VL.gaStar_ap, VL.gPar2F_ap, VL.gSetSl_ap, VL.gDc_ap, VL.gItA_ap, VL.gDisp_ap, tupleD, iT]
  · intro x hx
    have := h x hx
    simp [VL.bind_ok, VL.bind_er, VL.rs_d, VL.ofO_some, VL.runD_ap, VL.runF_ap, VL.runI, VL.startR, VL.rs, VL.rsL, VL.strL, VL.pick, VL.wipeR, VL.back, VL.noE_o, VL.gVar_ap, VL.gOwn_ap, VL.gC_ap, VL.gOp_ap, VL.gB_ap, VL.gCh_ap, VL.gAndT_ap, VL.gOrT_ap, VL.gNotT_ap, VL.gAnd_ap, VL.gOr_ap, VL.gNot_ap, VL.gIf_ap, VL.gaNil_ap, VL.gaCons_ap, VL.gTup_ap, VL.gLst_ap, VL.gF_ap, VL.gCB_ap, VL.gCBF_ap, VL.gOpF_ap, VL.gTru_ap, VL.gNoPart_ap, VL.gPart_ap, VL.gSl_ap, VL.gSlF_ap, VL.gNil_ap, VL.gSeq_ap, VL.gPass_ap, VL.gBrk_ap, VL.gCont_ap, VL.gExpr_ap, VL.gRet_ap, VL.gRetF_ap, VL.gRetN_ap, VL.gIfS_ap, VL.gSet_ap, VL.gSetF_ap, VL.ggName_ap, VL.ggNil_ap, VL.ggCons_ap, VL.ggTup_ap, VL.gAsg_ap, VL.gIt_ap, VL.gRng_ap, VL.gItS_ap, VL.gFor_ap, VL.gLc_ap, VL.gCall_ap, VL.gCallF_ap, VL.gCallI_ap, VL.gCallK_ap, VL.gUn_ap, VL.gUnF_ap, VL.gDnew_ap, VL.gApp_ap, VL.gSetIx_ap, VL.gYes_ap, VL.gRaise_ap, VL.gSetF'_ap, VL.gMeth_ap, VL.gProp_ap, VL.gMake_ap, VL.gaStar_ap, VL.gPar2F_ap, VL.gSetSl_ap, VL.gDc_ap, VL.gItA_ap, VL.gDisp_ap, ixD_iT this.1 (show x < m.length by omega)]
abbrev Cel := Int × List Int
def cD (c : Cel) : D := .tup [.int c.1, iT c.2]
def mapOf : List (Str × List Int) → Str → List Int
  | [], _ => []
  | p :: r, a => if p.1 = a then p.2 else mapOf r a
theorem mapOf_ix {a : Str} : ∀ {ms : List (Str × List Int)}, a ∈ ms.map (·.1) → ixD (dS iT ms) (.str a) = some (iT (mapOf ms a))
  | [], h => nomatch h
  | p :: r, h => by
    show (if keyOf (.str p.1) = some (Sum.inr a) then some (iT p.2) else dGet (r.map fun p => .str p.1) (r.map fun p => iT p.2) (.inr a)) = _
    unfold mapOf
    by_cases e : p.1 = a
    · rw [if_pos e, if_pos (show keyOf (.str p.1) = some (Sum.inr a) by rw [e]; rfl)]
    · rw [if_neg e, if_neg]
      · rcases List.mem_cons.mp h with h | h
        · exact absurd h.symm e
        · exact mapOf_ix h
      · intro z
        have z : some (Sum.inr p.1 : Key) = some (Sum.inr a) := z
        injection z with z
        injection z with z
        exact e z
theorem mapOf_all {P : List Int → Prop} {a : Str} : ∀ {ms : List (Str × List Int)}, a ∈ ms.map (·.1) → (∀ p ∈ ms, P p.2) → P (mapOf ms a)
  | [], h, _ => nomatch h
  | p :: r, h, q => by
    unfold mapOf
    by_cases e : p.1 = a
    · rw [if_pos e]
      exact q p List.mem_cons_self
    · rw [if_neg e]
      rcases List.mem_cons.mp h with h | h
      · exact absurd h.symm e
      · exact mapOf_all h fun p hp => q p (List.mem_cons_of_mem _ hp)
noncomputable def mid {α : Type} (ms : List (Str × List Int)) (g : (Int → Int) → α → α) (s : Stp) (xs : List α) : List α :=
  if s.1 = ("turn" : Str) then xs.reverse else xs.map (g (look (mapOf ms s.1)))
noncomputable def stp {α : Type} (ms : List (Str × List Int)) (g : (Int → Int) → α → α) (xs : List α) (s : Stp) : List α :=
  xs.take s.2.1.toNat ++ mid ms g s ((xs.drop s.2.1.toNat).take (s.2.2.toNat - s.2.1.toNat)) ++ xs.drop s.2.2.toNat
def gC' (f : Int → Int) (c : Cel) : Cel := (c.1, c.2.map f)
structure CV (n long : Int) (cells : List Cel) : Prop where
  l : (cells.length : Int) = long
  c : ∀ c ∈ cells, IsRow n c.2 ∧ (c.2.length : Int) = n ∧ 0 ≤ c.1 ∧ c.1 < long
structure St (n : Int) (ms : List (Str × List Int)) : Prop where
  n1 : 1 ≤ n
  n4 : n ≤ 4
  nm : ∀ p ∈ ms, Nm p.1
  ok : ∀ p ∈ ms, IsRow n p.2 ∧ (p.2.length : Int) = n
  ln : ms.length < 60
theorem look_row {n : Int} {m : List Int} (h : IsRow n m) (hl : (m.length : Int) = n) {x : Int} (h0 : 0 ≤ x) (h1 : x ≤ n - 1) : 0 ≤ look m x ∧ look m x ≤ n - 1 := by
  unfold look
  rw [List.getD_eq_getElem?_getD, List.getElem?_eq_getElem (by omega)]
  exact h _ (List.getElem_mem _)
theorem mid_mem {α : Type} {ms : List (Str × List Int)} {g : (Int → Int) → α → α} {s : Stp} {xs : List α} {y : α} (h : y ∈ mid ms g s xs) : y ∈ xs ∨ (s.1 ≠ ("turn" : Str) ∧ ∃ x ∈ xs, y = g (look (mapOf ms s.1)) x) := by
  unfold mid at h
  by_cases e : s.1 = ("turn" : Str)
  · rw [if_pos e] at h
    exact .inl (List.mem_reverse.mp h)
  · rw [if_neg e] at h
    obtain ⟨x, hx, rfl⟩ := List.mem_map.mp h
    exact .inr ⟨e, x, hx, rfl⟩
theorem mid_len {α : Type} {ms : List (Str × List Int)} {g : (Int → Int) → α → α} {s : Stp} {xs : List α} : (mid ms g s xs).length = xs.length := by
  unfold mid
  split
  · exact List.length_reverse
  · exact List.length_map _
theorem stp_len {α : Type} {ms : List (Str × List Int)} {g : (Int → Int) → α → α} {acts : List Str} {long : Int} {s : Stp} {xs : List α} (h : OkS acts long s) (hl : (xs.length : Int) = long) : ((stp ms g xs s).length : Int) = long := by
  have := h.f0
  have := h.fl
  have := h.ll
  unfold stp
  rw [List.length_append, List.length_append, mid_len, List.length_take, List.length_take, List.length_drop, List.length_drop]
  omega
theorem act_map {n : Int} {ms : List (Str × List Int)} (S : St n ms) {t : Bool} {a : Str} (h : a ∈ actsOf ms t) (e : a ≠ ("turn" : Str)) : a ∈ ms.map (·.1) ∧ IsRow n (mapOf ms a) ∧ ((mapOf ms a).length : Int) = n := by
  rcases actsOf_mem h with h | h
  · exact ⟨h, mapOf_all (P := fun m => IsRow n m ∧ (m.length : Int) = n) h S.ok⟩
  · exact absurd h e
theorem stp_mem {α : Type} {ms : List (Str × List Int)} {g : (Int → Int) → α → α} {s : Stp} {xs : List α} {y : α} (h : y ∈ stp ms g xs s) : y ∈ xs ∨ (s.1 ≠ ("turn" : Str) ∧ ∃ x ∈ xs, y = g (look (mapOf ms s.1)) x) := by
  unfold stp at h
  rcases List.mem_append.mp h with h | h
  · rcases List.mem_append.mp h with h | h
    · exact .inl (List.mem_of_mem_take h)
    · rcases mid_mem h with h | ⟨e, x, hx, rfl⟩
      · exact .inl (List.mem_of_mem_drop (List.mem_of_mem_take h))
      · exact .inr ⟨e, x, List.mem_of_mem_drop (List.mem_of_mem_take hx), rfl⟩
  · exact .inl (List.mem_of_mem_drop h)
theorem stp_cv {n long : Int} {ms : List (Str × List Int)} (S : St n ms) {t : Bool} {s : Stp} (h : OkS (actsOf ms t) long s) {cells : List Cel} (v : CV n long cells) : CV n long (stp ms gC' cells s) where
  l := stp_len h v.l
  c := fun c hc => by
    rcases stp_mem hc with hc | ⟨e, x, hx, rfl⟩
    · exact v.c c hc
    · obtain ⟨hm, hr, hl⟩ := act_map S h.a e
      have hx := v.c x hx
      refine ⟨fun y hy => ?_, by unfold gC'; rw [List.length_map]; exact hx.2.1, hx.2.2⟩
      obtain ⟨z, hz, rfl⟩ := List.mem_map.mp hy
      exact look_row hr hl (hx.1 z hz).1 (hx.1 z hz).2
theorem cut_in {xs : List D} {f l : Int} (h0 : 0 ≤ f) (h1 : f ≤ l) (h2 : l ≤ xs.length) : VL.cutD xs (some f) (some l) = (xs.drop f.toNat).take (l.toNat - f.toNat) := by
  obtain ⟨a, rfl⟩ := Int.eq_ofNat_of_zero_le h0
  obtain ⟨b, rfl⟩ := Int.eq_ofNat_of_zero_le (Int.le_trans h0 h1)
  unfold VL.cutD
  rw [HT.sIx_nat, HT.sIx_nat, Nat.min_eq_left (by omega), Nat.min_eq_left (by omega)]
  rfl
theorem slSet_in {xs ys : List D} {f l : Int} (h0 : 0 ≤ f) (h1 : f ≤ l) (h2 : l ≤ xs.length) (hb : xs.length + ys.length ≤ big) : slSet (.lst xs) (.lst ys) (some f) (some l) = some (.lst (xs.take f.toNat ++ ys ++ xs.drop l.toNat)) := by
  show (if 0 ≤ f ∧ f ≤ l ∧ l ≤ xs.length ∧ xs.length + ys.length ≤ big then _ else _) = _
  rw [if_pos ⟨h0, h1, h2, hb⟩]
theorem act_eq {n : Int} {ms : List (Str × List Int)} (S : St n ms) {t : Bool} {a : Str} (h : a ∈ actsOf ms t) : eqD (.str a) (.str "turn") = some (.bl (decide (a = ("turn" : Str)))) := by
  have hk : PyData.strOk ("turn" : Str) = true := by decide +kernel
  have : PyData.strOk a = true := by
    rcases actsOf_mem h with h | rfl
    · obtain ⟨p, hp, rfl⟩ := List.mem_map.mp h
      exact (S.nm p hp).ok
    · exact hk
  rw [eqD_str this hk]
  congr 2
end K34
namespace K34
open PySem PySem.Spec PyProof.Rows L2 VL
def cells0 (n long : Int) : List Cel := (rangeI long).map fun i => (i, idL n)
where rangeI (k : Int) : List Int := (List.range k.toNat).map fun (i : Nat) => (0 : Int) + (i : Int)
theorem rngL_eq (k : Nat) : rngL 0 k = (cells0.rangeI k).map .int := by
  unfold rngL cells0.rangeI
  rw [List.map_map, Int.toNat_natCast]
  rfl
theorem cells0_cv {n long : Int} (h0 : 0 ≤ long) (n1 : 1 ≤ n) : CV n long (cells0 n long) where
  l := by
    unfold cells0 cells0.rangeI
    rw [List.length_map, List.length_map, List.length_range]
    omega
  c := fun c hc => by
    unfold cells0 cells0.rangeI at hc
    rw [List.map_map] at hc
    obtain ⟨i, hi, rfl⟩ := List.mem_map.mp hc
    have := List.mem_range.mp hi
    refine ⟨idL_row n, ?_, ?_, ?_⟩
    · show ((idL n).length : Int) = n
      unfold idL
      rw [List.length_map, List.length_range]
      omega
    · show 0 ≤ (0 : Int) + (i : Int)
      omega
    · show (0 : Int) + (i : Int) < long
      omega
noncomputable def after (ms : List (Str × List Int)) (n long : Int) (ss : List Stp) : List Cel := ss.foldl (stp ms gC') (cells0 n long)
theorem after_cv {n long : Int} {ms : List (Str × List Int)} (S : St n ms) {t : Bool} (h0 : 0 ≤ long) {ss : List Stp} (h : ∀ s ∈ ss, OkS (actsOf ms t) long s) : CV n long (after ms n long ss) := by
  unfold after
  have : ∀ (ss : List Stp) (cs : List Cel), (∀ s ∈ ss, OkS (actsOf ms t) long s) → CV n long cs → CV n long (ss.foldl (stp ms gC') cs) := fun ss => by
    induction ss with
    | nil => exact fun _ _ v => v
    | cons s ss ih => exact fun cs h v => ih _ (fun s hs => h s (List.mem_cons_of_mem _ hs)) (stp_cv S (h s List.mem_cons_self) v)
  exact this ss _ h (cells0_cv h0 S.n1)
theorem rng1_in {k : Int} (h0 : 0 ≤ k) (h : k ≤ 60) : rng1 [.d (.int k)] = some ((cells0.rangeI k).map .int) := by
  unfold rng1
  dsimp only
  rw [if_pos ⟨by omega, by omega⟩, rngL_eq, Int.toNat_of_nonneg h0]
theorem cut_map {cells : List Cel} {long : Int} {f l : Int} (hl : (cells.length : Int) = long) (h0 : 0 ≤ f) (h1 : f ≤ l) (h2 : l ≤ long) : slD (.lst (cells.map cD)) (some f) (some l) = some (.lst (((cells.drop f.toNat).take (l.toNat - f.toNat)).map cD)) := by
  show some (D.lst (VL.cutD (cells.map cD) (some f) (some l))) = _
  rw [cut_in h0 h1 (by rw [List.length_map]; omega), List.map_take, List.map_drop]
theorem set_map {cells ys : List Cel} {long : Int} {f l : Int} (hl : (cells.length : Int) = long) (h6 : long ≤ 60) (h0 : 0 ≤ f) (h1 : f ≤ l) (h2 : l ≤ long) (hy : ys.length ≤ 60) : slSet (.lst (cells.map cD)) (.lst (ys.map cD)) (some f) (some l) = some (.lst ((cells.take f.toNat ++ ys ++ cells.drop l.toNat).map cD)) := by
  rw [slSet_in h0 h1 (by rw [List.length_map]; omega) (by rw [List.length_map, List.length_map]; unfold big; omega), List.map_append, List.map_append, List.map_take, List.map_drop]
theorem cells_after_ok {n : Int} {ms : List (Str × List Int)} {as : List (Str × Mach)} {t : Bool} (S : St n ms) {long : Int} (h0 : 0 ≤ long) (h6 : long ≤ 60) {ss : List Stp} (h : ∀ s ∈ ss, OkS (actsOf ms t) long s) {P : D} (hP : P = .tup (ss.map pD) ∨ P = .lst (ss.map pD)) :
    F_cells_after [sD n ms as t, P, .int long] = .ok (.lst ((after ms n long ss).map cD)) := by
  have hi : itA P = some (ss.map pD) := by rcases hP with rfl | rfl <;> rfl
  unfold F_cells_after g_cells_after
  simp [VL.bind_ok, VL.bind_er, VL.rs_d, VL.ofO_some, VL.runD_ap, VL.runF_ap, VL.runI, VL.startR, VL.rs, VL.rsL, VL.strL, VL.pick, VL.wipeR, VL.back, VL.noE_o, VL.gVar_ap, VL.gOwn_ap, VL.gC_ap, VL.gOp_ap, VL.gB_ap, VL.gCh_ap, VL.gAndT_ap, VL.gOrT_ap, VL.gNotT_ap, VL.gAnd_ap, VL.gOr_ap, VL.gNot_ap, VL.gIf_ap, VL.gaNil_ap, VL.gaCons_ap, VL.gTup_ap, VL.gLst_ap, VL.gF_ap, VL.gCB_ap, VL.gCBF_ap, VL.gOpF_ap, VL.gTru_ap, VL.gNoPart_ap, VL.gPart_ap, VL.gSl_ap, VL.gSlF_ap, VL.gNil_ap, VL.gSeq_ap, VL.gPass_ap, VL.gBrk_ap, VL.gCont_ap, VL.gExpr_ap, VL.gRet_ap, VL.gRetF_ap, VL.gRetN_ap, VL.gIfS_ap, VL.gSet_ap, VL.gSetF_ap, VL.ggName_ap, VL.ggNil_ap, VL.ggCons_ap, VL.ggTup_ap, VL.gAsg_ap, VL.gIt_ap, VL.gRng_ap, VL.gItS_ap, VL.gFor_ap, VL.gLc_ap, VL.gCall_ap, VL.gCallF_ap, VL.gCallI_ap, VL.gCallK_ap, VL.gUn_ap, VL.gUnF_ap, VL.gDnew_ap, VL.gApp_ap, VL.gSetIx_ap, VL.gYes_ap, VL.gRaise_ap, VL.gSetF'_ap, VL.gMeth_ap, VL.gProp_ap, VL.gMake_ap, VL.gaStar_ap, VL.gPar2F_ap, VL.gSetSl_ap, VL.gDc_ap, VL.gItA_ap, VL.gDisp_ap, maps_ok, rng1_in h0 h6]
  rw [lcL_mapA fun i : Int => .tup [.int i, iT (idL n)]]
  · simp [VL.bind_ok, VL.bind_er, VL.rs_d, VL.ofO_some, VL.runD_ap, VL.runF_ap, VL.runI, VL.startR, VL.rs, VL.rsL, VL.strL, VL.pick, VL.wipeR, VL.back, VL.noE_o, VL.gVar_ap, VL.gOwn_ap, VL.gC_ap, VL.gOp_ap, VL.gB_ap, VL.gCh_ap, VL.gAndT_ap, VL.gOrT_ap, VL.gNotT_ap, VL.gAnd_ap, VL.gOr_ap, VL.gNot_ap, VL.gIf_ap, VL.gaNil_ap, VL.gaCons_ap, VL.gTup_ap, VL.gLst_ap, VL.gF_ap, VL.gCB_ap, VL.gCBF_ap, VL.gOpF_ap, VL.gTru_ap, VL.gNoPart_ap, VL.gPart_ap, VL.gSl_ap, VL.gSlF_ap, VL.gNil_ap, VL.gSeq_ap, VL.gPass_ap, VL.gBrk_ap, VL.gCont_ap, VL.gExpr_ap, VL.gRet_ap, VL.gRetF_ap, VL.gRetN_ap, VL.gIfS_ap, VL.gSet_ap, VL.gSetF_ap, VL.ggName_ap, VL.ggNil_ap, VL.ggCons_ap, VL.ggTup_ap, VL.gAsg_ap, VL.gIt_ap, VL.gRng_ap, VL.gItS_ap, VL.gFor_ap, VL.gLc_ap, VL.gCall_ap, VL.gCallF_ap, VL.gCallI_ap, VL.gCallK_ap, VL.gUn_ap, VL.gUnF_ap, VL.gDnew_ap, VL.gApp_ap, VL.gSetIx_ap, VL.gYes_ap, VL.gRaise_ap, VL.gSetF'_ap, VL.gMeth_ap, VL.gProp_ap, VL.gMake_ap, VL.gaStar_ap, VL.gPar2F_ap, VL.gSetSl_ap, VL.gDc_ap, VL.gItA_ap, VL.gDisp_ap, hi]
    obtain ⟨ρ', e, v, x, y, z, rfl⟩ := forL_fold (c := pD) (stp ms gC') (fun cs ρ => CV n long cs ∧ ∃ x y z, ρ = [some (sD n ms as t), some P, some (.int long), some (dS iT ms), some (.lst (cs.map cD)), x, y, z, none, none, none]) (xs := ss)
      (a := cells0 n long) (ρ := [some (sD n ms as t), some P, some (.int long), some (dS iT ms), some (.lst ((cells0 n long).map cD)), none, none, none, none, none, none]) ⟨cells0_cv h0 S.n1, none, none, none, rfl⟩
      (gg := ggTup 3 (ggCons (ggName 5) (ggCons (ggName 6) (ggCons (ggName 7) ggNil))))
      (s := gIfS (gB (gOp eqD (gVar 5) (gC (.str "turn"))))
    (gSetSl 4 (gPart (gVar 6)) (gPart (gVar 7)) (gUn revD (gSl slD (gOwn 4) (gPart (gVar 6)) (gPart (gVar 7)))))
    (gSetSl 4 (gPart (gVar 6)) (gPart (gVar 7)) (gF (gLc (gItA (gSl slD (gOwn 4) (gPart (gVar 6)) (gPart (gVar 7)))) (ggTup 2 (ggCons (ggName 9) (ggCons (ggName 10) ggNil))) gYes (gTup (gaCons (gVar 9) (gaCons (gCall 2 F_joined (gaCons (gVar 10) (gaCons (gOp ixD (gVar 3) (gVar 5)) gaNil))) gaNil))) [9, 10])))) (by
        rintro s hs cs _ ⟨v, x, y, z, rfl⟩
        have o := h s hs
        have hc := cut_map v.l o.f0 o.fl o.ll
        refine ⟨[some (sD n ms as t), some P, some (.int long), some (dS iT ms), some (.lst ((stp ms gC' cs s).map cD)), some (.str s.1), some (.int s.2.1), some (.int s.2.2), none, none, none], ?_, stp_cv S o v, _, _, _, rfl⟩
        have hq := act_eq S o.a
        have hlen : ((cs.drop s.2.1.toNat).take (s.2.2.toNat - s.2.1.toNat)).length ≤ 60 := by
          have := v.l
          rw [List.length_take, List.length_drop]
          omega
        unfold pD
        by_cases e : s.1 = ("turn" : Str)
        · have hm : stp ms gC' cs s = cs.take s.2.1.toNat ++ ((cs.drop s.2.1.toNat).take (s.2.2.toNat - s.2.1.toNat)).reverse ++ cs.drop s.2.2.toNat := by
            unfold stp mid
            rw [if_pos e]
          have hs := set_map v.l h6 o.f0 o.fl o.ll (ys := ((cs.drop s.2.1.toNat).take (s.2.2.toNat - s.2.1.toNat)).reverse) (by rw [List.length_reverse]; exact hlen)
          rw [← hm, List.map_reverse] at hs
          rw [decide_eq_true e] at hq
          revert hs hc
          generalize (cs.drop s.2.1.toNat).take (s.2.2.toNat - s.2.1.toNat) = Y
          generalize stp ms gC' cs s = Z
          intro hc hs
          simp [VL.bind_ok, VL.bind_er, VL.rs_d, VL.ofO_some, VL.runD_ap, VL.runF_ap, VL.runI, VL.startR, VL.rs, VL.rsL, VL.strL, VL.pick, VL.wipeR, VL.back, VL.noE_o, VL.gVar_ap, VL.gOwn_ap, VL.gC_ap, VL.gOp_ap, VL.gB_ap, VL.gCh_ap, VL.gAndT_ap, VL.gOrT_ap, VL.gNotT_ap, VL.gAnd_ap, VL.gOr_ap, VL.gNot_ap, VL.gIf_ap, VL.gaNil_ap, VL.gaCons_ap, VL.gTup_ap, VL.gLst_ap, VL.gF_ap, VL.gCB_ap, VL.gCBF_ap, VL.gOpF_ap, VL.gTru_ap, VL.gNoPart_ap, VL.gPart_ap, VL.gSl_ap, VL.gSlF_ap, VL.gNil_ap, VL.gSeq_ap, VL.gPass_ap, VL.gBrk_ap, VL.gCont_ap, VL.gExpr_ap, VL.gRet_ap, VL.gRetF_ap, VL.gRetN_ap, VL.gIfS_ap, VL.gSet_ap, VL.gSetF_ap, VL.ggName_ap, VL.ggNil_ap, VL.ggCons_ap, VL.ggTup_ap, VL.gAsg_ap, VL.gIt_ap, VL.gRng_ap, VL.gItS_ap, VL.gFor_ap, VL.gLc_ap, VL.gCall_ap, VL.gCallF_ap, VL.gCallI_ap, VL.gCallK_ap, VL.gUn_ap, VL.gUnF_ap, VL.gDnew_ap, VL.gApp_ap, VL.gSetIx_ap, VL.gYes_ap, VL.gRaise_ap, VL.gSetF'_ap, VL.gMeth_ap, VL.gProp_ap, VL.gMake_ap, VL.gaStar_ap, VL.gPar2F_ap, VL.gSetSl_ap, VL.gDc_ap, VL.gItA_ap, VL.gDisp_ap, hq, hc, revD, hs]
        · have hm : stp ms gC' cs s = cs.take s.2.1.toNat ++ ((cs.drop s.2.1.toNat).take (s.2.2.toNat - s.2.1.toNat)).map (gC' (look (mapOf ms s.1))) ++ cs.drop s.2.2.toNat := by
            unfold stp mid
            rw [if_neg e]
          have hs := set_map v.l h6 o.f0 o.fl o.ll (ys := ((cs.drop s.2.1.toNat).take (s.2.2.toNat - s.2.1.toNat)).map (gC' (look (mapOf ms s.1)))) (by rw [List.length_map]; exact hlen)
          rw [← hm, List.map_map] at hs
          rw [decide_eq_false e] at hq
          obtain ⟨hmm, hr, hml⟩ := act_map S o.a e
          have hix := mapOf_ix hmm
          have hY : ∀ c ∈ (cs.drop s.2.1.toNat).take (s.2.2.toNat - s.2.1.toNat), IsRow (mapOf ms s.1).length c.2 := fun c hc => by
            rw [hml]
            exact (v.c c (List.mem_of_mem_drop (List.mem_of_mem_take hc))).1
          revert hs hc hY
          generalize (cs.drop s.2.1.toNat).take (s.2.2.toNat - s.2.1.toNat) = Y
          generalize stp ms gC' cs s = Z
          intro hc hs hY
          simp [VL.bind_ok, VL.bind_er, VL.rs_d, VL.ofO_some, VL.runD_ap, VL.runF_ap, VL.runI, VL.startR, VL.rs, VL.rsL, VL.strL, VL.pick, VL.wipeR, VL.back, VL.noE_o, VL.gVar_ap, VL.gOwn_ap, VL.gC_ap, VL.gOp_ap, VL.gB_ap, VL.gCh_ap, VL.gAndT_ap, VL.gOrT_ap, VL.gNotT_ap, VL.gAnd_ap, VL.gOr_ap, VL.gNot_ap, VL.gIf_ap, VL.gaNil_ap, VL.gaCons_ap, VL.gTup_ap, VL.gLst_ap, VL.gF_ap, VL.gCB_ap, VL.gCBF_ap, VL.gOpF_ap, VL.gTru_ap, VL.gNoPart_ap, VL.gPart_ap, VL.gSl_ap, VL.gSlF_ap, VL.gNil_ap, VL.gSeq_ap, VL.gPass_ap, VL.gBrk_ap, VL.gCont_ap, VL.gExpr_ap, VL.gRet_ap, VL.gRetF_ap, VL.gRetN_ap, VL.gIfS_ap, VL.gSet_ap, VL.gSetF_ap, VL.ggName_ap, VL.ggNil_ap, VL.ggCons_ap, VL.ggTup_ap, VL.gAsg_ap, VL.gIt_ap, VL.gRng_ap, VL.gItS_ap, VL.gFor_ap, VL.gLc_ap, VL.gCall_ap, VL.gCallF_ap, VL.gCallI_ap, VL.gCallK_ap, VL.gUn_ap, VL.gUnF_ap, VL.gDnew_ap, VL.gApp_ap, VL.gSetIx_ap, VL.gYes_ap, VL.gRaise_ap, VL.gSetF'_ap, VL.gMeth_ap, VL.gProp_ap, VL.gMake_ap, VL.gaStar_ap, VL.gPar2F_ap, VL.gSetSl_ap, VL.gDc_ap, VL.gItA_ap, VL.gDisp_ap, hq, hc, itA_l]
          rw [lcL_mapA (cD ∘ gC' (look (mapOf ms s.1)))]
          · simp [VL.bind_ok, VL.bind_er, VL.rs_d, VL.ofO_some, VL.runD_ap, VL.runF_ap, VL.runI, VL.startR, VL.rs, VL.rsL, VL.strL, VL.pick, VL.wipeR, VL.back, VL.noE_o, VL.gVar_ap, VL.gOwn_ap, VL.gC_ap, VL.gOp_ap, VL.gB_ap, VL.gCh_ap, VL.gAndT_ap, VL.gOrT_ap, VL.gNotT_ap, VL.gAnd_ap, VL.gOr_ap, VL.gNot_ap, VL.gIf_ap, VL.gaNil_ap, VL.gaCons_ap, VL.gTup_ap, VL.gLst_ap, VL.gF_ap, VL.gCB_ap, VL.gCBF_ap, VL.gOpF_ap, VL.gTru_ap, VL.gNoPart_ap, VL.gPart_ap, VL.gSl_ap, VL.gSlF_ap, VL.gNil_ap, VL.gSeq_ap, VL.gPass_ap, VL.gBrk_ap, VL.gCont_ap, VL.gExpr_ap, VL.gRet_ap, VL.gRetF_ap, VL.gRetN_ap, VL.gIfS_ap, VL.gSet_ap, VL.gSetF_ap, VL.ggName_ap, VL.ggNil_ap, VL.ggCons_ap, VL.ggTup_ap, VL.gAsg_ap, VL.gIt_ap, VL.gRng_ap, VL.gItS_ap, VL.gFor_ap, VL.gLc_ap, VL.gCall_ap, VL.gCallF_ap, VL.gCallI_ap, VL.gCallK_ap, VL.gUn_ap, VL.gUnF_ap, VL.gDnew_ap, VL.gApp_ap, VL.gSetIx_ap, VL.gYes_ap, VL.gRaise_ap, VL.gSetF'_ap, VL.gMeth_ap, VL.gProp_ap, VL.gMake_ap, VL.gaStar_ap, VL.gPar2F_ap, VL.gSetSl_ap, VL.gDc_ap, VL.gItA_ap, VL.gDisp_ap, hs]
          · intro c hc
            unfold cD
            simp [VL.bind_ok, VL.bind_er, VL.rs_d, VL.ofO_some, VL.runD_ap, VL.runF_ap, VL.runI, VL.startR, VL.rs, VL.rsL, VL.strL, VL.pick, VL.wipeR, VL.back, VL.noE_o, VL.gVar_ap, VL.gOwn_ap, VL.gC_ap, VL.gOp_ap, VL.gB_ap, VL.gCh_ap, VL.gAndT_ap, VL.gOrT_ap, VL.gNotT_ap, VL.gAnd_ap, VL.gOr_ap, VL.gNot_ap, VL.gIf_ap, VL.gaNil_ap, VL.gaCons_ap, VL.gTup_ap, VL.gLst_ap, VL.gF_ap, VL.gCB_ap, VL.gCBF_ap, VL.gOpF_ap, VL.gTru_ap, VL.gNoPart_ap, VL.gPart_ap, VL.gSl_ap, VL.gSlF_ap, VL.gNil_ap, VL.gSeq_ap, VL.gPass_ap, VL.gBrk_ap, VL.gCont_ap, VL.gExpr_ap, VL.gRet_ap, VL.gRetF_ap, VL.gRetN_ap, VL.gIfS_ap, VL.gSet_ap, VL.gSetF_ap, VL.ggName_ap, VL.ggNil_ap, VL.ggCons_ap, VL.ggTup_ap, VL.gAsg_ap, VL.gIt_ap, VL.gRng_ap, VL.gItS_ap, VL.gFor_ap, VL.gLc_ap, VL.gCall_ap, VL.gCallF_ap, VL.gCallI_ap, VL.gCallK_ap, VL.gUn_ap, VL.gUnF_ap, VL.gDnew_ap, VL.gApp_ap, VL.gSetIx_ap, VL.gYes_ap, VL.gRaise_ap, VL.gSetF'_ap, VL.gMeth_ap, VL.gProp_ap, VL.gMake_ap, VL.gaStar_ap, VL.gPar2F_ap, VL.gSetSl_ap, VL.gDc_ap, VL.gItA_ap, VL.gDisp_ap, hix, joined_ok (hY c hc), gC'])
    unfold cells0 at e
    rw [List.map_map] at e
    have e' : (cD ∘ fun i => (i, idL n)) = fun i : Int => D.tup [.int i, iT (idL n)] := rfl
    rw [e'] at e
    rw [e]
    simp [VL.bind_ok, VL.bind_er, VL.rs_d, VL.ofO_some, VL.runD_ap, VL.runF_ap, VL.runI, VL.startR, VL.rs, VL.rsL, VL.strL, VL.pick, VL.wipeR, VL.back, VL.noE_o, VL.gVar_ap, VL.gOwn_ap, VL.gC_ap, VL.gOp_ap, VL.gB_ap, VL.gCh_ap, VL.gAndT_ap, VL.gOrT_ap, VL.gNotT_ap, VL.gAnd_ap, VL.gOr_ap, VL.gNot_ap, VL.gIf_ap, VL.gaNil_ap, VL.gaCons_ap, VL.gTup_ap, VL.gLst_ap, VL.gF_ap, VL.gCB_ap, VL.gCBF_ap, VL.gOpF_ap, VL.gTru_ap, VL.gNoPart_ap, VL.gPart_ap, VL.gSl_ap, VL.gSlF_ap, VL.gNil_ap, VL.gSeq_ap, VL.gPass_ap, VL.gBrk_ap, VL.gCont_ap, VL.gExpr_ap, VL.gRet_ap, VL.gRetF_ap, VL.gRetN_ap, VL.gIfS_ap, VL.gSet_ap, VL.gSetF_ap, VL.ggName_ap, VL.ggNil_ap, VL.ggCons_ap, VL.ggTup_ap, VL.gAsg_ap, VL.gIt_ap, VL.gRng_ap, VL.gItS_ap, VL.gFor_ap, VL.gLc_ap, VL.gCall_ap, VL.gCallF_ap, VL.gCallI_ap, VL.gCallK_ap, VL.gUn_ap, VL.gUnF_ap, VL.gDnew_ap, VL.gApp_ap, VL.gSetIx_ap, VL.gYes_ap, VL.gRaise_ap, VL.gSetF'_ap, VL.gMeth_ap, VL.gProp_ap, VL.gMake_ap, VL.gaStar_ap, VL.gPar2F_ap, VL.gSetSl_ap, VL.gDc_ap, VL.gItA_ap, VL.gDisp_ap, after, cells0]
  · intro i hi
    simp [VL.bind_ok, VL.bind_er, VL.rs_d, VL.ofO_some, VL.runD_ap, VL.runF_ap, VL.runI, VL.startR, VL.rs, VL.rsL, VL.strL, VL.pick, VL.wipeR, VL.back, VL.noE_o, VL.gVar_ap, VL.gOwn_ap, VL.gC_ap, VL.gOp_ap, VL.gB_ap, VL.gCh_ap, VL.gAndT_ap, VL.gOrT_ap, VL.gNotT_ap, VL.gAnd_ap, VL.gOr_ap, VL.gNot_ap, VL.gIf_ap, VL.gaNil_ap, VL.gaCons_ap, VL.gTup_ap, VL.gLst_ap, VL.gF_ap, VL.gCB_ap, VL.gCBF_ap, VL.gOpF_ap, VL.gTru_ap, VL.gNoPart_ap, VL.gPart_ap, VL.gSl_ap, VL.gSlF_ap, VL.gNil_ap, VL.gSeq_ap, VL.gPass_ap, VL.gBrk_ap, VL.gCont_ap, VL.gExpr_ap, VL.gRet_ap, VL.gRetF_ap, VL.gRetN_ap, VL.gIfS_ap, VL.gSet_ap, VL.gSetF_ap, VL.ggName_ap, VL.ggNil_ap, VL.ggCons_ap, VL.ggTup_ap, VL.gAsg_ap, VL.gIt_ap, VL.gRng_ap, VL.gItS_ap, VL.gFor_ap, VL.gLc_ap, VL.gCall_ap, VL.gCallF_ap, VL.gCallI_ap, VL.gCallK_ap, VL.gUn_ap, VL.gUnF_ap, VL.gDnew_ap, VL.gApp_ap, VL.gSetIx_ap, VL.gYes_ap, VL.gRaise_ap, VL.gSetF'_ap, VL.gMeth_ap, VL.gProp_ap, VL.gMake_ap, VL.gaStar_ap, VL.gPar2F_ap, VL.gSetSl_ap, VL.gDc_ap, VL.gItA_ap, VL.gDisp_ap, no_map_ok S.n1 S.n4]
end K34
namespace K34
open PySem PySem.Spec PyProof.Rows L2 VL
def rep1 (m : List Int) : List Int := (List.replicate m.length (m.take 1)).flatten
theorem is_constant_ok {m : List Int} (h : m ≠ []) (hl : m.length ≤ 1000) : F_is_constant [iT m] = .ok (.bl (decide (m = rep1 m))) := by
  have h1 : 1 ≤ m.length := List.length_pos_iff.mpr h
  have hs : slD (iT m) none (some 1) = some (iT (m.take 1)) := by
    show some (D.tup (VL.cutD (m.map D.int) none (some 1))) = _
    unfold VL.cutD
    rw [show HT.sIx (m.map D.int).length (m.map D.int).length (some 1) = 1 by
      rw [show (1 : Int) = ((1 : Nat) : Int) from rfl, HT.sIx_nat, List.length_map]; omega]
    unfold iT
    rw [List.map_take]
    rfl
  have hm : mulD (iT (m.take 1)) (.int m.length) = some (iT (rep1 m)) := by
    have hne : (m.take 1).map D.int ≠ [] := by
      intro e
      have := congrArg List.length e
      rw [List.length_map, List.length_take] at this
      simp only [List.length_nil] at this
      omega
    show (if (m.take 1).map D.int ≠ [] ∧ 1 ≤ (m.length : Int) ∧ (m.length : Int) ≤ 1000 ∧ ((m.take 1).map D.int).length ≤ 1000 then _ else _) = _
    rw [if_pos ⟨hne, by omega, by omega, by rw [List.length_map, List.length_take]; omega⟩]
    unfold rep1 iT
    rw [List.map_flatten, List.map_replicate, Int.toNat_natCast]
  have hd : lenD [iT m] = some (.int m.length) := by
    show some (D.int (m.map D.int).length) = _
    rw [List.length_map]
  unfold F_is_constant g_is_constant
  simp [VL.bind_ok, VL.bind_er, VL.rs_d, VL.ofO_some, VL.runD_ap, VL.runF_ap, VL.runI, VL.startR, VL.rs, VL.rsL, VL.strL, VL.pick, VL.wipeR, VL.back, VL.noE_o, VL.gVar_ap, VL.gOwn_ap, VL.gC_ap, VL.gOp_ap, VL.gB_ap, VL.gCh_ap, VL.gAndT_ap, VL.gOrT_ap, VL.gNotT_ap, VL.gAnd_ap, VL.gOr_ap, VL.gNot_ap, VL.gIf_ap, VL.gaNil_ap, VL.gaCons_ap, VL.gTup_ap, VL.gLst_ap, VL.gF_ap, VL.gCB_ap, VL.gCBF_ap, VL.gOpF_ap, VL.gTru_ap, VL.gNoPart_ap, VL.gPart_ap, VL.gSl_ap, VL.gSlF_ap, VL.gNil_ap, VL.gSeq_ap, VL.gPass_ap, VL.gBrk_ap, VL.gCont_ap, VL.gExpr_ap, VL.gRet_ap, VL.gRetF_ap, VL.gRetN_ap, VL.gIfS_ap, VL.gSet_ap, VL.gSetF_ap, VL.ggName_ap, VL.ggNil_ap, VL.ggCons_ap, VL.ggTup_ap, VL.gAsg_ap, VL.gIt_ap, VL.gRng_ap, VL.gItS_ap, VL.gFor_ap, VL.gLc_ap, VL.gCall_ap, VL.gCallF_ap, VL.gCallI_ap, VL.gCallK_ap, VL.gUn_ap, VL.gUnF_ap, VL.gDnew_ap, VL.gApp_ap, VL.gSetIx_ap, VL.gYes_ap, VL.gRaise_ap, VL.gSetF'_ap, VL.gMeth_ap, VL.gProp_ap, VL.gMake_ap, VL.gaStar_ap, VL.gPar2F_ap, VL.gSetSl_ap, VL.gDc_ap, VL.gItA_ap, VL.gDisp_ap, hs, hd, hm, eqD_iT]
noncomputable def fD (c : Cel) : D := .tup [if c.2 = rep1 c.2 then .non else .int c.1, iT c.2]
theorem tupleD_l (ds : List D) : tupleD [.lst ds] = some (.tup ds) := rfl
section
variable {n : Int} {ms : List (Str × List Int)} {as : List (Str × Mach)} {t : Bool} (S : St n ms) {long : Int} (h0 : 0 ≤ long) (h6 : long ≤ 60) {ss : List Stp} (h : ∀ s ∈ ss, OkS (actsOf ms t) long s) {P : D} (hP : P = .tup (ss.map pD) ∨ P = .lst (ss.map pD))
include S h0 h6 h hP
theorem form_after_ok : F_form_after [sD n ms as t, P, .int long] = .ok (.tup ((after ms n long ss).map fD)) := by
  have hca := cells_after_ok (as := as) S h0 h6 h hP
  have hv := after_cv S h0 h
  revert hca hv
  generalize after ms n long ss = cs
  intro hca hv
  unfold F_form_after g_form_after
  simp [VL.bind_ok, VL.bind_er, VL.rs_d, VL.ofO_some, VL.runD_ap, VL.runF_ap, VL.runI, VL.startR, VL.rs, VL.rsL, VL.strL, VL.pick, VL.wipeR, VL.back, VL.noE_o, VL.gVar_ap, VL.gOwn_ap, VL.gC_ap, VL.gOp_ap, VL.gB_ap, VL.gCh_ap, VL.gAndT_ap, VL.gOrT_ap, VL.gNotT_ap, VL.gAnd_ap, VL.gOr_ap, VL.gNot_ap, VL.gIf_ap, VL.gaNil_ap, VL.gaCons_ap, VL.gTup_ap, VL.gLst_ap, VL.gF_ap, VL.gCB_ap, VL.gCBF_ap, VL.gOpF_ap, VL.gTru_ap, VL.gNoPart_ap, VL.gPart_ap, VL.gSl_ap, VL.gSlF_ap, VL.gNil_ap, VL.gSeq_ap, VL.gPass_ap, VL.gBrk_ap, VL.gCont_ap, VL.gExpr_ap, VL.gRet_ap, VL.gRetF_ap, VL.gRetN_ap, VL.gIfS_ap, VL.gSet_ap, VL.gSetF_ap, VL.ggName_ap, VL.ggNil_ap, VL.ggCons_ap, VL.ggTup_ap, VL.gAsg_ap, VL.gIt_ap, VL.gRng_ap, VL.gItS_ap, VL.gFor_ap, VL.gLc_ap, VL.gCall_ap, VL.gCallF_ap, VL.gCallI_ap, VL.gCallK_ap, VL.gUn_ap, VL.gUnF_ap, VL.gDnew_ap, VL.gApp_ap, VL.gSetIx_ap, VL.gYes_ap, VL.gRaise_ap, VL.gSetF'_ap, VL.gMeth_ap, VL.gProp_ap, VL.gMake_ap, VL.gaStar_ap, VL.gPar2F_ap, VL.gSetSl_ap, VL.gDc_ap, VL.gItA_ap, VL.gDisp_ap, hca, itA_l]
  rw [lcL_mapA fD]
  · simp [VL.bind_ok, VL.bind_er, VL.rs_d, VL.ofO_some, VL.runD_ap, VL.runF_ap, VL.runI, VL.startR, VL.rs, VL.rsL, VL.strL, VL.pick, VL.wipeR, VL.back, VL.noE_o, VL.gVar_ap, VL.gOwn_ap, VL.gC_ap, VL.gOp_ap, VL.gB_ap, VL.gCh_ap, VL.gAndT_ap, VL.gOrT_ap, VL.gNotT_ap, VL.gAnd_ap, VL.gOr_ap, VL.gNot_ap, VL.gIf_ap, VL.gaNil_ap, VL.gaCons_ap, VL.gTup_ap, VL.gLst_ap, VL.gF_ap, VL.gCB_ap, VL.gCBF_ap, VL.gOpF_ap, VL.gTru_ap, VL.gNoPart_ap, VL.gPart_ap, VL.gSl_ap, VL.gSlF_ap, VL.gNil_ap, VL.gSeq_ap, VL.gPass_ap, VL.gBrk_ap, VL.gCont_ap, VL.gExpr_ap, VL.gRet_ap, VL.gRetF_ap, VL.gRetN_ap, VL.gIfS_ap, VL.gSet_ap, VL.gSetF_ap, VL.ggName_ap, VL.ggNil_ap, VL.ggCons_ap, VL.ggTup_ap, VL.gAsg_ap, VL.gIt_ap, VL.gRng_ap, VL.gItS_ap, VL.gFor_ap, VL.gLc_ap, VL.gCall_ap, VL.gCallF_ap, VL.gCallI_ap, VL.gCallK_ap, VL.gUn_ap, VL.gUnF_ap, VL.gDnew_ap, VL.gApp_ap, VL.gSetIx_ap, VL.gYes_ap, VL.gRaise_ap, VL.gSetF'_ap, VL.gMeth_ap, VL.gProp_ap, VL.gMake_ap, VL.gaStar_ap, VL.gPar2F_ap, VL.gSetSl_ap, VL.gDc_ap, VL.gItA_ap, VL.gDisp_ap, tupleD_l]
  · intro c hc
    have := hv.c c hc
    have hn := S.n1
    have hn4 := S.n4
    have hk := is_constant_ok (m := c.2) (fun e => by rw [e] at this; have := this.2.1; simp only [List.length_nil] at this; omega) (by omega)
    unfold cD fD
    simp [VL.bind_ok, VL.bind_er, VL.rs_d, VL.ofO_some, VL.runD_ap, VL.runF_ap, VL.runI, VL.startR, VL.rs, VL.rsL, VL.strL, VL.pick, VL.wipeR, VL.back, VL.noE_o, VL.gVar_ap, VL.gOwn_ap, VL.gC_ap, VL.gOp_ap, VL.gB_ap, VL.gCh_ap, VL.gAndT_ap, VL.gOrT_ap, VL.gNotT_ap, VL.gAnd_ap, VL.gOr_ap, VL.gNot_ap, VL.gIf_ap, VL.gaNil_ap, VL.gaCons_ap, VL.gTup_ap, VL.gLst_ap, VL.gF_ap, VL.gCB_ap, VL.gCBF_ap, VL.gOpF_ap, VL.gTru_ap, VL.gNoPart_ap, VL.gPart_ap, VL.gSl_ap, VL.gSlF_ap, VL.gNil_ap, VL.gSeq_ap, VL.gPass_ap, VL.gBrk_ap, VL.gCont_ap, VL.gExpr_ap, VL.gRet_ap, VL.gRetF_ap, VL.gRetN_ap, VL.gIfS_ap, VL.gSet_ap, VL.gSetF_ap, VL.ggName_ap, VL.ggNil_ap, VL.ggCons_ap, VL.ggTup_ap, VL.gAsg_ap, VL.gIt_ap, VL.gRng_ap, VL.gItS_ap, VL.gFor_ap, VL.gLc_ap, VL.gCall_ap, VL.gCallF_ap, VL.gCallI_ap, VL.gCallK_ap, VL.gUn_ap, VL.gUnF_ap, VL.gDnew_ap, VL.gApp_ap, VL.gSetIx_ap, VL.gYes_ap, VL.gRaise_ap, VL.gSetF'_ap, VL.gMeth_ap, VL.gProp_ap, VL.gMake_ap, VL.gaStar_ap, VL.gPar2F_ap, VL.gSetSl_ap, VL.gDc_ap, VL.gItA_ap, VL.gDisp_ap, hk, truD_b]
    by_cases e : c.2 = rep1 c.2
    · simp [VL.bind_ok, VL.bind_er, VL.rs_d, VL.ofO_some, VL.runD_ap, VL.runF_ap, VL.runI, VL.startR, VL.rs, VL.rsL, VL.strL, VL.pick, VL.wipeR, VL.back, VL.noE_o, VL.gVar_ap, VL.gOwn_ap, VL.gC_ap, VL.gOp_ap, VL.gB_ap, VL.gCh_ap, VL.gAndT_ap, VL.gOrT_ap, VL.gNotT_ap, VL.gAnd_ap, VL.gOr_ap, VL.gNot_ap, VL.gIf_ap, VL.gaNil_ap, VL.gaCons_ap, VL.gTup_ap, VL.gLst_ap, VL.gF_ap, VL.gCB_ap, VL.gCBF_ap, VL.gOpF_ap, VL.gTru_ap, VL.gNoPart_ap, VL.gPart_ap, VL.gSl_ap, VL.gSlF_ap, VL.gNil_ap, VL.gSeq_ap, VL.gPass_ap, VL.gBrk_ap, VL.gCont_ap, VL.gExpr_ap, VL.gRet_ap, VL.gRetF_ap, VL.gRetN_ap, VL.gIfS_ap, VL.gSet_ap, VL.gSetF_ap, VL.ggName_ap, VL.ggNil_ap, VL.ggCons_ap, VL.ggTup_ap, VL.gAsg_ap, VL.gIt_ap, VL.gRng_ap, VL.gItS_ap, VL.gFor_ap, VL.gLc_ap, VL.gCall_ap, VL.gCallF_ap, VL.gCallI_ap, VL.gCallK_ap, VL.gUn_ap, VL.gUnF_ap, VL.gDnew_ap, VL.gApp_ap, VL.gSetIx_ap, VL.gYes_ap, VL.gRaise_ap, VL.gSetF'_ap, VL.gMeth_ap, VL.gProp_ap, VL.gMake_ap, VL.gaStar_ap, VL.gPar2F_ap, VL.gSetSl_ap, VL.gDc_ap, VL.gItA_ap, VL.gDisp_ap, ← e]
    · simp [VL.bind_ok, VL.bind_er, VL.rs_d, VL.ofO_some, VL.runD_ap, VL.runF_ap, VL.runI, VL.startR, VL.rs, VL.rsL, VL.strL, VL.pick, VL.wipeR, VL.back, VL.noE_o, VL.gVar_ap, VL.gOwn_ap, VL.gC_ap, VL.gOp_ap, VL.gB_ap, VL.gCh_ap, VL.gAndT_ap, VL.gOrT_ap, VL.gNotT_ap, VL.gAnd_ap, VL.gOr_ap, VL.gNot_ap, VL.gIf_ap, VL.gaNil_ap, VL.gaCons_ap, VL.gTup_ap, VL.gLst_ap, VL.gF_ap, VL.gCB_ap, VL.gCBF_ap, VL.gOpF_ap, VL.gTru_ap, VL.gNoPart_ap, VL.gPart_ap, VL.gSl_ap, VL.gSlF_ap, VL.gNil_ap, VL.gSeq_ap, VL.gPass_ap, VL.gBrk_ap, VL.gCont_ap, VL.gExpr_ap, VL.gRet_ap, VL.gRetF_ap, VL.gRetN_ap, VL.gIfS_ap, VL.gSet_ap, VL.gSetF_ap, VL.ggName_ap, VL.ggNil_ap, VL.ggCons_ap, VL.ggTup_ap, VL.gAsg_ap, VL.gIt_ap, VL.gRng_ap, VL.gItS_ap, VL.gFor_ap, VL.gLc_ap, VL.gCall_ap, VL.gCallF_ap, VL.gCallI_ap, VL.gCallK_ap, VL.gUn_ap, VL.gUnF_ap, VL.gDnew_ap, VL.gApp_ap, VL.gSetIx_ap, VL.gYes_ap, VL.gRaise_ap, VL.gSetF'_ap, VL.gMeth_ap, VL.gProp_ap, VL.gMake_ap, VL.gaStar_ap, VL.gPar2F_ap, VL.gSetSl_ap, VL.gDc_ap, VL.gItA_ap, VL.gDisp_ap, e]
end
end K34
namespace K34
open PySem PySem.Spec PyProof.Rows L2 VL
/-! what is drawn -/
theorem lg {i : Int} (h0 : 0 ≤ i) (h : i < 2 ^ 100) : i.natAbs.log2 ≤ 100 := by
  by_cases z : i.natAbs = 0
  · rw [z]; decide
  · have : i.natAbs.log2 < 100 := (Nat.log2_lt z).mpr (by omega)
    omega
theorem mulD_int {i j : Int} (h0 : 0 ≤ i) (h1 : i < 2 ^ 100) (g0 : 0 ≤ j) (g1 : j < 2 ^ 100) : mulD (.int i) (.int j) = some (.int (i * j)) := by
  have := lg h0 h1
  have := lg g0 g1
  show (if i.natAbs.log2 + j.natAbs.log2 < 1000000 then _ else _) = _
  rw [if_pos (by omega)]
theorem modD_int {i j : Int} (h : 0 < j) : modD (.int i) (.int j) = some (.int (i % j)) := by
  show (if 0 < j then _ else _) = _
  rw [if_pos h]
theorem addD_int (i j : Int) : addD (.int i) (.int j) = some (.int (i + j)) := rfl
theorem subD_int (i j : Int) : subD (.int i) (.int j) = some (.int (i - j)) := rfl
theorem intD_int (i : Int) : intD [.int i] = some (.int i) := rfl
theorem intD_bl (b : Bool) : intD [.bl b] = some (.int (if b = true then 1 else 0)) := rfl
theorem mixed_ok {b c : Int} (b0 : 0 ≤ b) (b1 : b < 2147483647) (c0 : 0 ≤ c) (c1 : c < 1000000) : ∃ m, F__law_mixed [.int b, .int c] = .ok (.int m) ∧ 0 ≤ m ∧ m < 2147483587 := by
  have m1 := mulD_int (i := b) (j := 1103515245) b0 (by omega) (by omega) (by omega)
  have m2 := mulD_int (i := 7919) (j := c) (by omega) (by omega) c0 (by omega)
  have m3 := mulD_int (i := 7919 * c) (j := c) (by omega) (by omega) c0 (by omega)
  have r1 := Int.emod_nonneg (b * 1103515245 + 7919 * c * c + c + 1) (b := 2147483647) (by omega)
  have r2 := Int.emod_lt_of_pos (b * 1103515245 + 7919 * c * c + c + 1) (b := 2147483647) (by omega)
  have e1 : modD (.int (b * 1103515245 + 7919 * c * c + c + 1)) (.int 2147483647) = some (.int ((b * 1103515245 + 7919 * c * c + c + 1) % 2147483647)) := modD_int (by omega)
  revert e1 r1 r2
  generalize (b * 1103515245 + 7919 * c * c + c + 1) % 2147483647 = x
  intro r1 r2 e1
  have m4 := mulD_int (i := x) (j := x) r1 (by omega) r1 (by omega)
  have s1 := Int.emod_nonneg (x * x + 69621) (b := 2147483629) (by omega)
  have s2 := Int.emod_lt_of_pos (x * x + 69621) (b := 2147483629) (by omega)
  have e2 : modD (.int (x * x + 69621)) (.int 2147483629) = some (.int ((x * x + 69621) % 2147483629)) := modD_int (by omega)
  revert e2 s1 s2
  generalize (x * x + 69621) % 2147483629 = y
  intro s1 s2 e2
  have m5 := mulD_int (i := y) (j := 48271) s1 (by omega) (by omega) (by omega)
  have e3 : modD (.int (y * 48271)) (.int 2147483587) = some (.int (y * 48271 % 2147483587)) := modD_int (by omega)
  refine ⟨_, ?_, Int.emod_nonneg (y * 48271) (by omega), Int.emod_lt_of_pos (y * 48271) (by omega)⟩
  unfold F__law_mixed g__law_mixed
  simp [VL.bind_ok, VL.bind_er, VL.rs_d, VL.ofO_some, VL.runD_ap, VL.runF_ap, VL.runI, VL.startR, VL.rs, VL.rsL, VL.strL, VL.pick, VL.wipeR, VL.back, VL.noE_o, VL.gVar_ap, VL.gOwn_ap, VL.gC_ap, VL.gOp_ap, VL.gB_ap, VL.gCh_ap, VL.gAndT_ap, VL.gOrT_ap, VL.gNotT_ap, VL.gAnd_ap, VL.gOr_ap, VL.gNot_ap, VL.gIf_ap, VL.gaNil_ap, VL.gaCons_ap, VL.gTup_ap, VL.gLst_ap, VL.gF_ap, VL.gCB_ap, VL.gCBF_ap, VL.gOpF_ap, VL.gTru_ap, VL.gNoPart_ap, VL.gPart_ap, VL.gSl_ap, VL.gSlF_ap, VL.gNil_ap, VL.gSeq_ap, VL.gPass_ap, VL.gBrk_ap, VL.gCont_ap, VL.gExpr_ap, VL.gRet_ap, VL.gRetF_ap, VL.gRetN_ap, VL.gIfS_ap, VL.gSet_ap, VL.gSetF_ap, VL.ggName_ap, VL.ggNil_ap, VL.ggCons_ap, VL.ggTup_ap, VL.gAsg_ap, VL.gIt_ap, VL.gRng_ap, VL.gItS_ap, VL.gFor_ap, VL.gLc_ap, VL.gCall_ap, VL.gCallF_ap, VL.gCallI_ap, VL.gCallK_ap, VL.gUn_ap, VL.gUnF_ap, VL.gDnew_ap, VL.gApp_ap, VL.gSetIx_ap, VL.gYes_ap, VL.gRaise_ap, VL.gSetF'_ap, VL.gMeth_ap, VL.gProp_ap, VL.gMake_ap, VL.gaStar_ap, VL.gPar2F_ap, VL.gSetSl_ap, VL.gDc_ap, VL.gItA_ap, VL.gDisp_ap, m1, m2, m3, addD_int, intD_int, e1, m4, e2, m5, e3]
def pu (a b c : Int) : D := .lst [.int a, .int b, .int c]
def PU (k : Nat) (d : D) : Prop := ∃ a b c, d = pu a b c ∧ 0 ≤ b ∧ b < 2147483647 ∧ 0 ≤ c ∧ c ≤ k
theorem PU.mono {k j : Nat} {d : D} (h : PU k d) (hk : k ≤ j) : PU j d := by
  obtain ⟨a, b, c, e, b0, b1, c0, c1⟩ := h
  exact ⟨a, b, c, e, b0, b1, c0, by omega⟩
theorem bits_lt {n : Int} (h0 : 0 ≤ n) (h : n < 536870912) : ((Builtin.Int.intBits n : Nat) : Int) / 30 = 0 := by
  have : Builtin.Int.intBits n < 30 := by
    unfold Builtin.Int.intBits
    split
    · omega
    · rename_i hz
      have hz : n.natAbs ≠ 0 := fun e => hz (by rw [Int.natAbs_eq_zero.mp e]; rfl)
      have := (Nat.log2_lt hz (k := 29)).mpr (by omega)
      omega
  omega
theorem draw_ok {k : Nat} {d : D} (h : PU k d) (hk : k < 999999) {n : Int} (n0 : 1 ≤ n) (n1 : n < 536870912) : ∃ r d', F__law_draw [d, .int n] = .ok (.int r, d') ∧ 0 ≤ r ∧ r ≤ n - 1 ∧ PU (k + 1) d' := by
  obtain ⟨a, b, c, rfl, b0, b1, c0, c1⟩ := h
  have x0 : ixD (pu a b c) (.int 0) = some (.int a) := rfl
  have x1 : ixD (pu a b c) (.int 1) = some (.int b) := rfl
  have x2 : ixD (pu a b c) (.int 2) = some (.int c) := rfl
  have g : gtD (.int a) (.int 0) = some (.bl (decide (0 < a))) := rfl
  by_cases ha : 0 < a
  · rw [decide_eq_true ha] at g
    have e1 : modD (.int a) (.int n) = some (.int (a % n)) := modD_int (by omega)
    have e2 : fdivD (.int a) (.int n) = some (.int (a / n)) := by
      show (if 0 < n ∧ n < 1073741824 then _ else _) = _
      rw [if_pos ⟨by omega, by omega⟩]
    have e3 : stD (pu a b c) (.int 0) (.int (a / n)) = some (pu (a / n) b c) := rfl
    refine ⟨a % n, pu (a / n) b c, ?_, Int.emod_nonneg a (by omega), by have := Int.emod_lt_of_pos a (show 0 < n by omega); omega, ⟨_, _, _, rfl, b0, b1, c0, by omega⟩⟩
    unfold F__law_draw g__law_draw
    simp [VL.bind_ok, VL.bind_er, VL.rs_d, VL.ofO_some, VL.runD_ap, VL.runF_ap, VL.runI, VL.startR, VL.rs, VL.rsL, VL.strL, VL.pick, VL.wipeR, VL.back, VL.noE_o, VL.gVar_ap, VL.gOwn_ap, VL.gC_ap, VL.gOp_ap, VL.gB_ap, VL.gCh_ap, VL.gAndT_ap, VL.gOrT_ap, VL.gNotT_ap, VL.gAnd_ap, VL.gOr_ap, VL.gNot_ap, VL.gIf_ap, VL.gaNil_ap, VL.gaCons_ap, VL.gTup_ap, VL.gLst_ap, VL.gF_ap, VL.gCB_ap, VL.gCBF_ap, VL.gOpF_ap, VL.gTru_ap, VL.gNoPart_ap, VL.gPart_ap, VL.gSl_ap, VL.gSlF_ap, VL.gNil_ap, VL.gSeq_ap, VL.gPass_ap, VL.gBrk_ap, VL.gCont_ap, VL.gExpr_ap, VL.gRet_ap, VL.gRetF_ap, VL.gRetN_ap, VL.gIfS_ap, VL.gSet_ap, VL.gSetF_ap, VL.ggName_ap, VL.ggNil_ap, VL.ggCons_ap, VL.ggTup_ap, VL.gAsg_ap, VL.gIt_ap, VL.gRng_ap, VL.gItS_ap, VL.gFor_ap, VL.gLc_ap, VL.gCall_ap, VL.gCallF_ap, VL.gCallI_ap, VL.gCallK_ap, VL.gUn_ap, VL.gUnF_ap, VL.gDnew_ap, VL.gApp_ap, VL.gSetIx_ap, VL.gYes_ap, VL.gRaise_ap, VL.gSetF'_ap, VL.gMeth_ap, VL.gProp_ap, VL.gMake_ap, VL.gaStar_ap, VL.gPar2F_ap, VL.gSetSl_ap, VL.gDc_ap, VL.gItA_ap, VL.gDisp_ap, x0, g, e1, e2, e3, intD_int]
  · rw [decide_eq_false ha] at g
    obtain ⟨m, hm, m0, m1⟩ := mixed_ok (b := b) (c := c + 1) b0 b1 (by omega) (by omega)
    have f0 : fdivD (.int (Builtin.Int.intBits n : Nat)) (.int 30) = some (.int ((Builtin.Int.intBits n : Nat) / 30 : Int)) := rfl
    rw [bits_lt (by omega) n1] at f0
    have f1 : bitsD (.int n) = some (.int (Builtin.Int.intBits n : Nat)) := rfl
    have f2 : rng1 [.d (.int (1 + 0))] = some [.int 0] := rfl
    have f3 : stD (pu a b c) (.int 2) (.int (c + 1)) = some (pu a b (c + 1)) := rfl
    have f4 : mulD (.int 0) (.int 2147483587) = some (.int 0) := mulD_int (by omega) (by omega) (by omega) (by omega)
    have y1 : ixD (pu a b (c + 1)) (.int 1) = some (.int b) := rfl
    have y2 : ixD (pu a b (c + 1)) (.int 2) = some (.int (c + 1)) := rfl
    have f5 : modD (.int (0 + m)) (.int n) = some (.int ((0 + m) % n)) := modD_int (by omega)
    simp only [Int.add_zero, Int.zero_add] at f2 f5
    refine ⟨m % n, pu a b (c + 1), ?_, Int.emod_nonneg m (by omega), by have := Int.emod_lt_of_pos m (show 0 < n by omega); omega, ⟨_, _, _, rfl, b0, b1, by omega, by omega⟩⟩
    unfold F__law_draw g__law_draw
    simp [VL.bind_ok, VL.bind_er, VL.rs_d, VL.ofO_some, VL.runD_ap, VL.runF_ap, VL.runI, VL.startR, VL.rs, VL.rsL, VL.strL, VL.pick, VL.wipeR, VL.back, VL.noE_o, VL.gVar_ap, VL.gOwn_ap, VL.gC_ap, VL.gOp_ap, VL.gB_ap, VL.gCh_ap, VL.gAndT_ap, VL.gOrT_ap, VL.gNotT_ap, VL.gAnd_ap, VL.gOr_ap, VL.gNot_ap, VL.gIf_ap, VL.gaNil_ap, VL.gaCons_ap, VL.gTup_ap, VL.gLst_ap, VL.gF_ap, VL.gCB_ap, VL.gCBF_ap, VL.gOpF_ap, VL.gTru_ap, VL.gNoPart_ap, VL.gPart_ap, VL.gSl_ap, VL.gSlF_ap, VL.gNil_ap, VL.gSeq_ap, VL.gPass_ap, VL.gBrk_ap, VL.gCont_ap, VL.gExpr_ap, VL.gRet_ap, VL.gRetF_ap, VL.gRetN_ap, VL.gIfS_ap, VL.gSet_ap, VL.gSetF_ap, VL.ggName_ap, VL.ggNil_ap, VL.ggCons_ap, VL.ggTup_ap, VL.gAsg_ap, VL.gIt_ap, VL.gRng_ap, VL.gItS_ap, VL.gFor_ap, VL.gLc_ap, VL.gCall_ap, VL.gCallF_ap, VL.gCallI_ap, VL.gCallK_ap, VL.gUn_ap, VL.gUnF_ap, VL.gDnew_ap, VL.gApp_ap, VL.gSetIx_ap, VL.gYes_ap, VL.gRaise_ap, VL.gSetF'_ap, VL.gMeth_ap, VL.gProp_ap, VL.gMake_ap, VL.gaStar_ap, VL.gPar2F_ap, VL.gSetSl_ap, VL.gDc_ap, VL.gItA_ap, VL.gDisp_ap, x0, x1, x2, g, f1, f0, f2, addD_int, intD_int, forL, f3, f4, y1, y2, hm, f5]
/-! the purse -/
theorem at_ok {ns : List Int} {k : Nat} : ∃ x, F__law_at [.frl (ns.map .int), .int k] = .ok (.int x) := by
  have hl : lenD [.frl (ns.map .int)] = some (.int ns.length) := by
    show some (D.int (ns.map D.int).length) = _
    rw [List.length_map]
  have g : ltD (.int k) (.int ns.length) = some (.bl (decide ((k : Int) < ns.length))) := rfl
  unfold F__law_at g__law_at
  by_cases h : (k : Int) < ns.length
  · rw [decide_eq_true h] at g
    have e : ixD (.frl (ns.map .int)) (.int k) = some (.int (ns[k]'(by omega))) := by
      show atI (ns.map D.int) (k : Int) = _
      rw [VL.atI_nat, List.getElem?_map, List.getElem?_eq_getElem (by omega)]
      rfl
    exact ⟨_, by simp [VL.bind_ok, VL.bind_er, VL.rs_d, VL.ofO_some, VL.runD_ap, VL.runF_ap, VL.runI, VL.startR, VL.rs, VL.rsL, VL.strL, VL.pick, VL.wipeR, VL.back, VL.noE_o, VL.gVar_ap, VL.gOwn_ap, VL.gC_ap, VL.gOp_ap, VL.gB_ap, VL.gCh_ap, VL.gAndT_ap, VL.gOrT_ap, VL.gNotT_ap, VL.gAnd_ap, VL.gOr_ap, VL.gNot_ap, VL.gIf_ap, VL.gaNil_ap, VL.gaCons_ap, VL.gTup_ap, VL.gLst_ap, VL.gF_ap, VL.gCB_ap, VL.gCBF_ap, VL.gOpF_ap, VL.gTru_ap, VL.gNoPart_ap, VL.gPart_ap, VL.gSl_ap, VL.gSlF_ap, VL.gNil_ap, VL.gSeq_ap, VL.gPass_ap, VL.gBrk_ap, VL.gCont_ap, VL.gExpr_ap, VL.gRet_ap, VL.gRetF_ap, VL.gRetN_ap, VL.gIfS_ap, VL.gSet_ap, VL.gSetF_ap, VL.ggName_ap, VL.ggNil_ap, VL.ggCons_ap, VL.ggTup_ap, VL.gAsg_ap, VL.gIt_ap, VL.gRng_ap, VL.gItS_ap, VL.gFor_ap, VL.gLc_ap, VL.gCall_ap, VL.gCallF_ap, VL.gCallI_ap, VL.gCallK_ap, VL.gUn_ap, VL.gUnF_ap, VL.gDnew_ap, VL.gApp_ap, VL.gSetIx_ap, VL.gYes_ap, VL.gRaise_ap, VL.gSetF'_ap, VL.gMeth_ap, VL.gProp_ap, VL.gMake_ap, VL.gaStar_ap, VL.gPar2F_ap, VL.gSetSl_ap, VL.gDc_ap, VL.gItA_ap, VL.gDisp_ap, hl, g, e]; rfl⟩
  · rw [decide_eq_false h] at g
    exact ⟨0, by simp [VL.bind_ok, VL.bind_er, VL.rs_d, VL.ofO_some, VL.runD_ap, VL.runF_ap, VL.runI, VL.startR, VL.rs, VL.rsL, VL.strL, VL.pick, VL.wipeR, VL.back, VL.noE_o, VL.gVar_ap, VL.gOwn_ap, VL.gC_ap, VL.gOp_ap, VL.gB_ap, VL.gCh_ap, VL.gAndT_ap, VL.gOrT_ap, VL.gNotT_ap, VL.gAnd_ap, VL.gOr_ap, VL.gNot_ap, VL.gIf_ap, VL.gaNil_ap, VL.gaCons_ap, VL.gTup_ap, VL.gLst_ap, VL.gF_ap, VL.gCB_ap, VL.gCBF_ap, VL.gOpF_ap, VL.gTru_ap, VL.gNoPart_ap, VL.gPart_ap, VL.gSl_ap, VL.gSlF_ap, VL.gNil_ap, VL.gSeq_ap, VL.gPass_ap, VL.gBrk_ap, VL.gCont_ap, VL.gExpr_ap, VL.gRet_ap, VL.gRetF_ap, VL.gRetN_ap, VL.gIfS_ap, VL.gSet_ap, VL.gSetF_ap, VL.ggName_ap, VL.ggNil_ap, VL.ggCons_ap, VL.ggTup_ap, VL.gAsg_ap, VL.gIt_ap, VL.gRng_ap, VL.gItS_ap, VL.gFor_ap, VL.gLc_ap, VL.gCall_ap, VL.gCallF_ap, VL.gCallI_ap, VL.gCallK_ap, VL.gUn_ap, VL.gUnF_ap, VL.gDnew_ap, VL.gApp_ap, VL.gSetIx_ap, VL.gYes_ap, VL.gRaise_ap, VL.gSetF'_ap, VL.gMeth_ap, VL.gProp_ap, VL.gMake_ap, VL.gaStar_ap, VL.gPar2F_ap, VL.gSetSl_ap, VL.gDc_ap, VL.gItA_ap, VL.gDisp_ap, hl, g]⟩
theorem powD_of {i j r : Int} (h : 0 ≤ j ∧ ((Builtin.Int.intBits i : Nat) : Int) * j ≤ 2 ^ 27) (e : i ^ j.toNat = r) : powD (.int i) (.int j) = some (.int r) := by
  show (if 0 ≤ j ∧ ((Builtin.Int.intBits i : Nat) : Int) * j ≤ 2 ^ 27 then _ else _) = _
  rw [if_pos h, e]
theorem purse_ok {ns : List Int} {k : Nat} (hk : k < 100) : ∃ d, F__law_purse [.frl (ns.map .int), .int k] = .ok d ∧ PU (1000 * k) d := by
  obtain ⟨x, hx⟩ := at_ok (ns := ns) (k := k)
  have p1 : powD (.int 10) (.int 18) = some (.int (10 ^ 18)) := powD_of (by decide +kernel) (by decide +kernel)
  have p2 : powD (.int 10) (.int 60) = some (.int (10 ^ 60)) := powD_of (by decide +kernel) (by decide +kernel)
  have p3 : powD (.int (10 ^ 60)) (.int 10) = some (.int (10 ^ 600)) := powD_of (by decide +kernel) (by decide +kernel)
  have mx : maxD [.int (x - 10 ^ 18), .int 0] = some (.int (if 0 > x - 10 ^ 18 then 0 else x - 10 ^ 18)) := rfl
  have e1 : modD (.int (if 0 > x - 10 ^ 18 then 0 else x - 10 ^ 18)) (.int (10 ^ 600)) = some (.int ((if 0 > x - 10 ^ 18 then 0 else x - 10 ^ 18) % 10 ^ 600)) := modD_int (by decide +kernel)
  have e2 : modD (.int x) (.int 2147483647) = some (.int (x % 2147483647)) := modD_int (by omega)
  have e3 : mulD (.int 1000) (.int k) = some (.int (1000 * k)) := mulD_int (by omega) (by omega) (by omega) (by omega)
  have hs := subD_int x (10 ^ 18)
  revert p1 p2 p3 mx e1 hs
  generalize (10 : Int) ^ 18 = A
  generalize (10 : Int) ^ 60 = B
  generalize (10 : Int) ^ 600 = B'
  intro p1 p2 p3
  generalize (if 0 > x - A then 0 else x - A) = y
  generalize x - A = z
  intro mx e1 hs
  refine ⟨pu (y % B') (x % 2147483647) (1000 * k), ?_, _, _, _, rfl, Int.emod_nonneg x (by omega), Int.emod_lt_of_pos x (by omega), by omega, by omega⟩
  unfold F__law_purse g__law_purse
  simp [VL.bind_ok, VL.bind_er, VL.rs_d, VL.ofO_some, VL.runD_ap, VL.runF_ap, VL.runI, VL.startR, VL.rs, VL.rsL, VL.strL, VL.pick, VL.wipeR, VL.back, VL.noE_o, VL.gVar_ap, VL.gOwn_ap, VL.gC_ap, VL.gOp_ap, VL.gB_ap, VL.gCh_ap, VL.gAndT_ap, VL.gOrT_ap, VL.gNotT_ap, VL.gAnd_ap, VL.gOr_ap, VL.gNot_ap, VL.gIf_ap, VL.gaNil_ap, VL.gaCons_ap, VL.gTup_ap, VL.gLst_ap, VL.gF_ap, VL.gCB_ap, VL.gCBF_ap, VL.gOpF_ap, VL.gTru_ap, VL.gNoPart_ap, VL.gPart_ap, VL.gSl_ap, VL.gSlF_ap, VL.gNil_ap, VL.gSeq_ap, VL.gPass_ap, VL.gBrk_ap, VL.gCont_ap, VL.gExpr_ap, VL.gRet_ap, VL.gRetF_ap, VL.gRetN_ap, VL.gIfS_ap, VL.gSet_ap, VL.gSetF_ap, VL.ggName_ap, VL.ggNil_ap, VL.ggCons_ap, VL.ggTup_ap, VL.gAsg_ap, VL.gIt_ap, VL.gRng_ap, VL.gItS_ap, VL.gFor_ap, VL.gLc_ap, VL.gCall_ap, VL.gCallF_ap, VL.gCallI_ap, VL.gCallK_ap, VL.gUn_ap, VL.gUnF_ap, VL.gDnew_ap, VL.gApp_ap, VL.gSetIx_ap, VL.gYes_ap, VL.gRaise_ap, VL.gSetF'_ap, VL.gMeth_ap, VL.gProp_ap, VL.gMake_ap, VL.gaStar_ap, VL.gPar2F_ap, VL.gSetSl_ap, VL.gDc_ap, VL.gItA_ap, VL.gDisp_ap, hx, p1, p2, p3, mx, e1, e2, e3, hs, intD_int, pu]
end K34
namespace K34
open PySem PySem.Spec PyProof.Rows L2 VL
/-! the law's own words -/
theorem mem_ded {y : Int} : ∀ {m : List Int}, y ∈ ded m ↔ y ∈ m
  | [] => Iff.rfl
  | x :: m => by
    show y ∈ (if x ∈ m then ded m else x :: ded m) ↔ _
    by_cases h : x ∈ m
    · rw [if_pos h, mem_ded, List.mem_cons]
      exact ⟨.inr, fun z => z.elim (fun e => e ▸ h) id⟩
    · rw [if_neg h, List.mem_cons, List.mem_cons, mem_ded]
theorem ded_one {z : Int} : ∀ {m : List Int}, m ≠ [] → (∀ y ∈ m, y = z) → ded m = [z]
  | [], h, _ => absurd rfl h
  | [x], _, h => by
    rw [h x List.mem_cons_self]
    rfl
  | x :: y :: m, _, h => by
    have e := h x List.mem_cons_self
    have e2 := h y (List.mem_cons_of_mem _ List.mem_cons_self)
    show (if x ∈ y :: m then ded (y :: m) else x :: ded (y :: m)) = _
    rw [if_pos (by rw [e, e2]; exact List.mem_cons_self)]
    exact ded_one (List.cons_ne_nil _ _) fun w hw => h w (List.mem_cons_of_mem _ hw)
theorem rep1_cons (x : Int) (m : List Int) : rep1 (x :: m) = List.replicate (m.length + 1) x := by
  unfold rep1
  show (List.replicate (m.length + 1) [x]).flatten = _
  generalize m.length + 1 = k
  induction k with
  | zero => rfl
  | succ k ih => rw [List.replicate_succ, List.flatten_cons, ih, List.replicate_succ]; rfl
theorem const_iff {m : List Int} (h : m ≠ []) : (((ded m).length : Nat) : Int) = 1 ↔ m = rep1 m := by
  cases m with
  | nil => exact absurd rfl h
  | cons x m =>
    rw [rep1_cons]
    constructor
    · intro e
      have e : (ded (x :: m)).length = 1 := by omega
      obtain ⟨z, hz⟩ := List.length_eq_one_iff.mp e
      have all : ∀ y ∈ x :: m, y = z := fun y hy => by
        have := mem_ded.mpr hy
        rw [hz] at this
        exact List.mem_singleton.mp this
      refine List.eq_replicate_iff.mpr ⟨rfl, fun y hy => ?_⟩
      rw [all y hy, all x List.mem_cons_self]
    · intro e
      rw [ded_one (z := x) (List.cons_ne_nil _ _) (List.eq_replicate_iff.mp e).2]
      rfl
def gI (f : Int → Int) (x : Int) : Int := f x
/-- the line that a list of cells gives -/
def lin (row : List Int) (c : Cel) : Int := look c.2 (look row c.1)
theorem look_map {f : Int → Int} {m : List Int} {x : Int} (h0 : 0 ≤ x) (h1 : x < m.length) : look (m.map f) x = f (look m x) := by
  unfold look
  rw [List.getD_eq_getElem?_getD, List.getD_eq_getElem?_getD, List.getElem?_map, List.getElem?_eq_getElem (by omega)]
  rfl
theorem row_look {n : Int} {row : List Int} (h : IsRow n row) {i : Int} (h0 : 0 ≤ i) (h1 : i < row.length) : 0 ≤ look row i ∧ look row i ≤ n - 1 := by
  unfold look
  rw [List.getD_eq_getElem?_getD, List.getElem?_eq_getElem (by omega)]
  exact h _ (List.getElem_mem _)
theorem stp_lin {n long : Int} {ms : List (Str × List Int)} {row : List Int} (hr : IsRow n row) (hl : (row.length : Int) = long) {cs : List Cel} (v : CV n long cs) (s : Stp) : stp ms gI (cs.map (lin row)) s = (stp ms gC' cs s).map (lin row) := by
  unfold stp
  rw [List.map_append, List.map_append, List.map_take, List.map_drop, ← List.map_drop, ← List.map_take]
  congr 2
  rw [← List.map_take]
  unfold mid
  by_cases e : s.1 = ("turn" : Str)
  · rw [if_pos e, if_pos e, List.map_reverse]
  · rw [if_neg e, if_neg e, List.map_map, List.map_map]
    refine List.map_congr_left fun c hc => ?_
    have := v.c c (List.mem_of_mem_drop (List.mem_of_mem_take hc))
    have hb := row_look hr this.2.2.1 (by omega)
    exact (look_map (f := look (mapOf ms s.1)) (m := c.2) hb.1 (by omega)).symm
theorem lin0 {n long : Int} {row : List Int} (hr : IsRow n row) (hl : (row.length : Int) = long) (n1 : 1 ≤ n) : (cells0 n long).map (lin row) = row := by
  unfold cells0 cells0.rangeI
  rw [List.map_map, List.map_map]
  apply List.ext_getElem
  · rw [List.length_map, List.length_range]
    omega
  · intro i h1 h2
    rw [List.getElem_map, List.getElem_range]
    show look (idL n) (look row (0 + (i : Int))) = _
    have hb := row_look hr (i := 0 + (i : Int)) (by omega) (by omega)
    have e : look row (0 + (i : Int)) = row[i] := by
      unfold look
      rw [List.getD_eq_getElem?_getD, show (0 + (i : Int)).toNat = i by omega, List.getElem?_eq_getElem h2]
      rfl
    rw [e] at hb ⊢
    unfold look idL
    rw [List.getD_eq_getElem?_getD, List.getElem?_map, List.getElem?_eq_getElem (by rw [List.length_range]; omega), List.getElem_range]
    show (0 : Int) + ((row[i]).toNat : Int) = row[i]
    omega
theorem ran_eq {n long : Int} {ms : List (Str × List Int)} (S : St n ms) {t : Bool} (h0 : 0 ≤ long) {ss : List Stp} (h : ∀ s ∈ ss, OkS (actsOf ms t) long s) {row : List Int} (hr : IsRow n row) (hl : (row.length : Int) = long) : ss.foldl (stp ms gI) row = (after ms n long ss).map (lin row) := by
  have : ∀ (ss : List Stp) (cs : List Cel), (∀ s ∈ ss, OkS (actsOf ms t) long s) → CV n long cs → ss.foldl (stp ms gI) (cs.map (lin row)) = (ss.foldl (stp ms gC') cs).map (lin row) := fun ss => by
    induction ss with
    | nil => exact fun _ _ _ => rfl
    | cons s ss ih =>
      intro cs h v
      rw [List.foldl_cons, List.foldl_cons, stp_lin hr hl v]
      exact ih _ (fun s hs => h s (List.mem_cons_of_mem _ hs)) (stp_cv S (h s List.mem_cons_self) v)
  have := this ss (cells0 n long) h (cells0_cv h0 S.n1)
  rw [lin0 hr hl S.n1] at this
  exact this
def oD (n : Int) (ms : List (Str × List Int)) (as : List (Str × Mach)) (t : Bool) : D := .lst [.int n, dS iT ms, dS mT as, .bl t]
section
variable {n : Int} {ms : List (Str × List Int)} {as : List (Str × Mach)} {t : Bool}
theorem o0 : ixD (oD n ms as t) (.int 0) = some (.int n) := rfl
theorem o1 : ixD (oD n ms as t) (.int 1) = some (dS iT ms) := rfl
theorem o2 : ixD (oD n ms as t) (.int 2) = some (dS mT as) := rfl
theorem o3 : ixD (oD n ms as t) (.int 3) = some (.bl t) := rfl
theorem law_deeds_ok (hl : ms.length < 60) : F__law_deeds [oD n ms as t] = .ok (.lst ((actsOf ms t).map .str)) := by
  unfold F__law_deeds g__law_deeds
  cases t with
  | true =>
    have e1 : mulF (.lst [.str "turn"]) (.int 1) = some (.lst [.str "turn"]) := rfl
    have e2 : addF (.lst ((ms.map (·.1)).map .str)) (.lst [.str "turn"]) = some (.lst ((ms.map (·.1) ++ [("turn" : Str)]).map .str)) := by
      show (if ((ms.map (·.1)).map D.str).length + 1 ≤ big then _ else _) = _
      rw [if_pos (by rw [List.length_map, List.length_map]; unfold big; omega), List.map_append]
      rfl
    have e3 := sortF_s (xs := ms.map (·.1) ++ [("turn" : Str)]) (by rw [List.length_append, List.length_map]; show ms.length + 1 < 64; omega)
    have e4 := listF_dS ms
    have e5 : actsOf ms true = sortS (ms.map (·.1) ++ [("turn" : Str)]) := rfl
    rw [e5]
    revert e2 e3
    generalize sortS (ms.map (·.1) ++ [("turn" : Str)]) = Z
    generalize ((ms.map (·.1) ++ [("turn" : Str)]).map D.str) = Y
    revert e4
    generalize (ms.map (·.1)).map D.str = Y'
    intro e4 e2 e3
    simp [VL.bind_ok, VL.bind_er, VL.rs_d, VL.ofO_some, VL.runD_ap, VL.runF_ap, VL.runI, VL.startR, VL.rs, VL.rsL, VL.strL, VL.pick, VL.wipeR, VL.back, VL.noE_o, VL.gVar_ap, VL.gOwn_ap, VL.gC_ap, VL.gOp_ap, VL.gB_ap, VL.gCh_ap, VL.gAndT_ap, VL.gOrT_ap, VL.gNotT_ap, VL.gAnd_ap, VL.gOr_ap, VL.gNot_ap, VL.gIf_ap, VL.gaNil_ap, VL.gaCons_ap, VL.gTup_ap, VL.gLst_ap, VL.gF_ap, VL.gCB_ap, VL.gCBF_ap, VL.gOpF_ap, VL.gTru_ap, VL.gNoPart_ap, VL.gPart_ap, VL.gSl_ap, VL.gSlF_ap, VL.gNil_ap, VL.gSeq_ap, VL.gPass_ap, VL.gBrk_ap, VL.gCont_ap, VL.gExpr_ap, VL.gRet_ap, VL.gRetF_ap, VL.gRetN_ap, VL.gIfS_ap, VL.gSet_ap, VL.gSetF_ap, VL.ggName_ap, VL.ggNil_ap, VL.ggCons_ap, VL.ggTup_ap, VL.gAsg_ap, VL.gIt_ap, VL.gRng_ap, VL.gItS_ap, VL.gFor_ap, VL.gLc_ap, VL.gCall_ap, VL.gCallF_ap, VL.gCallI_ap, VL.gCallK_ap, VL.gUn_ap, VL.gUnF_ap, VL.gDnew_ap, VL.gApp_ap, VL.gSetIx_ap, VL.gYes_ap, VL.gRaise_ap, VL.gSetF'_ap, VL.gMeth_ap, VL.gProp_ap, VL.gMake_ap, VL.gaStar_ap, VL.gPar2F_ap, VL.gSetSl_ap, VL.gDc_ap, VL.gItA_ap, VL.gDisp_ap, o1, o3, intD_bl, e4, e1, e2, e3]
  | false =>
    have e1 : mulF (.lst [.str "turn"]) (.int 0) = some (.lst []) := rfl
    have e2 : addF (.lst ((ms.map (·.1)).map .str)) (.lst []) = some (.lst ((ms.map (·.1)).map .str)) := by
      show (if ((ms.map (·.1)).map D.str).length + 0 ≤ big then _ else _) = _
      rw [if_pos (by rw [List.length_map, List.length_map]; unfold big; omega), List.append_nil]
    have e3 := sortF_s (xs := ms.map (·.1)) (by rw [List.length_map]; omega)
    have e4 := listF_dS ms
    have e5 : actsOf ms false = sortS (ms.map (·.1) ++ []) := rfl
    rw [e5, List.append_nil]
    revert e2 e3 e4
    generalize sortS (ms.map (·.1)) = Z
    generalize (ms.map (·.1)).map D.str = Y'
    intro e2 e3 e4
    simp [VL.bind_ok, VL.bind_er, VL.rs_d, VL.ofO_some, VL.runD_ap, VL.runF_ap, VL.runI, VL.startR, VL.rs, VL.rsL, VL.strL, VL.pick, VL.wipeR, VL.back, VL.noE_o, VL.gVar_ap, VL.gOwn_ap, VL.gC_ap, VL.gOp_ap, VL.gB_ap, VL.gCh_ap, VL.gAndT_ap, VL.gOrT_ap, VL.gNotT_ap, VL.gAnd_ap, VL.gOr_ap, VL.gNot_ap, VL.gIf_ap, VL.gaNil_ap, VL.gaCons_ap, VL.gTup_ap, VL.gLst_ap, VL.gF_ap, VL.gCB_ap, VL.gCBF_ap, VL.gOpF_ap, VL.gTru_ap, VL.gNoPart_ap, VL.gPart_ap, VL.gSl_ap, VL.gSlF_ap, VL.gNil_ap, VL.gSeq_ap, VL.gPass_ap, VL.gBrk_ap, VL.gCont_ap, VL.gExpr_ap, VL.gRet_ap, VL.gRetF_ap, VL.gRetN_ap, VL.gIfS_ap, VL.gSet_ap, VL.gSetF_ap, VL.ggName_ap, VL.ggNil_ap, VL.ggCons_ap, VL.ggTup_ap, VL.gAsg_ap, VL.gIt_ap, VL.gRng_ap, VL.gItS_ap, VL.gFor_ap, VL.gLc_ap, VL.gCall_ap, VL.gCallF_ap, VL.gCallI_ap, VL.gCallK_ap, VL.gUn_ap, VL.gUnF_ap, VL.gDnew_ap, VL.gApp_ap, VL.gSetIx_ap, VL.gYes_ap, VL.gRaise_ap, VL.gSetF'_ap, VL.gMeth_ap, VL.gProp_ap, VL.gMake_ap, VL.gaStar_ap, VL.gPar2F_ap, VL.gSetSl_ap, VL.gDc_ap, VL.gItA_ap, VL.gDisp_ap, o1, o3, intD_bl, e4, e1, e2, e3]
end
end K34
namespace K34
open PySem PySem.Spec PyProof.Rows L2 VL
theorem cut_lo {xs : List D} {f : Int} (h0 : 0 ≤ f) (h1 : f ≤ xs.length) : VL.cutD xs none (some f) = xs.take f.toNat := by
  obtain ⟨a, rfl⟩ := Int.eq_ofNat_of_zero_le h0
  unfold VL.cutD
  rw [HT.sIx_nat, HT.sIx_none, Nat.min_eq_left (by omega)]
  rfl
theorem cut_hi {xs : List D} {f : Int} (h0 : 0 ≤ f) (h1 : f ≤ xs.length) : VL.cutD xs (some f) none = xs.drop f.toNat := by
  obtain ⟨a, rfl⟩ := Int.eq_ofNat_of_zero_le h0
  unfold VL.cutD
  rw [HT.sIx_nat, HT.sIx_none, Nat.min_eq_left (by omega), List.take_of_length_le (by rw [List.length_drop]; exact Nat.le_refl _)]
  rfl
theorem addD_t {a b : List D} (h : a.length + b.length ≤ big) : addD (.tup a) (.tup b) = some (.tup (a ++ b)) := by
  show (if a.length + b.length ≤ big then _ else _) = _
  rw [if_pos h]
theorem addD_l {a b : List D} (h : a.length + b.length ≤ big) : addD (.lst a) (.lst b) = some (.lst (a ++ b)) := by
  show (if a.length + b.length ≤ big then _ else _) = _
  rw [if_pos h]
section
variable {n : Int} {ms : List (Str × List Int)} {as : List (Str × Mach)} {t : Bool} (S : St n ms)
include S
end
end K34
namespace K34
open PySem PySem.Spec PyProof.Rows L2 VL
def gD (c : Cel) : D := .lst [.int c.1, iT c.2]
theorem rgT_ok {n : Int} (n1 : 1 ≤ n) (n4 : n ≤ 4) : rgT (.int n) = some (iT (idL n)) := by
  unfold rgT
  dsimp only
  rw [if_pos ⟨by omega, by omega⟩]
  unfold rngL iT idL
  rw [List.map_map]
  rfl
theorem lsD_ok {m : List Int} (h : m.length ≤ 4000) : lsD (iT m) = some (.int ((ded m).length : Nat)) := by
  have hi : ∀ m : List Int, intsD (m.map .int) = some m := fun m => by
    induction m with
    | nil => rfl
    | cons x m ih =>
      show (intsD (m.map .int)).map (x :: ·) = _
      rw [ih]
      rfl
  show (intsD (m.map .int)).bind _ = _
  rw [hi m]
  show (if m.length ≤ 4000 then _ else _) = _
  rw [if_pos h]
section
variable {n : Int} {ms : List (Str × List Int)} {as : List (Str × Mach)} {t : Bool} (S : St n ms)
include S
theorem law_form_ok {long : Int} (h0 : 0 ≤ long) (h6 : long ≤ 60) {ss : List Stp} (h : ∀ s ∈ ss, OkS (actsOf ms t) long s) : F__law_form [oD n ms as t, .lst (ss.map pD), .int long] = .ok (.tup ((after ms n long ss).map fD)) := by
  unfold F__law_form g__law_form
  simp [VL.bind_ok, VL.bind_er, VL.rs_d, VL.ofO_some, VL.runD_ap, VL.runF_ap, VL.runI, VL.startR, VL.rs, VL.rsL, VL.strL, VL.pick, VL.wipeR, VL.back, VL.noE_o, VL.gVar_ap, VL.gOwn_ap, VL.gC_ap, VL.gOp_ap, VL.gB_ap, VL.gCh_ap, VL.gAndT_ap, VL.gOrT_ap, VL.gNotT_ap, VL.gAnd_ap, VL.gOr_ap, VL.gNot_ap, VL.gIf_ap, VL.gaNil_ap, VL.gaCons_ap, VL.gTup_ap, VL.gLst_ap, VL.gF_ap, VL.gCB_ap, VL.gCBF_ap, VL.gOpF_ap, VL.gTru_ap, VL.gNoPart_ap, VL.gPart_ap, VL.gSl_ap, VL.gSlF_ap, VL.gNil_ap, VL.gSeq_ap, VL.gPass_ap, VL.gBrk_ap, VL.gCont_ap, VL.gExpr_ap, VL.gRet_ap, VL.gRetF_ap, VL.gRetN_ap, VL.gIfS_ap, VL.gSet_ap, VL.gSetF_ap, VL.ggName_ap, VL.ggNil_ap, VL.ggCons_ap, VL.ggTup_ap, VL.gAsg_ap, VL.gIt_ap, VL.gRng_ap, VL.gItS_ap, VL.gFor_ap, VL.gLc_ap, VL.gCall_ap, VL.gCallF_ap, VL.gCallI_ap, VL.gCallK_ap, VL.gUn_ap, VL.gUnF_ap, VL.gDnew_ap, VL.gApp_ap, VL.gSetIx_ap, VL.gYes_ap, VL.gRaise_ap, VL.gSetF'_ap, VL.gMeth_ap, VL.gProp_ap, VL.gMake_ap, VL.gaStar_ap, VL.gPar2F_ap, VL.gSetSl_ap, VL.gDc_ap, VL.gItA_ap, VL.gDisp_ap, rng1_in h0 h6]
  obtain ⟨ρ', e, x, rfl⟩ := forL_at (ds := (cells0.rangeI long).map .int) (n := 0) (fun k ρ => ∃ x, ρ = [some (oD n ms as t), some (.lst (ss.map pD)), some (.int long), some (.lst (((cells0 n long).take k).map gD)), x, none, none, none, none, none, none])
    (ρ := [some (oD n ms as t), some (.lst (ss.map pD)), some (.int long), some (.lst []), none, none, none, none, none, none, none]) ⟨none, rfl⟩ (gg := ggName 4)
    (s := gExpr (gApp 3 (gF (gLst (gaCons (gVar 4) (gaCons (gUn rgT (gOp ixD (gVar 0) (gC (.int 0)))) gaNil)))))) (by
      rintro i d hd _ ⟨x, rfl⟩
      rw [List.getElem?_map] at hd
      obtain ⟨p, hp, rfl⟩ := Option.map_eq_some_iff.mp hd
      have hc : (cells0 n long)[0 + i]? = some (p, idL n) := by
        unfold cells0
        rw [Nat.zero_add, List.getElem?_map, hp]
        rfl
      have hl := (cells0_cv (n := n) h0 S.n1).l
      have ht : (cells0 n long).take (0 + i + 1) = (cells0 n long).take (0 + i) ++ [(p, idL n)] := by
        rw [List.take_succ, hc]
        rfl
      have ha : appD (.lst (((cells0 n long).take (0 + i)).map gD)) (gD (p, idL n)) = some (.lst (((cells0 n long).take (0 + i + 1)).map gD)) := by
        show (if (((cells0 n long).take (0 + i)).map gD).length < big then _ else _) = _
        rw [if_pos (by rw [List.length_map, List.length_take]; unfold big; omega), ht, List.map_append]
        rfl
      refine ⟨[some (oD n ms as t), some (.lst (ss.map pD)), some (.int long), some (.lst (((cells0 n long).take (0 + i + 1)).map gD)), some (.int p), none, none, none, none, none, none], ?_, _, rfl⟩
      revert ha
      generalize ((cells0 n long).take (0 + i + 1)).map gD = A
      generalize ((cells0 n long).take (0 + i)).map gD = B
      unfold gD
      intro ha
      simp [VL.bind_ok, VL.bind_er, VL.rs_d, VL.ofO_some, VL.runD_ap, VL.runF_ap, VL.runI, VL.startR, VL.rs, VL.rsL, VL.strL, VL.pick, VL.wipeR, VL.back, VL.noE_o, VL.gVar_ap, VL.gOwn_ap, VL.gC_ap, VL.gOp_ap, VL.gB_ap, VL.gCh_ap, VL.gAndT_ap, VL.gOrT_ap, VL.gNotT_ap, VL.gAnd_ap, VL.gOr_ap, VL.gNot_ap, VL.gIf_ap, VL.gaNil_ap, VL.gaCons_ap, VL.gTup_ap, VL.gLst_ap, VL.gF_ap, VL.gCB_ap, VL.gCBF_ap, VL.gOpF_ap, VL.gTru_ap, VL.gNoPart_ap, VL.gPart_ap, VL.gSl_ap, VL.gSlF_ap, VL.gNil_ap, VL.gSeq_ap, VL.gPass_ap, VL.gBrk_ap, VL.gCont_ap, VL.gExpr_ap, VL.gRet_ap, VL.gRetF_ap, VL.gRetN_ap, VL.gIfS_ap, VL.gSet_ap, VL.gSetF_ap, VL.ggName_ap, VL.ggNil_ap, VL.ggCons_ap, VL.ggTup_ap, VL.gAsg_ap, VL.gIt_ap, VL.gRng_ap, VL.gItS_ap, VL.gFor_ap, VL.gLc_ap, VL.gCall_ap, VL.gCallF_ap, VL.gCallI_ap, VL.gCallK_ap, VL.gUn_ap, VL.gUnF_ap, VL.gDnew_ap, VL.gApp_ap, VL.gSetIx_ap, VL.gYes_ap, VL.gRaise_ap, VL.gSetF'_ap, VL.gMeth_ap, VL.gProp_ap, VL.gMake_ap, VL.gaStar_ap, VL.gPar2F_ap, VL.gSetSl_ap, VL.gDc_ap, VL.gItA_ap, VL.gDisp_ap, isLst, o0, rgT_ok S.n1 S.n4, ha])
  have hlen : ((cells0.rangeI long).map D.int).length = (cells0 n long).length := by
    unfold cells0
    rw [List.length_map, List.length_map]
  rw [hlen, Nat.zero_add, List.take_length] at e
  rw [e]
  clear e
  simp [VL.bind_ok, VL.bind_er, VL.rs_d, VL.ofO_some, VL.runD_ap, VL.runF_ap, VL.runI, VL.startR, VL.rs, VL.rsL, VL.strL, VL.pick, VL.wipeR, VL.back, VL.noE_o, VL.gVar_ap, VL.gOwn_ap, VL.gC_ap, VL.gOp_ap, VL.gB_ap, VL.gCh_ap, VL.gAndT_ap, VL.gOrT_ap, VL.gNotT_ap, VL.gAnd_ap, VL.gOr_ap, VL.gNot_ap, VL.gIf_ap, VL.gaNil_ap, VL.gaCons_ap, VL.gTup_ap, VL.gLst_ap, VL.gF_ap, VL.gCB_ap, VL.gCBF_ap, VL.gOpF_ap, VL.gTru_ap, VL.gNoPart_ap, VL.gPart_ap, VL.gSl_ap, VL.gSlF_ap, VL.gNil_ap, VL.gSeq_ap, VL.gPass_ap, VL.gBrk_ap, VL.gCont_ap, VL.gExpr_ap, VL.gRet_ap, VL.gRetF_ap, VL.gRetN_ap, VL.gIfS_ap, VL.gSet_ap, VL.gSetF_ap, VL.ggName_ap, VL.ggNil_ap, VL.ggCons_ap, VL.ggTup_ap, VL.gAsg_ap, VL.gIt_ap, VL.gRng_ap, VL.gItS_ap, VL.gFor_ap, VL.gLc_ap, VL.gCall_ap, VL.gCallF_ap, VL.gCallI_ap, VL.gCallK_ap, VL.gUn_ap, VL.gUnF_ap, VL.gDnew_ap, VL.gApp_ap, VL.gSetIx_ap, VL.gYes_ap, VL.gRaise_ap, VL.gSetF'_ap, VL.gMeth_ap, VL.gProp_ap, VL.gMake_ap, VL.gaStar_ap, VL.gPar2F_ap, VL.gSetSl_ap, VL.gDc_ap, VL.gItA_ap, VL.gDisp_ap, itA_l]
  obtain ⟨ρ', e, v, w, y, z, u, q, rfl⟩ := forL_fold (c := pD) (stp ms gC') (fun cs ρ => CV n long cs ∧ ∃ w y z u q, ρ = [some (oD n ms as t), some (.lst (ss.map pD)), some (.int long), some (.lst (cs.map gD)), w, y, z, u, q, none, none]) (xs := ss)
      (a := cells0 n long) (ρ := [some (oD n ms as t), some (.lst (ss.map pD)), some (.int long), some (.lst ((cells0 n long).map gD)), x, none, none, none, none, none, none]) ⟨cells0_cv h0 S.n1, _, _, _, _, _, rfl⟩
      (gg := ggTup 3 (ggCons (ggName 5) (ggCons (ggName 6) (ggCons (ggName 7) ggNil))))
      (s := gIfS (gB (gOp eqD (gVar 5) (gC (.str "turn"))))
    (gSet 3 (gOp addD (gOp addD (gSl slD (gVar 3) gNoPart (gPart (gVar 6))) (gUn revD (gSl slD (gVar 3) (gPart (gVar 6)) (gPart (gVar 7))))) (gSl slD (gVar 3) (gPart (gVar 7)) gNoPart)))
    (gSeq (gSet 8 (gF (gLc (gItA (gSl slD (gVar 3) (gPart (gVar 6)) (gPart (gVar 7)))) (ggTup 2 (ggCons (ggName 4) (ggCons (ggName 9) ggNil))) gYes (gF (gLst (gaCons (gVar 4) (gaCons (gCB tupleD (gaCons (gF (gLc (gItA (gVar 9)) (ggName 10) gYes (gOp ixD (gOp ixD (gOp ixD (gVar 0) (gC (.int 1))) (gVar 5)) (gVar 10)) [10])) gaNil)) gaNil)))) [4, 9])))
    (gSet 3 (gOp addD (gOp addD (gSl slD (gVar 3) gNoPart (gPart (gVar 6))) (gVar 8)) (gSl slD (gVar 3) (gPart (gVar 7)) gNoPart))))) (by
    rintro s hs cs _ ⟨v, w, y, z, u, q, rfl⟩
    have o := h s hs
    have o0' := o.f0
    have o1' := o.fl
    have o2' := o.ll
    have hq := act_eq S o.a
    have hL : ((cs.map gD).length : Int) = long := by rw [List.length_map]; exact v.l
    have hL' := v.l
    have c1 : slD (.lst (cs.map gD)) none (some s.2.1) = some (.lst ((cs.take s.2.1.toNat).map gD)) := by
      show some (D.lst (VL.cutD (cs.map gD) none (some s.2.1))) = _
      rw [cut_lo o0' (by omega), ← List.map_take]
    have c2 : slD (.lst (cs.map gD)) (some s.2.1) (some s.2.2) = some (.lst (((cs.drop s.2.1.toNat).take (s.2.2.toNat - s.2.1.toNat)).map gD)) := by
      show some (D.lst (VL.cutD (cs.map gD) (some s.2.1) (some s.2.2))) = _
      rw [cut_in o0' o1' (by omega), ← List.map_drop, ← List.map_take]
    have c3 : slD (.lst (cs.map gD)) (some s.2.2) none = some (.lst ((cs.drop s.2.2.toNat).map gD)) := by
      show some (D.lst (VL.cutD (cs.map gD) (some s.2.2) none)) = _
      rw [cut_hi (by omega) (by omega), ← List.map_drop]
    have a1 : addD (.lst ((cs.take s.2.1.toNat).map gD)) (.lst ((mid ms gC' s ((cs.drop s.2.1.toNat).take (s.2.2.toNat - s.2.1.toNat))).map gD)) = some (.lst ((cs.take s.2.1.toNat ++ mid ms gC' s ((cs.drop s.2.1.toNat).take (s.2.2.toNat - s.2.1.toNat))).map gD)) := by
      rw [addD_l (by rw [List.length_map, List.length_map, mid_len, List.length_take, List.length_take, List.length_drop]; unfold big; omega), ← List.map_append]
    have a2 : addD (.lst ((cs.take s.2.1.toNat ++ mid ms gC' s ((cs.drop s.2.1.toNat).take (s.2.2.toNat - s.2.1.toNat))).map gD)) (.lst ((cs.drop s.2.2.toNat).map gD)) = some (.lst ((stp ms gC' cs s).map gD)) := by
      rw [addD_l (by rw [List.length_map, List.length_map, List.length_append, mid_len, List.length_take, List.length_take, List.length_drop, List.length_drop]; unfold big; omega), ← List.map_append]
      rfl
    have hv := stp_cv S o v
    have hY : ∀ c ∈ (cs.drop s.2.1.toNat).take (s.2.2.toNat - s.2.1.toNat), IsRow n c.2 := fun c hc => (v.c c (List.mem_of_mem_drop (List.mem_of_mem_take hc))).1
    revert c1 c2 c3 a1 a2 hv hY
    generalize stp ms gC' cs s = Z
    generalize (cs.drop s.2.1.toNat).take (s.2.2.toNat - s.2.1.toNat) = X
    generalize (cs.drop s.2.2.toNat).map gD = U
    generalize (cs.take s.2.1.toNat ++ mid ms gC' s X).map gD = T
    generalize (cs.take s.2.1.toNat).map gD = U'
    intro c1 c2 c3 a1 a2 hv hY
    by_cases e : s.1 = ("turn" : Str)
    · have hm : mid ms gC' s X = X.reverse := by
        unfold mid
        rw [if_pos e]
      have hrv : revD (.lst (X.map gD)) = some (.lst ((mid ms gC' s X).map gD)) := by
        show some (D.lst (X.map gD).reverse) = _
        rw [hm, List.map_reverse]
      rw [decide_eq_true e] at hq
      refine ⟨[some (oD n ms as t), some (.lst (ss.map pD)), some (.int long), some (.lst (Z.map gD)), w, some (.str s.1), some (.int s.2.1), some (.int s.2.2), q, none, none], ?_, hv, _, _, _, _, _, rfl⟩
      revert hrv a1
      generalize (mid ms gC' s X).map gD = Y
      intro hrv a1
      unfold pD
      simp [VL.bind_ok, VL.bind_er, VL.rs_d, VL.ofO_some, VL.runD_ap, VL.runF_ap, VL.runI, VL.startR, VL.rs, VL.rsL, VL.strL, VL.pick, VL.wipeR, VL.back, VL.noE_o, VL.gVar_ap, VL.gOwn_ap, VL.gC_ap, VL.gOp_ap, VL.gB_ap, VL.gCh_ap, VL.gAndT_ap, VL.gOrT_ap, VL.gNotT_ap, VL.gAnd_ap, VL.gOr_ap, VL.gNot_ap, VL.gIf_ap, VL.gaNil_ap, VL.gaCons_ap, VL.gTup_ap, VL.gLst_ap, VL.gF_ap, VL.gCB_ap, VL.gCBF_ap, VL.gOpF_ap, VL.gTru_ap, VL.gNoPart_ap, VL.gPart_ap, VL.gSl_ap, VL.gSlF_ap, VL.gNil_ap, VL.gSeq_ap, VL.gPass_ap, VL.gBrk_ap, VL.gCont_ap, VL.gExpr_ap, VL.gRet_ap, VL.gRetF_ap, VL.gRetN_ap, VL.gIfS_ap, VL.gSet_ap, VL.gSetF_ap, VL.ggName_ap, VL.ggNil_ap, VL.ggCons_ap, VL.ggTup_ap, VL.gAsg_ap, VL.gIt_ap, VL.gRng_ap, VL.gItS_ap, VL.gFor_ap, VL.gLc_ap, VL.gCall_ap, VL.gCallF_ap, VL.gCallI_ap, VL.gCallK_ap, VL.gUn_ap, VL.gUnF_ap, VL.gDnew_ap, VL.gApp_ap, VL.gSetIx_ap, VL.gYes_ap, VL.gRaise_ap, VL.gSetF'_ap, VL.gMeth_ap, VL.gProp_ap, VL.gMake_ap, VL.gaStar_ap, VL.gPar2F_ap, VL.gSetSl_ap, VL.gDc_ap, VL.gItA_ap, VL.gDisp_ap, hq, c1, c2, c3, hrv, a1, a2]
    · have hm : (mid ms gC' s X).map gD = X.map fun c => .lst [.int c.1, iT (c.2.map (look (mapOf ms s.1)))] := by
        unfold mid
        rw [if_neg e, List.map_map]
        rfl
      rw [hm] at a1
      rw [decide_eq_false e] at hq
      obtain ⟨hmm, hr', hml⟩ := act_map S o.a e
      have hix := mapOf_ix hmm
      refine ⟨[some (oD n ms as t), some (.lst (ss.map pD)), some (.int long), some (.lst (Z.map gD)), w, some (.str s.1), some (.int s.2.1), some (.int s.2.2), some (.lst (X.map fun c => .lst [.int c.1, iT (c.2.map (look (mapOf ms s.1)))])), none, none], ?_, hv, _, _, _, _, _, rfl⟩
      unfold pD
      simp [VL.bind_ok, VL.bind_er, VL.rs_d, VL.ofO_some, VL.runD_ap, VL.runF_ap, VL.runI, VL.startR, VL.rs, VL.rsL, VL.strL, VL.pick, VL.wipeR, VL.back, VL.noE_o, VL.gVar_ap, VL.gOwn_ap, VL.gC_ap, VL.gOp_ap, VL.gB_ap, VL.gCh_ap, VL.gAndT_ap, VL.gOrT_ap, VL.gNotT_ap, VL.gAnd_ap, VL.gOr_ap, VL.gNot_ap, VL.gIf_ap, VL.gaNil_ap, VL.gaCons_ap, VL.gTup_ap, VL.gLst_ap, VL.gF_ap, VL.gCB_ap, VL.gCBF_ap, VL.gOpF_ap, VL.gTru_ap, VL.gNoPart_ap, VL.gPart_ap, VL.gSl_ap, VL.gSlF_ap, VL.gNil_ap, VL.gSeq_ap, VL.gPass_ap, VL.gBrk_ap, VL.gCont_ap, VL.gExpr_ap, VL.gRet_ap, VL.gRetF_ap, VL.gRetN_ap, VL.gIfS_ap, VL.gSet_ap, VL.gSetF_ap, VL.ggName_ap, VL.ggNil_ap, VL.ggCons_ap, VL.ggTup_ap, VL.gAsg_ap, VL.gIt_ap, VL.gRng_ap, VL.gItS_ap, VL.gFor_ap, VL.gLc_ap, VL.gCall_ap, VL.gCallF_ap, VL.gCallI_ap, VL.gCallK_ap, VL.gUn_ap, VL.gUnF_ap, VL.gDnew_ap, VL.gApp_ap, VL.gSetIx_ap, VL.gYes_ap, VL.gRaise_ap, VL.gSetF'_ap, VL.gMeth_ap, VL.gProp_ap, VL.gMake_ap, VL.gaStar_ap, VL.gPar2F_ap, VL.gSetSl_ap, VL.gDc_ap, VL.gItA_ap, VL.gDisp_ap, hq, c1, c2, c3, itA_l]
      rw [lcL_mapA fun c : Cel => .lst [.int c.1, iT (c.2.map (look (mapOf ms s.1)))]]
      · simp [VL.bind_ok, VL.bind_er, VL.rs_d, VL.ofO_some, VL.runD_ap, VL.runF_ap, VL.runI, VL.startR, VL.rs, VL.rsL, VL.strL, VL.pick, VL.wipeR, VL.back, VL.noE_o, VL.gVar_ap, VL.gOwn_ap, VL.gC_ap, VL.gOp_ap, VL.gB_ap, VL.gCh_ap, VL.gAndT_ap, VL.gOrT_ap, VL.gNotT_ap, VL.gAnd_ap, VL.gOr_ap, VL.gNot_ap, VL.gIf_ap, VL.gaNil_ap, VL.gaCons_ap, VL.gTup_ap, VL.gLst_ap, VL.gF_ap, VL.gCB_ap, VL.gCBF_ap, VL.gOpF_ap, VL.gTru_ap, VL.gNoPart_ap, VL.gPart_ap, VL.gSl_ap, VL.gSlF_ap, VL.gNil_ap, VL.gSeq_ap, VL.gPass_ap, VL.gBrk_ap, VL.gCont_ap, VL.gExpr_ap, VL.gRet_ap, VL.gRetF_ap, VL.gRetN_ap, VL.gIfS_ap, VL.gSet_ap, VL.gSetF_ap, VL.ggName_ap, VL.ggNil_ap, VL.ggCons_ap, VL.ggTup_ap, VL.gAsg_ap, VL.gIt_ap, VL.gRng_ap, VL.gItS_ap, VL.gFor_ap, VL.gLc_ap, VL.gCall_ap, VL.gCallF_ap, VL.gCallI_ap, VL.gCallK_ap, VL.gUn_ap, VL.gUnF_ap, VL.gDnew_ap, VL.gApp_ap, VL.gSetIx_ap, VL.gYes_ap, VL.gRaise_ap, VL.gSetF'_ap, VL.gMeth_ap, VL.gProp_ap, VL.gMake_ap, VL.gaStar_ap, VL.gPar2F_ap, VL.gSetSl_ap, VL.gDc_ap, VL.gItA_ap, VL.gDisp_ap, c1, c3, a1, a2]
      · intro c hc
        have hit : itA (iT c.2) = some (c.2.map D.int) := rfl
        unfold gD
        simp [VL.bind_ok, VL.bind_er, VL.rs_d, VL.ofO_some, VL.runD_ap, VL.runF_ap, VL.runI, VL.startR, VL.rs, VL.rsL, VL.strL, VL.pick, VL.wipeR, VL.back, VL.noE_o, VL.gVar_ap, VL.gOwn_ap, VL.gC_ap, VL.gOp_ap, VL.gB_ap, VL.gCh_ap, VL.gAndT_ap, VL.gOrT_ap, VL.gNotT_ap, VL.gAnd_ap, VL.gOr_ap, VL.gNot_ap, VL.gIf_ap, VL.gaNil_ap, VL.gaCons_ap, VL.gTup_ap, VL.gLst_ap, VL.gF_ap, VL.gCB_ap, VL.gCBF_ap, VL.gOpF_ap, VL.gTru_ap, VL.gNoPart_ap, VL.gPart_ap, VL.gSl_ap, VL.gSlF_ap, VL.gNil_ap, VL.gSeq_ap, VL.gPass_ap, VL.gBrk_ap, VL.gCont_ap, VL.gExpr_ap, VL.gRet_ap, VL.gRetF_ap, VL.gRetN_ap, VL.gIfS_ap, VL.gSet_ap, VL.gSetF_ap, VL.ggName_ap, VL.ggNil_ap, VL.ggCons_ap, VL.ggTup_ap, VL.gAsg_ap, VL.gIt_ap, VL.gRng_ap, VL.gItS_ap, VL.gFor_ap, VL.gLc_ap, VL.gCall_ap, VL.gCallF_ap, VL.gCallI_ap, VL.gCallK_ap, VL.gUn_ap, VL.gUnF_ap, VL.gDnew_ap, VL.gApp_ap, VL.gSetIx_ap, VL.gYes_ap, VL.gRaise_ap, VL.gSetF'_ap, VL.gMeth_ap, VL.gProp_ap, VL.gMake_ap, VL.gaStar_ap, VL.gPar2F_ap, VL.gSetSl_ap, VL.gDc_ap, VL.gItA_ap, VL.gDisp_ap, hit]
        rw [lcL_mapA fun x => .int (look (mapOf ms s.1) x)]
        · simp [VL.bind_ok, VL.bind_er, VL.rs_d, VL.ofO_some, VL.runD_ap, VL.runF_ap, VL.runI, VL.startR, VL.rs, VL.rsL, VL.strL, VL.pick, VL.wipeR, VL.back, VL.noE_o, VL.gVar_ap, VL.gOwn_ap, VL.gC_ap, VL.gOp_ap, VL.gB_ap, VL.gCh_ap, VL.gAndT_ap, VL.gOrT_ap, VL.gNotT_ap, VL.gAnd_ap, VL.gOr_ap, VL.gNot_ap, VL.gIf_ap, VL.gaNil_ap, VL.gaCons_ap, VL.gTup_ap, VL.gLst_ap, VL.gF_ap, VL.gCB_ap, VL.gCBF_ap, VL.gOpF_ap, VL.gTru_ap, VL.gNoPart_ap, VL.gPart_ap, VL.gSl_ap, VL.gSlF_ap, VL.gNil_ap, VL.gSeq_ap, VL.gPass_ap, VL.gBrk_ap, VL.gCont_ap, VL.gExpr_ap, VL.gRet_ap, VL.gRetF_ap, VL.gRetN_ap, VL.gIfS_ap, VL.gSet_ap, VL.gSetF_ap, VL.ggName_ap, VL.ggNil_ap, VL.ggCons_ap, VL.ggTup_ap, VL.gAsg_ap, VL.gIt_ap, VL.gRng_ap, VL.gItS_ap, VL.gFor_ap, VL.gLc_ap, VL.gCall_ap, VL.gCallF_ap, VL.gCallI_ap, VL.gCallK_ap, VL.gUn_ap, VL.gUnF_ap, VL.gDnew_ap, VL.gApp_ap, VL.gSetIx_ap, VL.gYes_ap, VL.gRaise_ap, VL.gSetF'_ap, VL.gMeth_ap, VL.gProp_ap, VL.gMake_ap, VL.gaStar_ap, VL.gPar2F_ap, VL.gSetSl_ap, VL.gDc_ap, VL.gItA_ap, VL.gDisp_ap, tupleD_l, iT]
        · intro x hx
          have := hY c hc x hx
          have e1 := ixD_iT (m := mapOf ms s.1) this.1 (by omega)
          simp [VL.bind_ok, VL.bind_er, VL.rs_d, VL.ofO_some, VL.runD_ap, VL.runF_ap, VL.runI, VL.startR, VL.rs, VL.rsL, VL.strL, VL.pick, VL.wipeR, VL.back, VL.noE_o, VL.gVar_ap, VL.gOwn_ap, VL.gC_ap, VL.gOp_ap, VL.gB_ap, VL.gCh_ap, VL.gAndT_ap, VL.gOrT_ap, VL.gNotT_ap, VL.gAnd_ap, VL.gOr_ap, VL.gNot_ap, VL.gIf_ap, VL.gaNil_ap, VL.gaCons_ap, VL.gTup_ap, VL.gLst_ap, VL.gF_ap, VL.gCB_ap, VL.gCBF_ap, VL.gOpF_ap, VL.gTru_ap, VL.gNoPart_ap, VL.gPart_ap, VL.gSl_ap, VL.gSlF_ap, VL.gNil_ap, VL.gSeq_ap, VL.gPass_ap, VL.gBrk_ap, VL.gCont_ap, VL.gExpr_ap, VL.gRet_ap, VL.gRetF_ap, VL.gRetN_ap, VL.gIfS_ap, VL.gSet_ap, VL.gSetF_ap, VL.ggName_ap, VL.ggNil_ap, VL.ggCons_ap, VL.ggTup_ap, VL.gAsg_ap, VL.gIt_ap, VL.gRng_ap, VL.gItS_ap, VL.gFor_ap, VL.gLc_ap, VL.gCall_ap, VL.gCallF_ap, VL.gCallI_ap, VL.gCallK_ap, VL.gUn_ap, VL.gUnF_ap, VL.gDnew_ap, VL.gApp_ap, VL.gSetIx_ap, VL.gYes_ap, VL.gRaise_ap, VL.gSetF'_ap, VL.gMeth_ap, VL.gProp_ap, VL.gMake_ap, VL.gaStar_ap, VL.gPar2F_ap, VL.gSetSl_ap, VL.gDc_ap, VL.gItA_ap, VL.gDisp_ap, o1, hix, e1])
  have hf : ss.foldl (stp ms gC') (cells0 n long) = after ms n long ss := rfl
  rw [hf] at e v
  rw [e]
  clear e
  revert v
  generalize after ms n long ss = cs
  intro v
  simp [VL.bind_ok, VL.bind_er, VL.rs_d, VL.ofO_some, VL.runD_ap, VL.runF_ap, VL.runI, VL.startR, VL.rs, VL.rsL, VL.strL, VL.pick, VL.wipeR, VL.back, VL.noE_o, VL.gVar_ap, VL.gOwn_ap, VL.gC_ap, VL.gOp_ap, VL.gB_ap, VL.gCh_ap, VL.gAndT_ap, VL.gOrT_ap, VL.gNotT_ap, VL.gAnd_ap, VL.gOr_ap, VL.gNot_ap, VL.gIf_ap, VL.gaNil_ap, VL.gaCons_ap, VL.gTup_ap, VL.gLst_ap, VL.gF_ap, VL.gCB_ap, VL.gCBF_ap, VL.gOpF_ap, VL.gTru_ap, VL.gNoPart_ap, VL.gPart_ap, VL.gSl_ap, VL.gSlF_ap, VL.gNil_ap, VL.gSeq_ap, VL.gPass_ap, VL.gBrk_ap, VL.gCont_ap, VL.gExpr_ap, VL.gRet_ap, VL.gRetF_ap, VL.gRetN_ap, VL.gIfS_ap, VL.gSet_ap, VL.gSetF_ap, VL.ggName_ap, VL.ggNil_ap, VL.ggCons_ap, VL.ggTup_ap, VL.gAsg_ap, VL.gIt_ap, VL.gRng_ap, VL.gItS_ap, VL.gFor_ap, VL.gLc_ap, VL.gCall_ap, VL.gCallF_ap, VL.gCallI_ap, VL.gCallK_ap, VL.gUn_ap, VL.gUnF_ap, VL.gDnew_ap, VL.gApp_ap, VL.gSetIx_ap, VL.gYes_ap, VL.gRaise_ap, VL.gSetF'_ap, VL.gMeth_ap, VL.gProp_ap, VL.gMake_ap, VL.gaStar_ap, VL.gPar2F_ap, VL.gSetSl_ap, VL.gDc_ap, VL.gItA_ap, VL.gDisp_ap, itA_l]
  rw [lcL_mapA fD]
  · simp [VL.bind_ok, VL.bind_er, VL.rs_d, VL.ofO_some, VL.runD_ap, VL.runF_ap, VL.runI, VL.startR, VL.rs, VL.rsL, VL.strL, VL.pick, VL.wipeR, VL.back, VL.noE_o, VL.gVar_ap, VL.gOwn_ap, VL.gC_ap, VL.gOp_ap, VL.gB_ap, VL.gCh_ap, VL.gAndT_ap, VL.gOrT_ap, VL.gNotT_ap, VL.gAnd_ap, VL.gOr_ap, VL.gNot_ap, VL.gIf_ap, VL.gaNil_ap, VL.gaCons_ap, VL.gTup_ap, VL.gLst_ap, VL.gF_ap, VL.gCB_ap, VL.gCBF_ap, VL.gOpF_ap, VL.gTru_ap, VL.gNoPart_ap, VL.gPart_ap, VL.gSl_ap, VL.gSlF_ap, VL.gNil_ap, VL.gSeq_ap, VL.gPass_ap, VL.gBrk_ap, VL.gCont_ap, VL.gExpr_ap, VL.gRet_ap, VL.gRetF_ap, VL.gRetN_ap, VL.gIfS_ap, VL.gSet_ap, VL.gSetF_ap, VL.ggName_ap, VL.ggNil_ap, VL.ggCons_ap, VL.ggTup_ap, VL.gAsg_ap, VL.gIt_ap, VL.gRng_ap, VL.gItS_ap, VL.gFor_ap, VL.gLc_ap, VL.gCall_ap, VL.gCallF_ap, VL.gCallI_ap, VL.gCallK_ap, VL.gUn_ap, VL.gUnF_ap, VL.gDnew_ap, VL.gApp_ap, VL.gSetIx_ap, VL.gYes_ap, VL.gRaise_ap, VL.gSetF'_ap, VL.gMeth_ap, VL.gProp_ap, VL.gMake_ap, VL.gaStar_ap, VL.gPar2F_ap, VL.gSetSl_ap, VL.gDc_ap, VL.gItA_ap, VL.gDisp_ap, tupleD_l]
  · intro c hc
    have hc := v.c c hc
    have hn := S.n1
    have hn4 := S.n4
    have hl := lsD_ok (m := c.2) (by omega)
    have hne : c.2 ≠ [] := fun e => by rw [e] at hc; have := hc.2.1; simp only [List.length_nil] at this; omega
    have hk := const_iff hne
    unfold gD fD
    by_cases e : c.2 = rep1 c.2
    · have hd := hk.mpr e
      rw [hd] at hl
      have hix : ixD (.lst [.int c.1, .non]) (.int 1) = some .non := rfl
      simp [VL.bind_ok, VL.bind_er, VL.rs_d, VL.ofO_some, VL.runD_ap, VL.runF_ap, VL.runI, VL.startR, VL.rs, VL.rsL, VL.strL, VL.pick, VL.wipeR, VL.back, VL.noE_o, VL.gVar_ap, VL.gOwn_ap, VL.gC_ap, VL.gOp_ap, VL.gB_ap, VL.gCh_ap, VL.gAndT_ap, VL.gOrT_ap, VL.gNotT_ap, VL.gAnd_ap, VL.gOr_ap, VL.gNot_ap, VL.gIf_ap, VL.gaNil_ap, VL.gaCons_ap, VL.gTup_ap, VL.gLst_ap, VL.gF_ap, VL.gCB_ap, VL.gCBF_ap, VL.gOpF_ap, VL.gTru_ap, VL.gNoPart_ap, VL.gPart_ap, VL.gSl_ap, VL.gSlF_ap, VL.gNil_ap, VL.gSeq_ap, VL.gPass_ap, VL.gBrk_ap, VL.gCont_ap, VL.gExpr_ap, VL.gRet_ap, VL.gRetF_ap, VL.gRetN_ap, VL.gIfS_ap, VL.gSet_ap, VL.gSetF_ap, VL.ggName_ap, VL.ggNil_ap, VL.ggCons_ap, VL.ggTup_ap, VL.gAsg_ap, VL.gIt_ap, VL.gRng_ap, VL.gItS_ap, VL.gFor_ap, VL.gLc_ap, VL.gCall_ap, VL.gCallF_ap, VL.gCallI_ap, VL.gCallK_ap, VL.gUn_ap, VL.gUnF_ap, VL.gDnew_ap, VL.gApp_ap, VL.gSetIx_ap, VL.gYes_ap, VL.gRaise_ap, VL.gSetF'_ap, VL.gMeth_ap, VL.gProp_ap, VL.gMake_ap, VL.gaStar_ap, VL.gPar2F_ap, VL.gSetSl_ap, VL.gDc_ap, VL.gItA_ap, VL.gDisp_ap, hl, eqD_int, intD_bl, hix, ← e]
    · have hd : decide (((ded c.2).length : Int) = 1) = false := decide_eq_false fun z => e (hk.mp z)
      have hix : ixD (.lst [.int c.1, .non]) (.int 0) = some (.int c.1) := rfl
      have he := eqD_int ((ded c.2).length : Int) 1
      rw [hd] at he
      simp [VL.bind_ok, VL.bind_er, VL.rs_d, VL.ofO_some, VL.runD_ap, VL.runF_ap, VL.runI, VL.startR, VL.rs, VL.rsL, VL.strL, VL.pick, VL.wipeR, VL.back, VL.noE_o, VL.gVar_ap, VL.gOwn_ap, VL.gC_ap, VL.gOp_ap, VL.gB_ap, VL.gCh_ap, VL.gAndT_ap, VL.gOrT_ap, VL.gNotT_ap, VL.gAnd_ap, VL.gOr_ap, VL.gNot_ap, VL.gIf_ap, VL.gaNil_ap, VL.gaCons_ap, VL.gTup_ap, VL.gLst_ap, VL.gF_ap, VL.gCB_ap, VL.gCBF_ap, VL.gOpF_ap, VL.gTru_ap, VL.gNoPart_ap, VL.gPart_ap, VL.gSl_ap, VL.gSlF_ap, VL.gNil_ap, VL.gSeq_ap, VL.gPass_ap, VL.gBrk_ap, VL.gCont_ap, VL.gExpr_ap, VL.gRet_ap, VL.gRetF_ap, VL.gRetN_ap, VL.gIfS_ap, VL.gSet_ap, VL.gSetF_ap, VL.ggName_ap, VL.ggNil_ap, VL.ggCons_ap, VL.ggTup_ap, VL.gAsg_ap, VL.gIt_ap, VL.gRng_ap, VL.gItS_ap, VL.gFor_ap, VL.gLc_ap, VL.gCall_ap, VL.gCallF_ap, VL.gCallI_ap, VL.gCallK_ap, VL.gUn_ap, VL.gUnF_ap, VL.gDnew_ap, VL.gApp_ap, VL.gSetIx_ap, VL.gYes_ap, VL.gRaise_ap, VL.gSetF'_ap, VL.gMeth_ap, VL.gProp_ap, VL.gMake_ap, VL.gaStar_ap, VL.gPar2F_ap, VL.gSetSl_ap, VL.gDc_ap, VL.gItA_ap, VL.gDisp_ap, hl, he, intD_bl, hix, e]
end
end K34
namespace K34
open PySem PySem.Spec PyProof.Rows L2 VL
/-- a list of things, each drawn: each by at most c drawings -/
theorem lc_drawn {α : Type} {g : α → D} {Q : α → Prop} {te : G} {vs : List Nat} {v : Nat} (E : D → VL.Env) (c : Nat) (B : Nat) (hw : ∀ d x, wipeR ((E d).set v (some x)) vs = E d)
    (hte : ∀ k d x, PU k d → k + c < B → ∃ a d', te ((E d).set v (some x)) = .ok (.d (g a), (E d').set v (some x)) ∧ Q a ∧ PU (k + c) d') :
    ∀ {xs : List D} {k : Nat} {d : D}, PU k d → k + xs.length * c + c < B → ∃ (rs : List α) (d' : D), lcL (ggName v) gYes te vs xs (E d) = .ok (rs.map g, E d') ∧ rs.length = xs.length ∧ (∀ r ∈ rs, Q r) ∧ PU (k + xs.length * c) d'
  | [], k, d, h, _ => ⟨[], d, rfl, rfl, (fun _ z => nomatch z), by simpa using h⟩
  | x :: xs, k, d, h, hb => by
    rw [List.length_cons, Nat.succ_mul] at hb
    obtain ⟨a, d1, e1, q, h1⟩ := hte k d x h (by omega)
    obtain ⟨rs, d', e2, hl, hq, h2⟩ := lc_drawn E c B hw hte (xs := xs) (k := k + c) h1 (by omega)
    refine ⟨a :: rs, d', ?_, congrArg (· + 1) hl, fun r hr => ?_, h2.mono (by rw [List.length_cons, Nat.succ_mul]; omega)⟩
    · unfold lcL
      show (noE (te ((E d).set v (some x)))).bind _ = _
      rw [e1]
      show (lcL (ggName v) gYes te vs xs (wipeR ((E d1).set v (some x)) vs)).bind _ = _
      rw [hw, e2]
      rfl
    · rcases List.mem_cons.mp hr with rfl | hr
      · exact q
      · exact hq r hr
def In (n : Int) (x : Int) : Prop := 0 ≤ x ∧ x ≤ n - 1
theorem rng_len {k : Int} (h0 : 0 ≤ k) : (((cells0.rangeI k).map D.int).length : Int) = k := by
  unfold cells0.rangeI
  rw [List.length_map, List.length_map, List.length_range]
  omega
theorem machine_ok {k : Nat} {d : D} (h : PU k d) (hk : k < 900000) {n : Int} (n1 : 1 ≤ n) (n4 : n ≤ 4) : ∃ m d', F__law_machine [d, .int n, .int 1] = .ok (mT m, d') ∧ OkM n m ∧ PU (k + 100) d' := by
  obtain ⟨r0, d0, e0, r00, r01, h0⟩ := draw_ok h (by omega) (n := 1) (by omega) (by omega)
  have hr0 : r0 = 0 := by omega
  subst hr0
  have hrow : ∀ {k : Nat} {d : D}, PU k d → k < 990000 → ∀ x, ∃ (rs : List Int) (d' : D), gCB tupleD (gaCons (gF (gLc (gRng rng1 (gaCons (gVar 1) gaNil)) (ggName 6) gYes (gCallI 2 F__law_draw (gaCons (gOwn 0) (gaCons (gVar 3) gaNil))) [6])) gaNil) [some d, some (.int n), some (.int 1), some (.int 1), none, some x, none] = .ok (.d (iT rs), [some d', some (.int n), some (.int 1), some (.int 1), none, some x, none]) ∧ (IsRow 1 rs ∧ (rs.length : Int) = n) ∧ PU (k + 4) d' := by
    intro k d h hk x
    have hl := rng_len (k := n) (by omega)
    obtain ⟨rs, d', e, hl', hq, h'⟩ := lc_drawn (g := D.int) (Q := In 1) (te := gCallI 2 F__law_draw (gaCons (gOwn 0) (gaCons (gVar 3) gaNil))) (vs := [6]) (v := 6) (fun d => [some d, some (.int n), some (.int 1), some (.int 1), none, some x, none]) 1 999999 (fun _ _ => rfl) (by
      intro k d y h hk
      obtain ⟨r, d', e, q1, q2, h'⟩ := draw_ok h (by omega) (n := 1) (by omega) (by omega)
      exact ⟨r, d', by simp [VL.bind_ok, VL.bind_er, VL.rs_d, VL.ofO_some, VL.runD_ap, VL.runF_ap, VL.runI, VL.startR, VL.rs, VL.rsL, VL.strL, VL.pick, VL.wipeR, VL.back, VL.noE_o, VL.gVar_ap, VL.gOwn_ap, VL.gC_ap, VL.gOp_ap, VL.gB_ap, VL.gCh_ap, VL.gAndT_ap, VL.gOrT_ap, VL.gNotT_ap, VL.gAnd_ap, VL.gOr_ap, VL.gNot_ap, VL.gIf_ap, VL.gaNil_ap, VL.gaCons_ap, VL.gTup_ap, VL.gLst_ap, VL.gF_ap, VL.gCB_ap, VL.gCBF_ap, VL.gOpF_ap, VL.gTru_ap, VL.gNoPart_ap, VL.gPart_ap, VL.gSl_ap, VL.gSlF_ap, VL.gNil_ap, VL.gSeq_ap, VL.gPass_ap, VL.gBrk_ap, VL.gCont_ap, VL.gExpr_ap, VL.gRet_ap, VL.gRetF_ap, VL.gRetN_ap, VL.gIfS_ap, VL.gSet_ap, VL.gSetF_ap, VL.ggName_ap, VL.ggNil_ap, VL.ggCons_ap, VL.ggTup_ap, VL.gAsg_ap, VL.gIt_ap, VL.gRng_ap, VL.gItS_ap, VL.gFor_ap, VL.gLc_ap, VL.gCall_ap, VL.gCallF_ap, VL.gCallI_ap, VL.gCallK_ap, VL.gUn_ap, VL.gUnF_ap, VL.gDnew_ap, VL.gApp_ap, VL.gSetIx_ap, VL.gYes_ap, VL.gRaise_ap, VL.gSetF'_ap, VL.gMeth_ap, VL.gProp_ap, VL.gMake_ap, VL.gaStar_ap, VL.gPar2F_ap, VL.gSetSl_ap, VL.gDc_ap, VL.gItA_ap, VL.gDisp_ap, e], ⟨q1, q2⟩, h'⟩) (xs := (cells0.rangeI n).map D.int) h (by omega)
    refine ⟨rs, d', ?_, ⟨hq, by omega⟩, h'.mono (by omega)⟩
    simp [VL.bind_ok, VL.bind_er, VL.rs_d, VL.ofO_some, VL.runD_ap, VL.runF_ap, VL.runI, VL.startR, VL.rs, VL.rsL, VL.strL, VL.pick, VL.wipeR, VL.back, VL.noE_o, VL.gVar_ap, VL.gOwn_ap, VL.gC_ap, VL.gOp_ap, VL.gB_ap, VL.gCh_ap, VL.gAndT_ap, VL.gOrT_ap, VL.gNotT_ap, VL.gAnd_ap, VL.gOr_ap, VL.gNot_ap, VL.gIf_ap, VL.gaNil_ap, VL.gaCons_ap, VL.gTup_ap, VL.gLst_ap, VL.gF_ap, VL.gCB_ap, VL.gCBF_ap, VL.gOpF_ap, VL.gTru_ap, VL.gNoPart_ap, VL.gPart_ap, VL.gSl_ap, VL.gSlF_ap, VL.gNil_ap, VL.gSeq_ap, VL.gPass_ap, VL.gBrk_ap, VL.gCont_ap, VL.gExpr_ap, VL.gRet_ap, VL.gRetF_ap, VL.gRetN_ap, VL.gIfS_ap, VL.gSet_ap, VL.gSetF_ap, VL.ggName_ap, VL.ggNil_ap, VL.ggCons_ap, VL.ggTup_ap, VL.gAsg_ap, VL.gIt_ap, VL.gRng_ap, VL.gItS_ap, VL.gFor_ap, VL.gLc_ap, VL.gCall_ap, VL.gCallF_ap, VL.gCallI_ap, VL.gCallK_ap, VL.gUn_ap, VL.gUnF_ap, VL.gDnew_ap, VL.gApp_ap, VL.gSetIx_ap, VL.gYes_ap, VL.gRaise_ap, VL.gSetF'_ap, VL.gMeth_ap, VL.gProp_ap, VL.gMake_ap, VL.gaStar_ap, VL.gPar2F_ap, VL.gSetSl_ap, VL.gDc_ap, VL.gItA_ap, VL.gDisp_ap, rng1_in (k := n) (by omega) (by omega), e, tupleD_l, iT]
  have hl1 : rng1 [.d (.int 1)] = some [.int 0] := rfl
  obtain ⟨rs, d1, e1, ⟨q1, q2⟩, h1⟩ := hrow h0 (by omega) (.int 0)
  obtain ⟨r2, d2, e2, r20, r21, h2⟩ := draw_ok h1 (by omega) (n := 1) (by omega) (by omega)
  obtain ⟨r3, d3, e3, r30, r31, h3⟩ := draw_ok h2 (by omega) (n := 4) (by omega) (by omega)
  have hr2 : r2 = 0 := by omega
  subst hr2
  have hx : ∃ y, ixD (.lst [.int 0, .int 1, .int 2, .int 99]) (.int r3) = some (.int y) ∧ 0 ≤ y ∧ y ≤ 99 := by
    have : r3 = 0 ∨ r3 = 1 ∨ r3 = 2 ∨ r3 = 3 := by omega
    rcases this with rfl | rfl | rfl | rfl <;> exact ⟨_, rfl, by decide, by decide⟩
  obtain ⟨y, hy, y0, y1⟩ := hx
  refine ⟨⟨0, [rs], [y]⟩, d3, ?_, ⟨Int.le_refl 0, by show (0 : Int) ≤ 1 - 1; omega, by simp, fun l hl => ?_, rfl, fun a ha => ?_⟩, h3.mono (by omega)⟩
  · unfold F__law_machine g__law_machine
    have E1 : lcL (ggName 5) gYes (gCB tupleD (gaCons (gF (gLc (gRng rng1 (gaCons (gVar 1) gaNil)) (ggName 6) gYes (gCallI 2 F__law_draw (gaCons (gOwn 0) (gaCons (gVar 3) gaNil))) [6])) gaNil)) [5] [.int 0] [some d0, some (.int n), some (.int 1), some (.int 1), none, none, none] = .ok ([iT rs], [some d1, some (.int n), some (.int 1), some (.int 1), none, none, none]) := by
      unfold lcL
      show (noE (gCB tupleD (gaCons (gF (gLc (gRng rng1 (gaCons (gVar 1) gaNil)) (ggName 6) gYes (gCallI 2 F__law_draw (gaCons (gOwn 0) (gaCons (gVar 3) gaNil))) [6])) gaNil) [some d0, some (.int n), some (.int 1), some (.int 1), none, some (.int 0), none])).bind _ = _
      rw [e1]
      rfl
    simp [VL.bind_ok, VL.bind_er, VL.rs_d, VL.ofO_some, VL.runD_ap, VL.runF_ap, VL.runI, VL.startR, VL.rs, VL.rsL, VL.strL, VL.pick, VL.wipeR, VL.back, VL.noE_o, VL.gVar_ap, VL.gOwn_ap, VL.gC_ap, VL.gOp_ap, VL.gB_ap, VL.gCh_ap, VL.gAndT_ap, VL.gOrT_ap, VL.gNotT_ap, VL.gAnd_ap, VL.gOr_ap, VL.gNot_ap, VL.gIf_ap, VL.gaNil_ap, VL.gaCons_ap, VL.gTup_ap, VL.gLst_ap, VL.gF_ap, VL.gCB_ap, VL.gCBF_ap, VL.gOpF_ap, VL.gTru_ap, VL.gNoPart_ap, VL.gPart_ap, VL.gSl_ap, VL.gSlF_ap, VL.gNil_ap, VL.gSeq_ap, VL.gPass_ap, VL.gBrk_ap, VL.gCont_ap, VL.gExpr_ap, VL.gRet_ap, VL.gRetF_ap, VL.gRetN_ap, VL.gIfS_ap, VL.gSet_ap, VL.gSetF_ap, VL.ggName_ap, VL.ggNil_ap, VL.ggCons_ap, VL.ggTup_ap, VL.gAsg_ap, VL.gIt_ap, VL.gRng_ap, VL.gItS_ap, VL.gFor_ap, VL.gLc_ap, VL.gCall_ap, VL.gCallF_ap, VL.gCallI_ap, VL.gCallK_ap, VL.gUn_ap, VL.gUnF_ap, VL.gDnew_ap, VL.gApp_ap, VL.gSetIx_ap, VL.gYes_ap, VL.gRaise_ap, VL.gSetF'_ap, VL.gMeth_ap, VL.gProp_ap, VL.gMake_ap, VL.gaStar_ap, VL.gPar2F_ap, VL.gSetSl_ap, VL.gDc_ap, VL.gItA_ap, VL.gDisp_ap, e0, addD_int, hl1, E1]
    simp [VL.bind_ok, VL.bind_er, VL.rs_d, VL.ofO_some, VL.runD_ap, VL.runF_ap, VL.runI, VL.startR, VL.rs, VL.rsL, VL.strL, VL.pick, VL.wipeR, VL.back, VL.noE_o, VL.gVar_ap, VL.gOwn_ap, VL.gC_ap, VL.gOp_ap, VL.gB_ap, VL.gCh_ap, VL.gAndT_ap, VL.gOrT_ap, VL.gNotT_ap, VL.gAnd_ap, VL.gOr_ap, VL.gNot_ap, VL.gIf_ap, VL.gaNil_ap, VL.gaCons_ap, VL.gTup_ap, VL.gLst_ap, VL.gF_ap, VL.gCB_ap, VL.gCBF_ap, VL.gOpF_ap, VL.gTru_ap, VL.gNoPart_ap, VL.gPart_ap, VL.gSl_ap, VL.gSlF_ap, VL.gNil_ap, VL.gSeq_ap, VL.gPass_ap, VL.gBrk_ap, VL.gCont_ap, VL.gExpr_ap, VL.gRet_ap, VL.gRetF_ap, VL.gRetN_ap, VL.gIfS_ap, VL.gSet_ap, VL.gSetF_ap, VL.ggName_ap, VL.ggNil_ap, VL.ggCons_ap, VL.ggTup_ap, VL.gAsg_ap, VL.gIt_ap, VL.gRng_ap, VL.gItS_ap, VL.gFor_ap, VL.gLc_ap, VL.gCall_ap, VL.gCallF_ap, VL.gCallI_ap, VL.gCallK_ap, VL.gUn_ap, VL.gUnF_ap, VL.gDnew_ap, VL.gApp_ap, VL.gSetIx_ap, VL.gYes_ap, VL.gRaise_ap, VL.gSetF'_ap, VL.gMeth_ap, VL.gProp_ap, VL.gMake_ap, VL.gaStar_ap, VL.gPar2F_ap, VL.gSetSl_ap, VL.gDc_ap, VL.gItA_ap, VL.gDisp_ap, lcL, hl1, e2, e3, hy, tupleD_l, mT, iT]
  · rcases List.mem_singleton.mp hl with rfl
    exact ⟨q1, q2⟩
  · rcases List.mem_singleton.mp ha with rfl
    exact ⟨y0, y1⟩
end K34
namespace K34
open PySem PySem.Spec PyProof.Rows L2 VL
theorem stD_new {α : Type} {g : α → D} {kvs : List (Str × α)} {x : Str} {a : α} (h : x ∉ kvs.map (·.1)) (hl : kvs.length < 1000) : stD (dS g kvs) (.str x) (g a) = some (dS g (kvs ++ [(x, a)])) := by
  have hn : ∀ k ∈ kvs.map (fun p => D.str p.1), keyOf k ≠ some (.inr x) := fun k hk e => by
    obtain ⟨p, hp, rfl⟩ := List.mem_map.mp hk
    have e : some (Sum.inr p.1 : Key) = some (Sum.inr x) := e
    injection e with e
    injection e with e
    exact h (e ▸ List.mem_map.mpr ⟨p, hp, rfl⟩)
  have hp := putD_new (vs := kvs.map fun p => g p.2) (d := g a) hn
  show (if (kvs.map fun p => D.str p.1).length < big ∧ (kvs.map fun p => D.str p.1).length = (kvs.map fun p => g p.2).length then some (D.dct (putD _ _ (.inr x) (g a)).1 (putD _ _ (.inr x) (g a)).2) else none) = _
  rw [if_pos ⟨by rw [List.length_map]; unfold big; omega, by rw [List.length_map, List.length_map]⟩, hp]
  unfold dS
  rw [List.map_append, List.map_append]
  rfl
theorem for_dict {α : Type} {g : α → D} {Q : α → Prop} {s : GS} {v : Nat} (E : D → D → Option D → VL.Env) (c B : Nat) (hE : ∀ d m y x, (E d m y).set v (some x) = E d m (some x))
    (hs : ∀ k d kvs x, PU k d → k + c < B → x ∉ kvs.map (·.1) → kvs.length < 900 → ∃ a d', s (E d (dS g kvs) (some (.str x))) = .ok (.nx (E d' (dS g (kvs ++ [(x, a)])) (some (.str x)))) ∧ Q a ∧ PU (k + c) d') :
    ∀ {nl : List Str} {k : Nat} {d : D} {kvs : List (Str × α)} {y : Option D}, PU k d → k + nl.length * c + c < B → (kvs.map (·.1) ++ nl).Nodup → kvs.length + nl.length < 900 → ∃ kvs' d' y', forL (ggName v) s (nl.map .str) (E d (dS g kvs) y) = .ok (.nx (E d' (dS g (kvs ++ kvs')) y')) ∧ kvs'.map (·.1) = nl ∧ (∀ p ∈ kvs', Q p.2) ∧ PU (k + nl.length * c) d'
  | [], k, d, kvs, y, h, _, _, _ => ⟨[], d, y, by rw [List.append_nil]; rfl, rfl, (fun _ z => nomatch z), by simpa using h⟩
  | x :: nl, k, d, kvs, y, h, hb, nd, hl => by
    rw [List.length_cons, Nat.succ_mul] at hb
    rw [List.length_cons] at hl
    have nx : x ∉ kvs.map (·.1) := fun hx => by
      have := (List.nodup_append.mp nd).2.2 x hx x List.mem_cons_self
      exact this rfl
    obtain ⟨a, d1, e1, q, h1⟩ := hs k d kvs x h (by omega) nx (by omega)
    obtain ⟨kvs', d', y', e2, hk, hq, h2⟩ := for_dict E c B hE hs (nl := nl) (k := k + c) (d := d1) (kvs := kvs ++ [(x, a)]) (y := some (.str x)) h1 (by omega) (by rw [List.map_append, List.append_assoc]; exact nd) (by rw [List.length_append]; simp only [List.length_cons, List.length_nil]; omega)
    refine ⟨(x, a) :: kvs', d', y', ?_, by rw [List.map_cons, hk], fun p hp => ?_, h2.mono (by rw [List.length_cons, Nat.succ_mul]; omega)⟩
    · rw [List.map_cons]
      unfold forL
      show ((s ((E d (dS g kvs) y).set v (some (.str x)))).bind _) = _
      rw [hE, e1]
      show forL (ggName v) s (nl.map .str) _ = _
      rw [e2, List.append_assoc]
      rfl
    · rcases List.mem_cons.mp hp with rfl | hp
      · exact q
      · exact hq p hp
instance : DecidableRel leS := fun a b => inferInstanceAs (Decidable (a.cps.toList ≤ b.cps.toList))
def mnus : List (List Str) := [["b", "flip", "zz"], ["a", "odd", "zz"], ["t", "tu", "turnip"]]
def anus : List (List Str) := [["odd", "a", "longname"], ["o", "odd", "oddity"]]
theorem nm_all : ∀ nl ∈ mnus ++ anus, ∀ x ∈ nl, Nm x := by
  have : ∀ nl ∈ mnus ++ anus, ∀ x ∈ nl, PyData.strOk x = true ∧ (x == ("turn" : Str)) = false ∧ 1 ≤ x.length ∧ x.length ≤ 8 ∧ ∀ c ∈ x.cps.toList, sLt ⟨#[c]⟩ "a" = false ∧ sLt "z" ⟨#[c]⟩ = false := by decide +kernel
  exact fun nl hl x hx => let ⟨a, b, c, d, e⟩ := this nl hl x hx; ⟨a, b, c, d, e⟩
theorem nd_all : ∀ nl ∈ mnus ++ anus, nl.Nodup ∧ nl.length = 3 := by decide +kernel
theorem so_all : ∀ nl ∈ mnus, nl.Pairwise leS := by decide +kernel
theorem pair_ex {α : Type} (xs : List (Str × α)) : ∃ ys : List (Str × α), ys.Perm xs ∧ (ys.map (·.1)).Pairwise leS := by
  refine ⟨xs.mergeSort fun a b => decide (a.1.cps.toList ≤ b.1.cps.toList), List.mergeSort_perm _ _, List.pairwise_map.mpr ?_⟩
  have h := List.pairwise_mergeSort (le := fun a b : Str × α => decide (a.1.cps.toList ≤ b.1.cps.toList)) (fun a b c h1 h2 => decide_eq_true (List.le_trans (of_decide_eq_true h1) (of_decide_eq_true h2)))
    (fun a b => by
      rcases List.le_total a.1.cps.toList b.1.cps.toList with h | h
      · simp [h]
      · simp [h]) xs
  exact h.imp fun h => of_decide_eq_true h
theorem menu_at {ls : List (List Str)} {r : Int} (h0 : 0 ≤ r) (h1 : r < ls.length) : ∃ nl ∈ ls, ixD (.lst (ls.map fun l => .lst (l.map .str))) (.int r) = some (.lst (nl.map .str)) := by
  refine ⟨ls[r.toNat]'(by omega), List.getElem_mem _, ?_⟩
  show atI (ls.map fun l => D.lst (l.map D.str)) r = _
  rw [atI_in h0 (by rw [List.length_map]; exact h1), List.getElem_map]
theorem take_at {nl : List Str} (hl : nl.length = 3) {j : Int} (h0 : 0 ≤ j) (h1 : j ≤ 3) : slD (.lst (nl.map .str)) none (some j) = some (.lst ((nl.take j.toNat).map .str)) := by
  show some (D.lst (VL.cutD (nl.map D.str) none (some j))) = _
  rw [cut_lo h0 (by rw [List.length_map, hl]; omega), List.map_take]
structure Own' (n : Int) (ms : List (Str × List Int)) (as : List (Str × Mach)) : Prop where
  n1 : 1 ≤ n
  n4 : n ≤ 4
  m : ∃ nl ∈ mnus, ∃ j : Nat, ms.map (·.1) = nl.take j
  mo : ∀ p ∈ ms, IsRow n p.2 ∧ (p.2.length : Int) = n
  a : ∃ nl ∈ anus, ∃ j : Nat, as.map (·.1) = nl.take j
  ao : ∀ p ∈ as, OkM n p.2
theorem own_ok {k : Nat} {d : D} (h : PU k d) (hk : k < 100000) : ∃ n ms as t d', F__law_own [d, .int 4, .int 1] = .ok (oD n ms as t, d') ∧ Own' n ms as ∧ PU (k + 1000) d' := by
  obtain ⟨r0, d0, e0, r00, r01, h0⟩ := draw_ok h (by omega) (n := 4) (by omega) (by omega)
  obtain ⟨r1, d1, e1, r10, r11, h1⟩ := draw_ok h0 (by omega) (n := 3) (by omega) (by omega)
  obtain ⟨r2, d2, e2, r20, r21, h2⟩ := draw_ok h1 (by omega) (n := 4) (by omega) (by omega)
  obtain ⟨nl, hnl, en⟩ := menu_at (ls := mnus) r10 (by show r1 < 3; omega)
  have hnd := nd_all nl (List.mem_append_left _ hnl)
  have et := take_at hnd.2 r20 (by omega)
  have en' : ixD (.lst [.lst [.str "b", .str "flip", .str "zz"], .lst [.str "a", .str "odd", .str "zz"], .lst [.str "t", .str "tu", .str "turnip"]]) (.int r1) = some (.lst (nl.map .str)) := en
  have n1 : 1 ≤ 1 + r0 := by omega
  have n4 : 1 + r0 ≤ 4 := by omega
  have hmd : (nl.take r2.toNat).Nodup := hnd.1.sublist (List.take_sublist _ _)
  have hmlen : (nl.take r2.toNat).length ≤ 3 := by rw [List.length_take]; omega
  generalize hml : nl.take r2.toNat = ml at et hmd hmlen
  generalize hnn : 1 + r0 = n at n1 n4
  have hsz : addD (.int 1) (.int r0) = some (.int n) := by rw [addD_int, hnn]
  have hrg := rng1_in (k := n) (by omega) (by omega)
  have hrl := rng_len (k := n) (by omega)
  -- the maps
  obtain ⟨ms, d3, y3, e3, km, qm, h3⟩ := for_dict (g := iT) (Q := fun m => IsRow n m ∧ (m.length : Int) = n) (v := 7)
    (s := gSetIx 4 (gVar 7) (gCB tupleD (gaCons (gF (gLc (gRng rng1 (gaCons (gVar 3) gaNil)) (ggName 8) gYes (gCallI 2 F__law_draw (gaCons (gOwn 0) (gaCons (gVar 3) gaNil))) [8])) gaNil)))
    (fun d m y => [some d, some (.int 4), some (.int 1), some (.int n), some m, some (.dct [] []), some (.lst [.lst [.str "b", .str "flip", .str "zz"], .lst [.str "a", .str "odd", .str "zz"], .lst [.str "t", .str "tu", .str "turnip"]]), y, none]) 4 900000 (fun _ _ _ _ => rfl) (by
      intro k d kvs x h hk hx hl
      obtain ⟨rs, d', e, hl', hq, h'⟩ := lc_drawn (g := D.int) (Q := In n) (te := gCallI 2 F__law_draw (gaCons (gOwn 0) (gaCons (gVar 3) gaNil))) (vs := [8]) (v := 8)
        (fun d => [some d, some (.int 4), some (.int 1), some (.int n), some (dS iT kvs), some (.dct [] []), some (.lst [.lst [.str "b", .str "flip", .str "zz"], .lst [.str "a", .str "odd", .str "zz"], .lst [.str "t", .str "tu", .str "turnip"]]), some (.str x), none]) 1 999999 (fun _ _ => rfl) (by
          intro k d y h hk
          obtain ⟨r, d', e, q1, q2, h'⟩ := draw_ok h (by omega) (n := n) (by omega) (by omega)
          exact ⟨r, d', by simp [VL.bind_ok, VL.bind_er, VL.rs_d, VL.ofO_some, VL.runD_ap, VL.runF_ap, VL.runI, VL.startR, VL.rs, VL.rsL, VL.strL, VL.pick, VL.wipeR, VL.back, VL.noE_o, VL.gVar_ap, VL.gOwn_ap, VL.gC_ap, VL.gOp_ap, VL.gB_ap, VL.gCh_ap, VL.gAndT_ap, VL.gOrT_ap, VL.gNotT_ap, VL.gAnd_ap, VL.gOr_ap, VL.gNot_ap, VL.gIf_ap, VL.gaNil_ap, VL.gaCons_ap, VL.gTup_ap, VL.gLst_ap, VL.gF_ap, VL.gCB_ap, VL.gCBF_ap, VL.gOpF_ap, VL.gTru_ap, VL.gNoPart_ap, VL.gPart_ap, VL.gSl_ap, VL.gSlF_ap, VL.gNil_ap, VL.gSeq_ap, VL.gPass_ap, VL.gBrk_ap, VL.gCont_ap, VL.gExpr_ap, VL.gRet_ap, VL.gRetF_ap, VL.gRetN_ap, VL.gIfS_ap, VL.gSet_ap, VL.gSetF_ap, VL.ggName_ap, VL.ggNil_ap, VL.ggCons_ap, VL.ggTup_ap, VL.gAsg_ap, VL.gIt_ap, VL.gRng_ap, VL.gItS_ap, VL.gFor_ap, VL.gLc_ap, VL.gCall_ap, VL.gCallF_ap, VL.gCallI_ap, VL.gCallK_ap, VL.gUn_ap, VL.gUnF_ap, VL.gDnew_ap, VL.gApp_ap, VL.gSetIx_ap, VL.gYes_ap, VL.gRaise_ap, VL.gSetF'_ap, VL.gMeth_ap, VL.gProp_ap, VL.gMake_ap, VL.gaStar_ap, VL.gPar2F_ap, VL.gSetSl_ap, VL.gDc_ap, VL.gItA_ap, VL.gDisp_ap, e], ⟨q1, q2⟩, h'⟩) (xs := (cells0.rangeI n).map D.int) h (by omega)
      have hst := stD_new (g := iT) (a := rs) hx (by omega)
      refine ⟨rs, d', ?_, ⟨hq, by omega⟩, h'.mono (by omega)⟩
      have ht : tupleD [.lst (rs.map .int)] = some (iT rs) := rfl
      simp [VL.bind_ok, VL.bind_er, VL.rs_d, VL.ofO_some, VL.runD_ap, VL.runF_ap, VL.runI, VL.startR, VL.rs, VL.rsL, VL.strL, VL.pick, VL.wipeR, VL.back, VL.noE_o, VL.gVar_ap, VL.gOwn_ap, VL.gC_ap, VL.gOp_ap, VL.gB_ap, VL.gCh_ap, VL.gAndT_ap, VL.gOrT_ap, VL.gNotT_ap, VL.gAnd_ap, VL.gOr_ap, VL.gNot_ap, VL.gIf_ap, VL.gaNil_ap, VL.gaCons_ap, VL.gTup_ap, VL.gLst_ap, VL.gF_ap, VL.gCB_ap, VL.gCBF_ap, VL.gOpF_ap, VL.gTru_ap, VL.gNoPart_ap, VL.gPart_ap, VL.gSl_ap, VL.gSlF_ap, VL.gNil_ap, VL.gSeq_ap, VL.gPass_ap, VL.gBrk_ap, VL.gCont_ap, VL.gExpr_ap, VL.gRet_ap, VL.gRetF_ap, VL.gRetN_ap, VL.gIfS_ap, VL.gSet_ap, VL.gSetF_ap, VL.ggName_ap, VL.ggNil_ap, VL.ggCons_ap, VL.ggTup_ap, VL.gAsg_ap, VL.gIt_ap, VL.gRng_ap, VL.gItS_ap, VL.gFor_ap, VL.gLc_ap, VL.gCall_ap, VL.gCallF_ap, VL.gCallI_ap, VL.gCallK_ap, VL.gUn_ap, VL.gUnF_ap, VL.gDnew_ap, VL.gApp_ap, VL.gSetIx_ap, VL.gYes_ap, VL.gRaise_ap, VL.gSetF'_ap, VL.gMeth_ap, VL.gProp_ap, VL.gMake_ap, VL.gaStar_ap, VL.gPar2F_ap, VL.gSetSl_ap, VL.gDc_ap, VL.gItA_ap, VL.gDisp_ap, hrg, e, ht, hst]) (nl := ml) (k := k + 1 + 1 + 1) (d := d2) (kvs := []) (y := none) h2 (by omega) (by simpa using hmd) (by simp only [List.length_nil]; omega)
  obtain ⟨r4, d4, e4, r40, r41, h4⟩ := draw_ok h3 (by omega) (n := 2) (by omega) (by omega)
  obtain ⟨r5, d5, e5, r50, r51, h5⟩ := draw_ok h4 (by omega) (n := 3) (by omega) (by omega)
  obtain ⟨al, hal, ea⟩ := menu_at (ls := anus) r40 (by show r4 < 2; omega)
  have had := nd_all al (List.mem_append_right _ hal)
  have eta := take_at had.2 r50 (by omega)
  have hald : (al.take r5.toNat).Nodup := had.1.sublist (List.take_sublist _ _)
  have hallen : (al.take r5.toNat).length ≤ 3 := by rw [List.length_take]; omega
  generalize haal : al.take r5.toNat = aal at eta hald hallen
  have ea' : ixD (.lst [.lst [.str "odd", .str "a", .str "longname"], .lst [.str "o", .str "odd", .str "oddity"]]) (.int r4) = some (.lst (al.map .str)) := ea
  obtain ⟨as, d6, y6, e6, ka, qa, h6⟩ := for_dict (g := mT) (Q := OkM n) (v := 7)
    (s := gSetIx 5 (gVar 7) (gCallI 3 F__law_machine (gaCons (gOwn 0) (gaCons (gVar 3) (gaCons (gVar 2) gaNil)))))
    (fun d m y => [some d, some (.int 4), some (.int 1), some (.int n), some (dS iT ms), some m, some (.lst [.lst [.str "b", .str "flip", .str "zz"], .lst [.str "a", .str "odd", .str "zz"], .lst [.str "t", .str "tu", .str "turnip"]]), y, none]) 100 800000 (fun _ _ _ _ => rfl) (by
      intro k d kvs x h hk hx hl
      obtain ⟨m, d', e, hm, h'⟩ := machine_ok h (by omega) n1 n4
      have hst := stD_new (g := mT) (a := m) hx (by omega)
      refine ⟨m, d', ?_, hm, h'⟩
      simp [VL.bind_ok, VL.bind_er, VL.rs_d, VL.ofO_some, VL.runD_ap, VL.runF_ap, VL.runI, VL.startR, VL.rs, VL.rsL, VL.strL, VL.pick, VL.wipeR, VL.back, VL.noE_o, VL.gVar_ap, VL.gOwn_ap, VL.gC_ap, VL.gOp_ap, VL.gB_ap, VL.gCh_ap, VL.gAndT_ap, VL.gOrT_ap, VL.gNotT_ap, VL.gAnd_ap, VL.gOr_ap, VL.gNot_ap, VL.gIf_ap, VL.gaNil_ap, VL.gaCons_ap, VL.gTup_ap, VL.gLst_ap, VL.gF_ap, VL.gCB_ap, VL.gCBF_ap, VL.gOpF_ap, VL.gTru_ap, VL.gNoPart_ap, VL.gPart_ap, VL.gSl_ap, VL.gSlF_ap, VL.gNil_ap, VL.gSeq_ap, VL.gPass_ap, VL.gBrk_ap, VL.gCont_ap, VL.gExpr_ap, VL.gRet_ap, VL.gRetF_ap, VL.gRetN_ap, VL.gIfS_ap, VL.gSet_ap, VL.gSetF_ap, VL.ggName_ap, VL.ggNil_ap, VL.ggCons_ap, VL.ggTup_ap, VL.gAsg_ap, VL.gIt_ap, VL.gRng_ap, VL.gItS_ap, VL.gFor_ap, VL.gLc_ap, VL.gCall_ap, VL.gCallF_ap, VL.gCallI_ap, VL.gCallK_ap, VL.gUn_ap, VL.gUnF_ap, VL.gDnew_ap, VL.gApp_ap, VL.gSetIx_ap, VL.gYes_ap, VL.gRaise_ap, VL.gSetF'_ap, VL.gMeth_ap, VL.gProp_ap, VL.gMake_ap, VL.gaStar_ap, VL.gPar2F_ap, VL.gSetSl_ap, VL.gDc_ap, VL.gItA_ap, VL.gDisp_ap, e, hst]) (nl := aal) (d := d5) (kvs := []) (y := y3) h5 (by omega) (by simpa using hald) (by simp only [List.length_nil]; omega)
  obtain ⟨r7, d7, e7, r70, r71, h7⟩ := draw_ok h6 (by omega) (n := 2) (by omega) (by omega)
  refine ⟨n, ms, as, decide (r7 = 0), d7, ?_, ⟨n1, n4, ⟨nl, hnl, r2.toNat, by rw [hml, km]⟩, qm, ⟨al, hal, r5.toNat, by rw [haal, ka]⟩, qa⟩, h7.mono (by omega)⟩
  rw [List.nil_append] at e3 e6
  change forL _ _ _ [some d2, some (.int 4), some (.int 1), some (.int n), some (.dct [] []), some (.dct [] []), _, none, none] = _ at e3
  change forL _ _ _ [some d5, some (.int 4), some (.int 1), some (.int n), some (dS iT ms), some (.dct [] []), _, y3, none] = _ at e6
  have hq := eqD_int r7 0
  unfold F__law_own g__law_own oD
  generalize hM : D.lst [.lst [.str "b", .str "flip", .str "zz"], .lst [.str "a", .str "odd", .str "zz"], .lst [.str "t", .str "tu", .str "turnip"]] = M at *
  simp [VL.bind_ok, VL.bind_er, VL.rs_d, VL.ofO_some, VL.runD_ap, VL.runF_ap, VL.runI, VL.startR, VL.rs, VL.rsL, VL.strL, VL.pick, VL.wipeR, VL.back, VL.noE_o, VL.gVar_ap, VL.gOwn_ap, VL.gC_ap, VL.gOp_ap, VL.gB_ap, VL.gCh_ap, VL.gAndT_ap, VL.gOrT_ap, VL.gNotT_ap, VL.gAnd_ap, VL.gOr_ap, VL.gNot_ap, VL.gIf_ap, VL.gaNil_ap, VL.gaCons_ap, VL.gTup_ap, VL.gLst_ap, VL.gF_ap, VL.gCB_ap, VL.gCBF_ap, VL.gOpF_ap, VL.gTru_ap, VL.gNoPart_ap, VL.gPart_ap, VL.gSl_ap, VL.gSlF_ap, VL.gNil_ap, VL.gSeq_ap, VL.gPass_ap, VL.gBrk_ap, VL.gCont_ap, VL.gExpr_ap, VL.gRet_ap, VL.gRetF_ap, VL.gRetN_ap, VL.gIfS_ap, VL.gSet_ap, VL.gSetF_ap, VL.ggName_ap, VL.ggNil_ap, VL.ggCons_ap, VL.ggTup_ap, VL.gAsg_ap, VL.gIt_ap, VL.gRng_ap, VL.gItS_ap, VL.gFor_ap, VL.gLc_ap, VL.gCall_ap, VL.gCallF_ap, VL.gCallI_ap, VL.gCallK_ap, VL.gUn_ap, VL.gUnF_ap, VL.gDnew_ap, VL.gApp_ap, VL.gSetIx_ap, VL.gYes_ap, VL.gRaise_ap, VL.gSetF'_ap, VL.gMeth_ap, VL.gProp_ap, VL.gMake_ap, VL.gaStar_ap, VL.gPar2F_ap, VL.gSetSl_ap, VL.gDc_ap, VL.gItA_ap, VL.gDisp_ap, e0, hsz, hM, e1, e2, en', et, itA_l, e3, e4, e5, ea', eta, e6, e7, hq]
end K34
namespace K34
open PySem PySem.Spec PyProof.Rows L2 VL
section
variable {n : Int} {ms : List (Str × List Int)} {as : List (Str × Mach)} {t : Bool}
theorem Own'.dm (o : Own' n ms as) : Dk iT ms ms := by
  obtain ⟨nl, hn, j, e⟩ := o.m
  have h := nd_all nl (List.mem_append_left _ hn)
  refine ⟨fun p hp => ?_, ?_, List.Perm.refl _, ?_, ?_⟩
  · have : p.1 ∈ ms.map (·.1) := List.mem_map.mpr ⟨p, hp, rfl⟩
    rw [e] at this
    exact nm_all nl (List.mem_append_left _ hn) _ (List.mem_of_mem_take this)
  · rw [e]
    exact h.1.sublist (List.take_sublist _ _)
  · rw [e]
    exact (so_all nl hn).sublist (List.take_sublist _ _)
  · have := congrArg List.length e
    rw [List.length_map, List.length_take] at this
    omega
theorem Own'.st (o : Own' n ms as) : St n ms := ⟨o.n1, o.n4, o.dm.nm, o.mo, by
  obtain ⟨nl, hn, j, e⟩ := o.m
  have h := nd_all nl (List.mem_append_left _ hn)
  have := congrArg List.length e
  rw [List.length_map, List.length_take] at this
  omega⟩
theorem Own'.da (o : Own' n ms as) : ∃ as', Dk mT as as' ∧ ∀ p ∈ as', OkM n p.2 := by
  obtain ⟨nl, hn, j, e⟩ := o.a
  have h := nd_all nl (List.mem_append_right _ hn)
  obtain ⟨as', hp, hs⟩ := pair_ex as
  refine ⟨as', ⟨fun p hp' => ?_, ?_, hp, hs, ?_⟩, fun p hp' => o.ao p (hp.mem_iff.mp hp')⟩
  · have : p.1 ∈ as.map (·.1) := List.mem_map.mpr ⟨p, hp.mem_iff.mp hp', rfl⟩
    rw [e] at this
    exact nm_all nl (List.mem_append_right _ hn) _ (List.mem_of_mem_take this)
  · rw [e]
    exact h.1.sublist (List.take_sublist _ _)
  · have := congrArg List.length e
    rw [List.length_map, List.length_take] at this
    omega
theorem law_setting_ok (o : Own' n ms as) : ∃ as', F__law_setting [oD n ms as t] = .ok (sD n ms as' t) := by
  obtain ⟨as', da, ha⟩ := o.da
  have h1 := checked_asks_ok da o.n1 o.n4 ha
  have h2 := init_ok (t := t) o.n1 o.n4 o.dm o.mo h1
  refine ⟨as', ?_⟩
  unfold F__law_setting g__law_setting
  simp [VL.bind_ok, VL.bind_er, VL.rs_d, VL.ofO_some, VL.runD_ap, VL.runF_ap, VL.runI, VL.startR, VL.rs, VL.rsL, VL.strL, VL.pick, VL.wipeR, VL.back, VL.noE_o, VL.gVar_ap, VL.gOwn_ap, VL.gC_ap, VL.gOp_ap, VL.gB_ap, VL.gCh_ap, VL.gAndT_ap, VL.gOrT_ap, VL.gNotT_ap, VL.gAnd_ap, VL.gOr_ap, VL.gNot_ap, VL.gIf_ap, VL.gaNil_ap, VL.gaCons_ap, VL.gTup_ap, VL.gLst_ap, VL.gF_ap, VL.gCB_ap, VL.gCBF_ap, VL.gOpF_ap, VL.gTru_ap, VL.gNoPart_ap, VL.gPart_ap, VL.gSl_ap, VL.gSlF_ap, VL.gNil_ap, VL.gSeq_ap, VL.gPass_ap, VL.gBrk_ap, VL.gCont_ap, VL.gExpr_ap, VL.gRet_ap, VL.gRetF_ap, VL.gRetN_ap, VL.gIfS_ap, VL.gSet_ap, VL.gSetF_ap, VL.ggName_ap, VL.ggNil_ap, VL.ggCons_ap, VL.ggTup_ap, VL.gAsg_ap, VL.gIt_ap, VL.gRng_ap, VL.gItS_ap, VL.gFor_ap, VL.gLc_ap, VL.gCall_ap, VL.gCallF_ap, VL.gCallI_ap, VL.gCallK_ap, VL.gUn_ap, VL.gUnF_ap, VL.gDnew_ap, VL.gApp_ap, VL.gSetIx_ap, VL.gYes_ap, VL.gRaise_ap, VL.gSetF'_ap, VL.gMeth_ap, VL.gProp_ap, VL.gMake_ap, VL.gaStar_ap, VL.gPar2F_ap, VL.gSetSl_ap, VL.gDc_ap, VL.gItA_ap, VL.gDisp_ap, o0, o1, o2, o3, h2]
theorem acts_ok (S : St n ms) : ∀ a ∈ actsOf ms t, PyData.strOk a = true := fun a h => by
  rcases actsOf_mem h with h | rfl
  · obtain ⟨p, hp, rfl⟩ := List.mem_map.mp h
    exact (S.nm p hp).ok
  · decide +kernel
theorem okd_strs {k : Nat} {xs : List Str} (h : ∀ a ∈ xs, PyData.strOk a = true) : Okd (k + 1) (.lst (xs.map .str)) := .lst fun d hd => by
  obtain ⟨x, hx, rfl⟩ := List.mem_map.mp hd
  exact .str (h x hx)
theorem ne_nil {xs : List Str} (h : ∀ a ∈ xs, PyData.strOk a = true) : neD (.lst (xs.map .str)) (.lst []) = some (.bl (!xs.isEmpty)) := by
  rw [neD_of (k := 1) (okd_strs h) (.lst (by intro d hd; cases hd))]
  cases xs <;> rfl
theorem sort_two (a b : Int) : sortF [.lst [.int a, .int b]] = some (.lst [.int (if a ≤ b then a else b), .int (if a ≤ b then b else a)]) := by
  show sortL [.int a, .int b] = _
  have : sortL [.int a, .int b] = some (.lst ((sortI [a, b]).map .int)) := rfl
  rw [this]
  by_cases h : a ≤ b
  · rw [sortI_of (List.Perm.refl _) (by simp [h]), if_pos h, if_pos h]
    rfl
  · rw [sortI_of (ys := [b, a]) (List.Perm.swap _ _ _) (by simp; omega), if_neg h, if_neg h]
    rfl
theorem for_app {α ζ : Type} {g : α → D} {Q : α → Prop} {s : GS} {v : Nat} (E : D → D → ζ → VL.Env) (f : ζ → D → ζ) (c B : Nat) (hE : ∀ d m z x, (E d m z).set v (some x) = E d m (f z x))
    (hs : ∀ k d kvs z x, PU k d → k + c < B → kvs.length < 900 → ∃ a d' z', s (E d (.lst (kvs.map g)) (f z x)) = .ok (.nx (E d' (.lst ((kvs ++ [a]).map g)) z')) ∧ Q a ∧ PU (k + c) d') :
    ∀ {xs : List D} {k : Nat} {d : D} {kvs : List α} {z : ζ}, PU k d → k + xs.length * c + c < B → kvs.length + xs.length < 900 → ∃ kvs' d' z', forL (ggName v) s xs (E d (.lst (kvs.map g)) z) = .ok (.nx (E d' (.lst ((kvs ++ kvs').map g)) z')) ∧ kvs'.length = xs.length ∧ (∀ p ∈ kvs', Q p) ∧ PU (k + xs.length * c) d'
  | [], k, d, kvs, z, h, _, _ => ⟨[], d, z, by rw [List.append_nil]; rfl, rfl, (fun _ z => nomatch z), by simpa using h⟩
  | x :: xs, k, d, kvs, z, h, hb, hl => by
    rw [List.length_cons, Nat.succ_mul] at hb
    rw [List.length_cons] at hl
    obtain ⟨a, d1, z1, e1, q, h1⟩ := hs k d kvs z x h (by omega) (by omega)
    obtain ⟨kvs', d', z', e2, hkl, hq, h2⟩ := for_app E f c B hE hs (xs := xs) (k := k + c) (d := d1) (kvs := kvs ++ [a]) (z := z1) h1 (by omega) (by rw [List.length_append]; simp only [List.length_cons, List.length_nil]; omega)
    refine ⟨a :: kvs', d', z', ?_, congrArg (· + 1) hkl, fun p hp => ?_, h2.mono (by rw [List.length_cons, Nat.succ_mul]; omega)⟩
    · unfold forL
      show ((s ((E d (.lst (kvs.map g)) z).set v (some x))).bind _) = _
      rw [hE, e1]
      show forL (ggName v) s xs _ = _
      rw [e2, List.append_assoc]
      rfl
    · rcases List.mem_cons.mp hp with rfl | hp
      · exact q
      · exact hq p hp
theorem plan_ok (S : St n ms) {k : Nat} {d : D} (h : PU k d) (hk : k < 100000) {long : Int} (l0 : 0 ≤ long) (l6 : long ≤ 60) {most : Int} (m0 : 0 ≤ most) (m4 : most ≤ 40) :
    ∃ (ss : List Stp) (d' : D), F__law_plan [d, oD n ms as t, .int long, .int most] = .ok (.lst (ss.map pD), d') ∧ ss.length ≤ 40 ∧ (∀ s ∈ ss, OkS (actsOf ms t) long s) ∧ PU (k + 200) d' := by
  have hd := law_deeds_ok (n := n) (as := as) (t := t) S.ln
  have hn := ne_nil (acts_ok (t := t) S)
  have hle : (actsOf ms t).length < 100 := by
    have := (sortS_perm (ms.map (·.1) ++ if t = true then [("turn" : Str)] else [])).length_eq
    have hl := S.ln
    unfold actsOf
    rw [this, List.length_append, List.length_map]
    cases t <;> simp <;> omega
  generalize hA : actsOf ms t = A at *
  obtain ⟨r, d1, e1, r0, r1, h1⟩ := draw_ok h (by omega) (n := most + 1) (by omega) (by omega)
  have hc : ∃ c : Int, mulD (.int r) (.int (if (!A.isEmpty) = true then 1 else 0)) = some (.int c) ∧ 0 ≤ c ∧ c ≤ 40 ∧ (c ≠ 0 → A ≠ []) := by
    cases A with
    | nil => exact ⟨0, by rw [show (if (!([] : List Str).isEmpty) = true then (1 : Int) else 0) = 0 from rfl, mulD_int (by omega) (by omega) (by omega) (by omega), Int.mul_zero], by omega, by omega, fun z => absurd rfl z⟩
    | cons a A => exact ⟨r, by rw [show (if (!(a :: A).isEmpty) = true then (1 : Int) else 0) = 1 from rfl, mulD_int (by omega) (by omega) (by omega) (by omega), Int.mul_one], by omega, by omega, fun _ => List.cons_ne_nil _ _⟩
  obtain ⟨c, ec, c0, c4, cn⟩ := hc
  have hrl := rng_len (k := c) c0
  have hrg := rng1_in (k := c) c0 (by omega)
  have key : ∃ (ss : List Stp) (d' : D) (z' : Option D × Option D × Option D), forL (ggName 6) (gSeq (gAsg (gF (gCBF sortF (gaCons (gF (gLst (gaCons (gCallI 2 F__law_draw (gaCons (gOwn 0) (gaCons (gOp addD (gVar 2) (gC (.int 1))) gaNil))) (gaCons (gCallI 2 F__law_draw (gaCons (gOwn 0) (gaCons (gOp addD (gVar 2) (gC (.int 1))) gaNil))) gaNil)))) gaNil))) (ggTup 2 (ggCons (ggName 7) (ggCons (ggName 8) ggNil))))
    (gExpr (gApp 5 (gTup (gaCons (gOp ixD (gVar 4) (gCallI 2 F__law_draw (gaCons (gOwn 0) (gaCons (gCB lenD (gaCons (gVar 4) gaNil)) gaNil)))) (gaCons (gVar 7) (gaCons (gVar 8) gaNil))))))) ((cells0.rangeI c).map D.int) [some d1, some (oD n ms as t), some (.int long), some (.int most), some (.lst (A.map .str)), some (.lst []), none, none, none] = .ok (.nx [some d', some (oD n ms as t), some (.int long), some (.int most), some (.lst (A.map .str)), some (.lst (ss.map pD)), z'.1, z'.2.1, z'.2.2]) ∧ ss.length ≤ 40 ∧ (∀ s ∈ ss, OkS A long s) ∧ PU (k + 1 + ((cells0.rangeI c).map D.int).length * 3) d' := by
   by_cases hA0 : A = []
   · have hc0 : c = 0 := Classical.byContradiction fun z => cn z hA0
     subst hc0
     exact ⟨[], d1, (none, none, none), rfl, by decide, (by intro s hs; cases hs), h1.mono (by omega)⟩
   obtain ⟨ss, d', z', e2, hsl, hq, h2⟩ := for_app (g := pD) (Q := OkS A long) (v := 6) (ζ := Option D × Option D × Option D)
    (s := gSeq (gAsg (gF (gCBF sortF (gaCons (gF (gLst (gaCons (gCallI 2 F__law_draw (gaCons (gOwn 0) (gaCons (gOp addD (gVar 2) (gC (.int 1))) gaNil))) (gaCons (gCallI 2 F__law_draw (gaCons (gOwn 0) (gaCons (gOp addD (gVar 2) (gC (.int 1))) gaNil))) gaNil)))) gaNil))) (ggTup 2 (ggCons (ggName 7) (ggCons (ggName 8) ggNil))))
    (gExpr (gApp 5 (gTup (gaCons (gOp ixD (gVar 4) (gCallI 2 F__law_draw (gaCons (gOwn 0) (gaCons (gCB lenD (gaCons (gVar 4) gaNil)) gaNil)))) (gaCons (gVar 7) (gaCons (gVar 8) gaNil)))))))
    (fun d m z => [some d, some (oD n ms as t), some (.int long), some (.int most), some (.lst (A.map .str)), some m, z.1, z.2.1, z.2.2]) (fun z x => (some x, z.2)) 3 900000 (fun _ _ _ _ => rfl) (by
      intro k d kvs z x h hk hl
      have hA1 : 1 ≤ A.length := List.length_pos_iff.mpr hA0
      obtain ⟨a, d1, e1, a0, a1, h1⟩ := draw_ok h (by omega) (n := long + 1) (by omega) (by omega)
      obtain ⟨b, d2, e2, b0, b1, h2⟩ := draw_ok h1 (by omega) (n := long + 1) (by omega) (by omega)
      obtain ⟨r, d3, e3, r0, r1, h3⟩ := draw_ok h2 (by omega) (n := (A.length : Int)) (by omega) (by omega)
      have hlen : lenD [.lst (A.map .str)] = some (.int A.length) := by
        show some (D.int (A.map D.str).length) = _
        rw [List.length_map]
      have hix : ixD (.lst (A.map .str)) (.int r) = some (.str (A[r.toNat]'(by omega))) := by
        show atI (A.map D.str) r = _
        rw [atI_in r0 (by rw [List.length_map]; omega), List.getElem_map]
      have hmem : A[r.toNat]'(by omega) ∈ A := List.getElem_mem _
      revert hix hmem
      generalize A[r.toNat]'(by omega) = nm
      intro hix hmem
      have hso := sort_two a b
      have hF : 0 ≤ (if a ≤ b then a else b) ∧ (if a ≤ b then a else b) ≤ (if a ≤ b then b else a) ∧ (if a ≤ b then b else a) ≤ long := by
        by_cases hab : a ≤ b
        · rw [if_pos hab, if_pos hab]; omega
        · rw [if_neg hab, if_neg hab]; omega
      revert hso hF
      generalize (if a ≤ b then a else b) = f
      generalize (if a ≤ b then b else a) = l
      intro hso hF
      have hap : appD (.lst (kvs.map pD)) (.tup [.str nm, .int f, .int l]) = some (.lst ((kvs ++ [(nm, f, l)]).map pD)) := by
        show (if (kvs.map pD).length < big then _ else _) = _
        rw [if_pos (by rw [List.length_map]; unfold big; omega), List.map_append]
        rfl
      refine ⟨(nm, f, l), d3, (some x, some (.int f), some (.int l)), ?_, ⟨hmem, hF.1, hF.2.1, hF.2.2⟩, h3.mono (by omega)⟩
      revert hap
      generalize (kvs ++ [(nm, f, l)]).map pD = Y
      generalize kvs.map pD = Y'
      intro hap
      simp [VL.bind_ok, VL.bind_er, VL.rs_d, VL.ofO_some, VL.runD_ap, VL.runF_ap, VL.runI, VL.startR, VL.rs, VL.rsL, VL.strL, VL.pick, VL.wipeR, VL.back, VL.noE_o, VL.gVar_ap, VL.gOwn_ap, VL.gC_ap, VL.gOp_ap, VL.gB_ap, VL.gCh_ap, VL.gAndT_ap, VL.gOrT_ap, VL.gNotT_ap, VL.gAnd_ap, VL.gOr_ap, VL.gNot_ap, VL.gIf_ap, VL.gaNil_ap, VL.gaCons_ap, VL.gTup_ap, VL.gLst_ap, VL.gF_ap, VL.gCB_ap, VL.gCBF_ap, VL.gOpF_ap, VL.gTru_ap, VL.gNoPart_ap, VL.gPart_ap, VL.gSl_ap, VL.gSlF_ap, VL.gNil_ap, VL.gSeq_ap, VL.gPass_ap, VL.gBrk_ap, VL.gCont_ap, VL.gExpr_ap, VL.gRet_ap, VL.gRetF_ap, VL.gRetN_ap, VL.gIfS_ap, VL.gSet_ap, VL.gSetF_ap, VL.ggName_ap, VL.ggNil_ap, VL.ggCons_ap, VL.ggTup_ap, VL.gAsg_ap, VL.gIt_ap, VL.gRng_ap, VL.gItS_ap, VL.gFor_ap, VL.gLc_ap, VL.gCall_ap, VL.gCallF_ap, VL.gCallI_ap, VL.gCallK_ap, VL.gUn_ap, VL.gUnF_ap, VL.gDnew_ap, VL.gApp_ap, VL.gSetIx_ap, VL.gYes_ap, VL.gRaise_ap, VL.gSetF'_ap, VL.gMeth_ap, VL.gProp_ap, VL.gMake_ap, VL.gaStar_ap, VL.gPar2F_ap, VL.gSetSl_ap, VL.gDc_ap, VL.gItA_ap, VL.gDisp_ap, addD_int, e1, e2, hso, isLst, hlen, e3, hix, hap]) (xs := (cells0.rangeI c).map D.int) (k := k + 1) (d := d1) (kvs := []) (z := (none, none, none)) h1 (by omega) (by simp only [List.length_nil]; omega)
   rw [List.nil_append] at e2
   exact ⟨ss, d', z', e2, by omega, hq, h2⟩
  obtain ⟨ss, d', z', e2, hsl, hq, h2⟩ := key
  refine ⟨ss, d', ?_, hsl, hq, h2.mono (by omega)⟩
  have hn' : neD (.lst (A.map .str)) (.lst []) = some (.bl (!A.isEmpty)) := hn
  revert hn' ec
  generalize (!A.isEmpty) = bb
  intro ec hn'
  unfold F__law_plan g__law_plan
  simp [VL.bind_ok, VL.bind_er, VL.rs_d, VL.ofO_some, VL.runD_ap, VL.runF_ap, VL.runI, VL.startR, VL.rs, VL.rsL, VL.strL, VL.pick, VL.wipeR, VL.back, VL.noE_o, VL.gVar_ap, VL.gOwn_ap, VL.gC_ap, VL.gOp_ap, VL.gB_ap, VL.gCh_ap, VL.gAndT_ap, VL.gOrT_ap, VL.gNotT_ap, VL.gAnd_ap, VL.gOr_ap, VL.gNot_ap, VL.gIf_ap, VL.gaNil_ap, VL.gaCons_ap, VL.gTup_ap, VL.gLst_ap, VL.gF_ap, VL.gCB_ap, VL.gCBF_ap, VL.gOpF_ap, VL.gTru_ap, VL.gNoPart_ap, VL.gPart_ap, VL.gSl_ap, VL.gSlF_ap, VL.gNil_ap, VL.gSeq_ap, VL.gPass_ap, VL.gBrk_ap, VL.gCont_ap, VL.gExpr_ap, VL.gRet_ap, VL.gRetF_ap, VL.gRetN_ap, VL.gIfS_ap, VL.gSet_ap, VL.gSetF_ap, VL.ggName_ap, VL.ggNil_ap, VL.ggCons_ap, VL.ggTup_ap, VL.gAsg_ap, VL.gIt_ap, VL.gRng_ap, VL.gItS_ap, VL.gFor_ap, VL.gLc_ap, VL.gCall_ap, VL.gCallF_ap, VL.gCallI_ap, VL.gCallK_ap, VL.gUn_ap, VL.gUnF_ap, VL.gDnew_ap, VL.gApp_ap, VL.gSetIx_ap, VL.gYes_ap, VL.gRaise_ap, VL.gSetF'_ap, VL.gMeth_ap, VL.gProp_ap, VL.gMake_ap, VL.gaStar_ap, VL.gPar2F_ap, VL.gSetSl_ap, VL.gDc_ap, VL.gItA_ap, VL.gDisp_ap, hd, addD_int, e1, hn', intD_bl]
  rw [ec]
  simp [VL.bind_ok, VL.bind_er, VL.rs_d, VL.ofO_some, VL.runD_ap, VL.runF_ap, VL.runI, VL.startR, VL.rs, VL.rsL, VL.strL, VL.pick, VL.wipeR, VL.back, VL.noE_o, VL.gVar_ap, VL.gOwn_ap, VL.gC_ap, VL.gOp_ap, VL.gB_ap, VL.gCh_ap, VL.gAndT_ap, VL.gOrT_ap, VL.gNotT_ap, VL.gAnd_ap, VL.gOr_ap, VL.gNot_ap, VL.gIf_ap, VL.gaNil_ap, VL.gaCons_ap, VL.gTup_ap, VL.gLst_ap, VL.gF_ap, VL.gCB_ap, VL.gCBF_ap, VL.gOpF_ap, VL.gTru_ap, VL.gNoPart_ap, VL.gPart_ap, VL.gSl_ap, VL.gSlF_ap, VL.gNil_ap, VL.gSeq_ap, VL.gPass_ap, VL.gBrk_ap, VL.gCont_ap, VL.gExpr_ap, VL.gRet_ap, VL.gRetF_ap, VL.gRetN_ap, VL.gIfS_ap, VL.gSet_ap, VL.gSetF_ap, VL.ggName_ap, VL.ggNil_ap, VL.ggCons_ap, VL.ggTup_ap, VL.gAsg_ap, VL.gIt_ap, VL.gRng_ap, VL.gItS_ap, VL.gFor_ap, VL.gLc_ap, VL.gCall_ap, VL.gCallF_ap, VL.gCallI_ap, VL.gCallK_ap, VL.gUn_ap, VL.gUnF_ap, VL.gDnew_ap, VL.gApp_ap, VL.gSetIx_ap, VL.gYes_ap, VL.gRaise_ap, VL.gSetF'_ap, VL.gMeth_ap, VL.gProp_ap, VL.gMake_ap, VL.gaStar_ap, VL.gPar2F_ap, VL.gSetSl_ap, VL.gDc_ap, VL.gItA_ap, VL.gDisp_ap, hrg, e2]
end
end K34
namespace K34
open PySem PySem.Spec PyProof.Rows L2 VL
theorem for_keep {ζ : Type} {s : GS} {v : Nat} (E : D → ζ → VL.Env) (f : ζ → D → ζ) (c B : Nat) (hE : ∀ d z x, (E d z).set v (some x) = E d (f z x))
    (hs : ∀ k d z x, PU k d → k + c < B → ∃ d' z', s (E d (f z x)) = .ok (.nx (E d' z')) ∧ PU (k + c) d') :
    ∀ {xs : List D} {k : Nat} {d : D} {z : ζ}, PU k d → k + xs.length * c + c < B → ∃ d' z', forL (ggName v) s xs (E d z) = .ok (.nx (E d' z')) ∧ PU (k + xs.length * c) d'
  | [], k, d, z, h, _ => ⟨d, z, rfl, by simpa using h⟩
  | x :: xs, k, d, z, h, hb => by
    rw [List.length_cons, Nat.succ_mul] at hb
    obtain ⟨d1, z1, e1, h1⟩ := hs k d z x h (by omega)
    obtain ⟨d', z', e2, h2⟩ := for_keep E f c B hE hs (xs := xs) (k := k + c) (d := d1) (z := z1) h1 (by omega)
    refine ⟨d', z', ?_, h2.mono (by rw [List.length_cons, Nat.succ_mul]; omega)⟩
    unfold forL
    show ((s ((E d z).set v (some x))).bind _) = _
    rw [hE, e1]
    exact e2
theorem look_mem {m : List Int} {x : Int} (h0 : 0 ≤ x) (h1 : x < m.length) : look m x ∈ m := by
  unfold look
  rw [List.getD_eq_getElem?_getD, List.getElem?_eq_getElem (by omega)]
  exact List.getElem_mem _
theorem const_look {m : List Int} (h : m = rep1 m) {x : Int} (h0 : 0 ≤ x) (h1 : x < m.length) : look m x = look m 0 := by
  have ha := look_mem h0 h1
  have hb := look_mem (m := m) (Int.le_refl 0) (by omega)
  revert h ha hb
  generalize look m x = a
  generalize look m 0 = b
  intro h ha hb
  cases m with
  | nil => exact nomatch ha
  | cons y m =>
    rw [rep1_cons] at h
    have := (List.eq_replicate_iff.mp h).2
    rw [this a ha, this b hb]
section
variable {n : Int} {ms : List (Str × List Int)} {as as' : List (Str × Mach)} {t : Bool}
theorem okd_fD (c : Cel) : Okd 2 (fD c) := .tup fun d hd => by
  rcases List.mem_cons.mp hd with rfl | hd
  · split
    · exact .non
    · exact .int _
  · rcases List.mem_singleton.mp hd with rfl
    exact okd_iT _
theorem okd_goal (cs : List Cel) : Okd 3 (.tup (cs.map fD)) := .tup fun d hd => by
  obtain ⟨c, _, rfl⟩ := List.mem_map.mp hd
  exact okd_fD c
end
end K34
namespace K34
open PySem PySem.Spec PyProof.Rows L2 VL
theorem lcL_filt {α : Type} {c : α → D} (p : α → Bool) (f : α → D) {gg : GG} {tt : GT} {te : G} {vs : List Nat} {ρ : VL.Env} : ∀ {xs : List α}, (∀ x ∈ xs, ((gg (c x) ρ).bind fun ρ1 => (tt ρ1).bind fun s => if s.1 = true then (te s.2).bind fun r => .ok (some r.1, wipeR r.2 vs) else .ok (none, wipeR s.2 vs)) = .ok (if p x = true then some (.d (f x)) else none, ρ)) → lcL gg tt te vs (xs.map c) ρ = .ok ((xs.filter p).map f, ρ)
  | [], _ => rfl
  | x :: xs, h => by
    obtain ⟨ρ1, e1, e⟩ := bind_inv (h x List.mem_cons_self)
    obtain ⟨⟨b, ρ2⟩, e2, e⟩ := bind_inv e
    have ih := lcL_filt (gg := gg) (tt := tt) (te := te) (vs := vs) (c := c) p f (ρ := ρ) (xs := xs) fun d hd => h d (List.mem_cons_of_mem _ hd)
    rw [List.map_cons]
    unfold lcL
    rw [e1]
    show (noE (tt ρ1)).bind _ = _
    rw [e2]
    show (if b = true then _ else _) = _
    cases b with
    | true =>
      rw [if_pos rfl]
      have e : (te ρ2).bind (fun r => Res.ok (some r.1, wipeR r.2 vs)) = .ok (if p x = true then some (.d (f x)) else none, ρ) := e
      obtain ⟨⟨w, ρ3⟩, e3, e⟩ := bind_inv e
      injection e with e
      injection e with ew e4
      rw [e3]
      cases hp : p x with
      | false => rw [hp] at ew; cases ew
      | true =>
        rw [hp, if_pos rfl] at ew
        cases ew
        show (lcL gg tt te vs (xs.map c) (wipeR ρ3 vs)).bind _ = _
        rw [show wipeR ρ3 vs = ρ from e4, ih, List.filter_cons_of_pos hp]
        rfl
    | false =>
      rw [if_neg Bool.false_ne_true]
      have e : Res.ok ((none : Option W), wipeR ρ2 vs) = .ok (if p x = true then some (.d (f x)) else none, ρ) := e
      injection e with e
      injection e with ew e4
      cases hp : p x with
      | true => rw [hp] at ew; cases ew
      | false => rw [show wipeR ρ2 vs = ρ from e4, ih, List.filter_cons_of_neg (by rw [hp]; exact Bool.false_ne_true)]
theorem foldl_filt {α β : Type} (p : α → Bool) (f : α → β) : ∀ (xs : List α) (a : List β), xs.foldl (fun a i => if p i = true then a ++ [f i] else a) a = a ++ (xs.filter p).map f
  | [], a => by simp
  | x :: xs, a => by
    rw [List.foldl_cons, foldl_filt p f xs]
    cases hp : p x with
    | true => rw [if_pos rfl, List.filter_cons_of_pos hp, List.map_cons, List.append_assoc]; rfl
    | false => rw [if_neg Bool.false_ne_true, List.filter_cons_of_neg (by rw [hp]; exact Bool.false_ne_true)]
theorem rng1_any {k : Int} (h0 : -1 ≤ k) (h : k ≤ 1000) : rng1 [.d (.int k)] = some ((List.range k.toNat).map fun (i : Nat) => D.int (i : Int)) := by
  unfold rng1
  dsimp only
  rw [if_pos ⟨by omega, by omega⟩]
  unfold rngL
  simp
theorem enumL_rng {N : Nat} (g : Nat → D) : enumL ((List.range N).map g) = (List.range N).map fun k => .tup [.int (k : Nat), g k] := by
  unfold enumL
  apply List.ext_getElem
  · simp
  · intro i h1 h2
    simp
noncomputable def fm (n : Int) (ms : List (Str × List Int)) (long : Int) (ss : List Stp) : D := .tup ((after ms n long ss).map fD)
noncomputable def lk (n : Int) (ms : List (Str × List Int)) (long : Int) (a b : List Stp) : Bool := eqB (fm n ms long a) (fm n ms long b)
def pL (ss : List Stp) : D := .lst (ss.map pD)
theorem okd_fm (n : Int) (ms : List (Str × List Int)) (long : Int) (ss : List Stp) : Okd 3 (fm n ms long ss) := .tup fun d hd => by
  obtain ⟨c, _, rfl⟩ := List.mem_map.mp hd
  refine .tup fun d hd => ?_
  rcases List.mem_cons.mp hd with rfl | hd
  · split
    · exact .non
    · exact .int _
  · rcases List.mem_singleton.mp hd with rfl
    exact okd_iT _
theorem eq_fm {n : Int} {ms : List (Str × List Int)} {long : Int} {a b : List Stp} : eqD (fm n ms long a) (fm n ms long b) = some (.bl (lk n ms long a b)) := eqD_of (okd_fm n ms long a) (okd_fm n ms long b)
def del (ss : List Stp) (k : Nat) : List Stp := ss.take k ++ ss.drop (k + 1)
def swp (ss : List Stp) (k : Nat) : List Stp := ss.take k ++ [ss.getD (k + 1) default, ss.getD k default] ++ ss.drop (k + 2)
theorem pL_lo {ss : List Stp} {k : Nat} (h : k ≤ ss.length) : slD (pL ss) none (some (k : Int)) = some (pL (ss.take k)) := by
  show some (D.lst (VL.cutD (ss.map pD) none (some (k : Int)))) = _
  rw [cut_lo (by omega) (by rw [List.length_map]; omega), ← List.map_take]
  rfl
theorem pL_hi {ss : List Stp} {k : Nat} (h : k ≤ ss.length) : slD (pL ss) (some (k : Int)) none = some (pL (ss.drop k)) := by
  show some (D.lst (VL.cutD (ss.map pD) (some (k : Int)) none)) = _
  rw [cut_hi (by omega) (by rw [List.length_map]; omega), ← List.map_drop]
  rfl
theorem pL_add {a b : List Stp} (h : a.length + b.length ≤ big) : addD (pL a) (pL b) = some (pL (a ++ b)) := by
  unfold pL
  rw [addD_l (by rw [List.length_map, List.length_map]; exact h), List.map_append]
theorem pL_len {ss : List Stp} : lenD [pL ss] = some (.int ss.length) := by
  show some (D.int (ss.map pD).length) = _
  rw [List.length_map]
theorem pL_ix {ss : List Stp} {k : Nat} (h : k < ss.length) : ixD (pL ss) (.int k) = some (pD (ss.getD k default)) := by
  show atI (ss.map pD) (k : Int) = _
  rw [VL.atI_nat, List.getElem?_map, List.getElem?_eq_getElem h, List.getD_eq_getElem?_getD, List.getElem?_eq_getElem h]
  rfl
theorem strL_app (A : List D) {ws : List W} {ds : List D} (h : strL ws = some ds) : strL (A.map W.d ++ ws) = some (A ++ ds) := by
  induction A with
  | nil => exact h
  | cons x A ih =>
    show (strL (A.map W.d ++ ws)).map (x :: ·) = _
    rw [ih]
    rfl
section
variable {n : Int} {ms : List (Str × List Int)} {as : List (Str × Mach)} {t : Bool} (S : St n ms) {long : Int} (h0 : 0 ≤ long) (h6 : long ≤ 60) {ss : List Stp} (h : ∀ s ∈ ss, OkS (actsOf ms t) long s)
include S h0 h6 h
theorem like_plans_ok {N : Nat} {o : Nat → List Stp} (ho : ∀ k, k < N → ∀ s ∈ o k, OkS (actsOf ms t) long s) : F_like_plans [sD n ms as t, pL ss, .lst ((List.range N).map fun k => pL (o k)), .int long] = .ok (.lst (((List.range N).filter fun k => lk n ms long (o k) ss).map fun (k : Nat) => .int (k : Int))) := by
  have e1 := form_after_ok (as := as) S h0 h6 h (P := .lst (ss.map pD)) (.inr rfl)
  have e2 : ∀ k, k < N → F_form_after [sD n ms as t, pL (o k), .int long] = .ok (fm n ms long (o k)) := fun k hk => form_after_ok (as := as) S h0 h6 (ho k hk) (P := .lst ((o k).map pD)) (.inr rfl)
  have e1 : F_form_after [sD n ms as t, pL ss, .int long] = .ok (fm n ms long ss) := e1
  have hen : enD [.d (.lst ((List.range N).map fun k => pL (o k)))] = some ((List.range N).map fun k => .tup [.int (k : Nat), pL (o k)]) := by
    show some (enumL _) = _
    rw [enumL_rng]
  unfold F_like_plans g_like_plans
  generalize hL : D.lst ((List.range N).map fun k => pL (o k)) = L at *
  simp [VL.bind_ok, VL.bind_er, VL.rs_d, VL.ofO_some, VL.runD_ap, VL.runF_ap, VL.runI, VL.startR, VL.rs, VL.rsL, VL.strL, VL.pick, VL.wipeR, VL.back, VL.noE_o, VL.gVar_ap, VL.gOwn_ap, VL.gC_ap, VL.gOp_ap, VL.gB_ap, VL.gCh_ap, VL.gAndT_ap, VL.gOrT_ap, VL.gNotT_ap, VL.gAnd_ap, VL.gOr_ap, VL.gNot_ap, VL.gIf_ap, VL.gaNil_ap, VL.gaCons_ap, VL.gTup_ap, VL.gLst_ap, VL.gF_ap, VL.gCB_ap, VL.gCBF_ap, VL.gOpF_ap, VL.gTru_ap, VL.gNoPart_ap, VL.gPart_ap, VL.gSl_ap, VL.gSlF_ap, VL.gNil_ap, VL.gSeq_ap, VL.gPass_ap, VL.gBrk_ap, VL.gCont_ap, VL.gExpr_ap, VL.gRet_ap, VL.gRetF_ap, VL.gRetN_ap, VL.gIfS_ap, VL.gSet_ap, VL.gSetF_ap, VL.ggName_ap, VL.ggNil_ap, VL.ggCons_ap, VL.ggTup_ap, VL.gAsg_ap, VL.gIt_ap, VL.gRng_ap, VL.gItS_ap, VL.gFor_ap, VL.gLc_ap, VL.gCall_ap, VL.gCallF_ap, VL.gCallI_ap, VL.gCallK_ap, VL.gUn_ap, VL.gUnF_ap, VL.gDnew_ap, VL.gApp_ap, VL.gSetIx_ap, VL.gYes_ap, VL.gRaise_ap, VL.gSetF'_ap, VL.gMeth_ap, VL.gProp_ap, VL.gMake_ap, VL.gaStar_ap, VL.gPar2F_ap, VL.gSetSl_ap, VL.gDc_ap, VL.gItA_ap, VL.gDisp_ap, e1, hen]
  rw [lcL_filt (fun k => lk n ms long (o k) ss) fun (k : Nat) => .int (k : Int)]
  · simp [VL.bind_ok, VL.bind_er, VL.rs_d, VL.ofO_some, VL.runD_ap, VL.runF_ap, VL.runI, VL.startR, VL.rs, VL.rsL, VL.strL, VL.pick, VL.wipeR, VL.back, VL.noE_o, VL.gVar_ap, VL.gOwn_ap, VL.gC_ap, VL.gOp_ap, VL.gB_ap, VL.gCh_ap, VL.gAndT_ap, VL.gOrT_ap, VL.gNotT_ap, VL.gAnd_ap, VL.gOr_ap, VL.gNot_ap, VL.gIf_ap, VL.gaNil_ap, VL.gaCons_ap, VL.gTup_ap, VL.gLst_ap, VL.gF_ap, VL.gCB_ap, VL.gCBF_ap, VL.gOpF_ap, VL.gTru_ap, VL.gNoPart_ap, VL.gPart_ap, VL.gSl_ap, VL.gSlF_ap, VL.gNil_ap, VL.gSeq_ap, VL.gPass_ap, VL.gBrk_ap, VL.gCont_ap, VL.gExpr_ap, VL.gRet_ap, VL.gRetF_ap, VL.gRetN_ap, VL.gIfS_ap, VL.gSet_ap, VL.gSetF_ap, VL.ggName_ap, VL.ggNil_ap, VL.ggCons_ap, VL.ggTup_ap, VL.gAsg_ap, VL.gIt_ap, VL.gRng_ap, VL.gItS_ap, VL.gFor_ap, VL.gLc_ap, VL.gCall_ap, VL.gCallF_ap, VL.gCallI_ap, VL.gCallK_ap, VL.gUn_ap, VL.gUnF_ap, VL.gDnew_ap, VL.gApp_ap, VL.gSetIx_ap, VL.gYes_ap, VL.gRaise_ap, VL.gSetF'_ap, VL.gMeth_ap, VL.gProp_ap, VL.gMake_ap, VL.gaStar_ap, VL.gPar2F_ap, VL.gSetSl_ap, VL.gDc_ap, VL.gItA_ap, VL.gDisp_ap]
  · intro k hk
    have hk := List.mem_range.mp hk
    simp [VL.bind_ok, VL.bind_er, VL.rs_d, VL.ofO_some, VL.runD_ap, VL.runF_ap, VL.runI, VL.startR, VL.rs, VL.rsL, VL.strL, VL.pick, VL.wipeR, VL.back, VL.noE_o, VL.gVar_ap, VL.gOwn_ap, VL.gC_ap, VL.gOp_ap, VL.gB_ap, VL.gCh_ap, VL.gAndT_ap, VL.gOrT_ap, VL.gNotT_ap, VL.gAnd_ap, VL.gOr_ap, VL.gNot_ap, VL.gIf_ap, VL.gaNil_ap, VL.gaCons_ap, VL.gTup_ap, VL.gLst_ap, VL.gF_ap, VL.gCB_ap, VL.gCBF_ap, VL.gOpF_ap, VL.gTru_ap, VL.gNoPart_ap, VL.gPart_ap, VL.gSl_ap, VL.gSlF_ap, VL.gNil_ap, VL.gSeq_ap, VL.gPass_ap, VL.gBrk_ap, VL.gCont_ap, VL.gExpr_ap, VL.gRet_ap, VL.gRetF_ap, VL.gRetN_ap, VL.gIfS_ap, VL.gSet_ap, VL.gSetF_ap, VL.ggName_ap, VL.ggNil_ap, VL.ggCons_ap, VL.ggTup_ap, VL.gAsg_ap, VL.gIt_ap, VL.gRng_ap, VL.gItS_ap, VL.gFor_ap, VL.gLc_ap, VL.gCall_ap, VL.gCallF_ap, VL.gCallI_ap, VL.gCallK_ap, VL.gUn_ap, VL.gUnF_ap, VL.gDnew_ap, VL.gApp_ap, VL.gSetIx_ap, VL.gYes_ap, VL.gRaise_ap, VL.gSetF'_ap, VL.gMeth_ap, VL.gProp_ap, VL.gMake_ap, VL.gaStar_ap, VL.gPar2F_ap, VL.gSetSl_ap, VL.gDc_ap, VL.gItA_ap, VL.gDisp_ap, e2 k hk, eq_fm]
    cases lk n ms long (o k) ss <;> rfl
theorem del_ok {k : Nat} : ∀ s ∈ del ss k, OkS (actsOf ms t) long s := fun s hs => by
  rcases List.mem_append.mp hs with hs | hs
  · exact h s (List.mem_of_mem_take hs)
  · exact h s (List.mem_of_mem_drop hs)
theorem swp_ok {k : Nat} (hk : k + 1 < ss.length) : ∀ s ∈ swp ss k, OkS (actsOf ms t) long s := fun s hs => by
  have hm : ∀ j, j < ss.length → ss.getD j default ∈ ss := fun j hj => by
    rw [List.getD_eq_getElem?_getD, List.getElem?_eq_getElem hj]
    exact List.getElem_mem _
  rcases List.mem_append.mp hs with hs | hs
  · rcases List.mem_append.mp hs with hs | hs
    · exact h s (List.mem_of_mem_take hs)
    · rcases List.mem_cons.mp hs with rfl | hs
      · exact h _ (hm _ hk)
      · rw [List.mem_singleton.mp hs]
        exact h _ (hm _ (by omega))
  · exact h s (List.mem_of_mem_drop hs)
theorem idle_ok (hl : ss.length ≤ 100) {P : D} (hP : P = .tup (ss.map pD) ∨ P = .lst (ss.map pD)) : F_idle [sD n ms as t, P, .int long] = .ok (.lst (((List.range ss.length).filter fun k => lk n ms long (del ss k) ss).map fun (k : Nat) => .int (k : Int))) := by
  have e1 := need_plans_ok (n := n) (as := as) S.ln h0 h6 h hP
  have e2 : listF [P] = some (pL ss) := by rcases hP with rfl | rfl <;> rfl
  have e3 := like_plans_ok (as := as) S h0 h6 h (N := ss.length) (o := del ss) (fun k _ => del_ok S h0 h6 h)
  have hr := rng1_any (k := (ss.length : Int)) (by omega) (by omega)
  rw [Int.toNat_natCast] at hr
  unfold F_idle g_idle
  simp [VL.bind_ok, VL.bind_er, VL.rs_d, VL.ofO_some, VL.runD_ap, VL.runF_ap, VL.runI, VL.startR, VL.rs, VL.rsL, VL.strL, VL.pick, VL.wipeR, VL.back, VL.noE_o, VL.gVar_ap, VL.gOwn_ap, VL.gC_ap, VL.gOp_ap, VL.gB_ap, VL.gCh_ap, VL.gAndT_ap, VL.gOrT_ap, VL.gNotT_ap, VL.gAnd_ap, VL.gOr_ap, VL.gNot_ap, VL.gIf_ap, VL.gaNil_ap, VL.gaCons_ap, VL.gTup_ap, VL.gLst_ap, VL.gF_ap, VL.gCB_ap, VL.gCBF_ap, VL.gOpF_ap, VL.gTru_ap, VL.gNoPart_ap, VL.gPart_ap, VL.gSl_ap, VL.gSlF_ap, VL.gNil_ap, VL.gSeq_ap, VL.gPass_ap, VL.gBrk_ap, VL.gCont_ap, VL.gExpr_ap, VL.gRet_ap, VL.gRetF_ap, VL.gRetN_ap, VL.gIfS_ap, VL.gSet_ap, VL.gSetF_ap, VL.ggName_ap, VL.ggNil_ap, VL.ggCons_ap, VL.ggTup_ap, VL.gAsg_ap, VL.gIt_ap, VL.gRng_ap, VL.gItS_ap, VL.gFor_ap, VL.gLc_ap, VL.gCall_ap, VL.gCallF_ap, VL.gCallI_ap, VL.gCallK_ap, VL.gUn_ap, VL.gUnF_ap, VL.gDnew_ap, VL.gApp_ap, VL.gSetIx_ap, VL.gYes_ap, VL.gRaise_ap, VL.gSetF'_ap, VL.gMeth_ap, VL.gProp_ap, VL.gMake_ap, VL.gaStar_ap, VL.gPar2F_ap, VL.gSetSl_ap, VL.gDc_ap, VL.gItA_ap, VL.gDisp_ap, e1, e2, pL_len, hr]
  rw [lcL_mapA fun k => pL (del ss k)]
  · simp [VL.bind_ok, VL.bind_er, VL.rs_d, VL.ofO_some, VL.runD_ap, VL.runF_ap, VL.runI, VL.startR, VL.rs, VL.rsL, VL.strL, VL.pick, VL.wipeR, VL.back, VL.noE_o, VL.gVar_ap, VL.gOwn_ap, VL.gC_ap, VL.gOp_ap, VL.gB_ap, VL.gCh_ap, VL.gAndT_ap, VL.gOrT_ap, VL.gNotT_ap, VL.gAnd_ap, VL.gOr_ap, VL.gNot_ap, VL.gIf_ap, VL.gaNil_ap, VL.gaCons_ap, VL.gTup_ap, VL.gLst_ap, VL.gF_ap, VL.gCB_ap, VL.gCBF_ap, VL.gOpF_ap, VL.gTru_ap, VL.gNoPart_ap, VL.gPart_ap, VL.gSl_ap, VL.gSlF_ap, VL.gNil_ap, VL.gSeq_ap, VL.gPass_ap, VL.gBrk_ap, VL.gCont_ap, VL.gExpr_ap, VL.gRet_ap, VL.gRetF_ap, VL.gRetN_ap, VL.gIfS_ap, VL.gSet_ap, VL.gSetF_ap, VL.ggName_ap, VL.ggNil_ap, VL.ggCons_ap, VL.ggTup_ap, VL.gAsg_ap, VL.gIt_ap, VL.gRng_ap, VL.gItS_ap, VL.gFor_ap, VL.gLc_ap, VL.gCall_ap, VL.gCallF_ap, VL.gCallI_ap, VL.gCallK_ap, VL.gUn_ap, VL.gUnF_ap, VL.gDnew_ap, VL.gApp_ap, VL.gSetIx_ap, VL.gYes_ap, VL.gRaise_ap, VL.gSetF'_ap, VL.gMeth_ap, VL.gProp_ap, VL.gMake_ap, VL.gaStar_ap, VL.gPar2F_ap, VL.gSetSl_ap, VL.gDc_ap, VL.gItA_ap, VL.gDisp_ap, e3]
  · intro k hk
    have hk := List.mem_range.mp hk
    have c1 := pL_lo (ss := ss) (k := k) (by omega)
    have c2 := pL_hi (ss := ss) (k := k + 1) (by omega)
    rw [show ((k + 1 : Nat) : Int) = (k : Int) + 1 by omega] at c2
    have a1 := pL_add (a := ss.take k) (b := ss.drop (k + 1)) (by rw [List.length_take, List.length_drop]; unfold big; omega)
    have hd : del ss k = ss.take k ++ ss.drop (k + 1) := rfl
    rw [hd]
    revert c1 c2 a1
    generalize ss.take k ++ ss.drop (k + 1) = Z
    generalize ss.take k = X
    generalize ss.drop (k + 1) = Y
    intro c1 c2 a1
    simp [VL.bind_ok, VL.bind_er, VL.rs_d, VL.ofO_some, VL.runD_ap, VL.runF_ap, VL.runI, VL.startR, VL.rs, VL.rsL, VL.strL, VL.pick, VL.wipeR, VL.back, VL.noE_o, VL.gVar_ap, VL.gOwn_ap, VL.gC_ap, VL.gOp_ap, VL.gB_ap, VL.gCh_ap, VL.gAndT_ap, VL.gOrT_ap, VL.gNotT_ap, VL.gAnd_ap, VL.gOr_ap, VL.gNot_ap, VL.gIf_ap, VL.gaNil_ap, VL.gaCons_ap, VL.gTup_ap, VL.gLst_ap, VL.gF_ap, VL.gCB_ap, VL.gCBF_ap, VL.gOpF_ap, VL.gTru_ap, VL.gNoPart_ap, VL.gPart_ap, VL.gSl_ap, VL.gSlF_ap, VL.gNil_ap, VL.gSeq_ap, VL.gPass_ap, VL.gBrk_ap, VL.gCont_ap, VL.gExpr_ap, VL.gRet_ap, VL.gRetF_ap, VL.gRetN_ap, VL.gIfS_ap, VL.gSet_ap, VL.gSetF_ap, VL.ggName_ap, VL.ggNil_ap, VL.ggCons_ap, VL.ggTup_ap, VL.gAsg_ap, VL.gIt_ap, VL.gRng_ap, VL.gItS_ap, VL.gFor_ap, VL.gLc_ap, VL.gCall_ap, VL.gCallF_ap, VL.gCallI_ap, VL.gCallK_ap, VL.gUn_ap, VL.gUnF_ap, VL.gDnew_ap, VL.gApp_ap, VL.gSetIx_ap, VL.gYes_ap, VL.gRaise_ap, VL.gSetF'_ap, VL.gMeth_ap, VL.gProp_ap, VL.gMake_ap, VL.gaStar_ap, VL.gPar2F_ap, VL.gSetSl_ap, VL.gDc_ap, VL.gItA_ap, VL.gDisp_ap, addD_int, c1, c2, a1]
theorem swaps_ok (hl : ss.length ≤ 100) {P : D} (hP : P = .tup (ss.map pD) ∨ P = .lst (ss.map pD)) : F_swaps [sD n ms as t, P, .int long] = .ok (.lst (((List.range (ss.length - 1)).filter fun k => lk n ms long (swp ss k) ss).map fun (k : Nat) => .int (k : Int))) := by
  have e1 := need_plans_ok (n := n) (as := as) S.ln h0 h6 h hP
  have e2 : listF [P] = some (pL ss) := by rcases hP with rfl | rfl <;> rfl
  have e3 := like_plans_ok (as := as) S h0 h6 h (N := ss.length - 1) (o := swp ss) (fun k hk => swp_ok S h0 h6 h (by omega))
  have hr := rng1_any (k := (ss.length : Int) - 1) (by omega) (by omega)
  rw [show ((ss.length : Int) - 1).toNat = ss.length - 1 by omega] at hr
  unfold F_swaps g_swaps
  simp [VL.bind_ok, VL.bind_er, VL.rs_d, VL.ofO_some, VL.runD_ap, VL.runF_ap, VL.runI, VL.startR, VL.rs, VL.rsL, VL.strL, VL.pick, VL.wipeR, VL.back, VL.noE_o, VL.gVar_ap, VL.gOwn_ap, VL.gC_ap, VL.gOp_ap, VL.gB_ap, VL.gCh_ap, VL.gAndT_ap, VL.gOrT_ap, VL.gNotT_ap, VL.gAnd_ap, VL.gOr_ap, VL.gNot_ap, VL.gIf_ap, VL.gaNil_ap, VL.gaCons_ap, VL.gTup_ap, VL.gLst_ap, VL.gF_ap, VL.gCB_ap, VL.gCBF_ap, VL.gOpF_ap, VL.gTru_ap, VL.gNoPart_ap, VL.gPart_ap, VL.gSl_ap, VL.gSlF_ap, VL.gNil_ap, VL.gSeq_ap, VL.gPass_ap, VL.gBrk_ap, VL.gCont_ap, VL.gExpr_ap, VL.gRet_ap, VL.gRetF_ap, VL.gRetN_ap, VL.gIfS_ap, VL.gSet_ap, VL.gSetF_ap, VL.ggName_ap, VL.ggNil_ap, VL.ggCons_ap, VL.ggTup_ap, VL.gAsg_ap, VL.gIt_ap, VL.gRng_ap, VL.gItS_ap, VL.gFor_ap, VL.gLc_ap, VL.gCall_ap, VL.gCallF_ap, VL.gCallI_ap, VL.gCallK_ap, VL.gUn_ap, VL.gUnF_ap, VL.gDnew_ap, VL.gApp_ap, VL.gSetIx_ap, VL.gYes_ap, VL.gRaise_ap, VL.gSetF'_ap, VL.gMeth_ap, VL.gProp_ap, VL.gMake_ap, VL.gaStar_ap, VL.gPar2F_ap, VL.gSetSl_ap, VL.gDc_ap, VL.gItA_ap, VL.gDisp_ap, e1, e2, pL_len, subD_int, hr]
  rw [lcL_mapA fun k => pL (swp ss k)]
  · simp [VL.bind_ok, VL.bind_er, VL.rs_d, VL.ofO_some, VL.runD_ap, VL.runF_ap, VL.runI, VL.startR, VL.rs, VL.rsL, VL.strL, VL.pick, VL.wipeR, VL.back, VL.noE_o, VL.gVar_ap, VL.gOwn_ap, VL.gC_ap, VL.gOp_ap, VL.gB_ap, VL.gCh_ap, VL.gAndT_ap, VL.gOrT_ap, VL.gNotT_ap, VL.gAnd_ap, VL.gOr_ap, VL.gNot_ap, VL.gIf_ap, VL.gaNil_ap, VL.gaCons_ap, VL.gTup_ap, VL.gLst_ap, VL.gF_ap, VL.gCB_ap, VL.gCBF_ap, VL.gOpF_ap, VL.gTru_ap, VL.gNoPart_ap, VL.gPart_ap, VL.gSl_ap, VL.gSlF_ap, VL.gNil_ap, VL.gSeq_ap, VL.gPass_ap, VL.gBrk_ap, VL.gCont_ap, VL.gExpr_ap, VL.gRet_ap, VL.gRetF_ap, VL.gRetN_ap, VL.gIfS_ap, VL.gSet_ap, VL.gSetF_ap, VL.ggName_ap, VL.ggNil_ap, VL.ggCons_ap, VL.ggTup_ap, VL.gAsg_ap, VL.gIt_ap, VL.gRng_ap, VL.gItS_ap, VL.gFor_ap, VL.gLc_ap, VL.gCall_ap, VL.gCallF_ap, VL.gCallI_ap, VL.gCallK_ap, VL.gUn_ap, VL.gUnF_ap, VL.gDnew_ap, VL.gApp_ap, VL.gSetIx_ap, VL.gYes_ap, VL.gRaise_ap, VL.gSetF'_ap, VL.gMeth_ap, VL.gProp_ap, VL.gMake_ap, VL.gaStar_ap, VL.gPar2F_ap, VL.gSetSl_ap, VL.gDc_ap, VL.gItA_ap, VL.gDisp_ap, e3]
  · intro k hk
    have hk := List.mem_range.mp hk
    have c1 : slD (pL ss) none (some (k : Int)) = some (.lst ((ss.take k).map pD)) := pL_lo (ss := ss) (k := k) (by omega)
    have c2 : slD (pL ss) (some ((k + 2 : Nat) : Int)) none = some (.lst ((ss.drop (k + 2)).map pD)) := pL_hi (ss := ss) (k := k + 2) (by omega)
    have c3 := pL_ix (ss := ss) (k := k) (by omega)
    have c4 := pL_ix (ss := ss) (k := k + 1) (by omega)
    rw [show ((k + 2 : Nat) : Int) = (k : Int) + 2 by omega] at c2
    rw [show ((k + 1 : Nat) : Int) = (k : Int) + 1 by omega] at c4
    have hd : pL (swp ss k) = .lst ((ss.take k).map pD ++ (pD (ss.getD (k + 1) default) :: pD (ss.getD k default) :: (ss.drop (k + 2)).map pD)) := by
      unfold pL swp
      rw [List.map_append, List.map_append, List.append_assoc]
      rfl
    have hq : ((ss.take k).map pD).length + ((ss.drop (k + 2)).map pD).length ≤ 100 := by
      rw [List.length_map, List.length_map, List.length_take, List.length_drop]
      omega
    rw [hd]
    generalize pL ss = L at *
    revert c1 c2 c3 c4 hq
    generalize (ss.take k).map pD = X
    generalize (ss.drop (k + 2)).map pD = Y
    generalize pD (ss.getD (k + 1) default) = u
    generalize pD (ss.getD k default) = v
    intro hq c1 c2 c3 c4
    have st := strL_app X (ws := .d u :: .d v :: Y.map W.d) (ds := u :: v :: Y) (by
      have := strL_app Y (ws := []) (ds := []) rfl
      rw [List.append_nil, List.append_nil] at this
      show ((strL (Y.map W.d)).map (v :: ·)).map (u :: ·) = _
      rw [this]
      rfl)
    have hz : X.length + (Y.length + 1 + 1) ≤ 1000 := by omega
    simp [VL.bind_ok, VL.bind_er, VL.rs_d, VL.ofO_some, VL.runD_ap, VL.runF_ap, VL.runI, VL.startR, VL.rs, VL.rsL, VL.strL, VL.pick, VL.wipeR, VL.back, VL.noE_o, VL.gVar_ap, VL.gOwn_ap, VL.gC_ap, VL.gOp_ap, VL.gB_ap, VL.gCh_ap, VL.gAndT_ap, VL.gOrT_ap, VL.gNotT_ap, VL.gAnd_ap, VL.gOr_ap, VL.gNot_ap, VL.gIf_ap, VL.gaNil_ap, VL.gaCons_ap, VL.gTup_ap, VL.gLst_ap, VL.gF_ap, VL.gCB_ap, VL.gCBF_ap, VL.gOpF_ap, VL.gTru_ap, VL.gNoPart_ap, VL.gPart_ap, VL.gSl_ap, VL.gSlF_ap, VL.gNil_ap, VL.gSeq_ap, VL.gPass_ap, VL.gBrk_ap, VL.gCont_ap, VL.gExpr_ap, VL.gRet_ap, VL.gRetF_ap, VL.gRetN_ap, VL.gIfS_ap, VL.gSet_ap, VL.gSetF_ap, VL.ggName_ap, VL.ggNil_ap, VL.ggCons_ap, VL.ggTup_ap, VL.gAsg_ap, VL.gIt_ap, VL.gRng_ap, VL.gItS_ap, VL.gFor_ap, VL.gLc_ap, VL.gCall_ap, VL.gCallF_ap, VL.gCallI_ap, VL.gCallK_ap, VL.gUn_ap, VL.gUnF_ap, VL.gDnew_ap, VL.gApp_ap, VL.gSetIx_ap, VL.gYes_ap, VL.gRaise_ap, VL.gSetF'_ap, VL.gMeth_ap, VL.gProp_ap, VL.gMake_ap, VL.gaStar_ap, VL.gPar2F_ap, VL.gSetSl_ap, VL.gDc_ap, VL.gItA_ap, VL.gDisp_ap, addD_int, c1, c2, c3, c4, itD, st, hz]
end
end K34
namespace K34
open PySem PySem.Spec PyProof.Rows L2 VL
def nL (N : Nat) (p : Nat → Bool) : D := .lst (((List.range N).filter p).map fun (k : Nat) => .int (k : Int))
theorem nL_short {N : Nat} (h : N ≤ 100) (p : Nat → Bool) : shortL (nL N p) = true := by
  show decide ((((List.range N).filter p).map fun (k : Nat) => D.int (k : Int)).length < big) = true
  have := List.length_filter_le p (List.range N)
  rw [List.length_range] at this
  rw [List.length_map]
  exact decide_eq_true (by unfold big; omega)
theorem okd_nL (N : Nat) (p : Nat → Bool) : Okd 1 (nL N p) := .lst fun d hd => by
  obtain ⟨k, _, rfl⟩ := List.mem_map.mp hd
  exact .int _
theorem okd_two (N M : Nat) (p q : Nat → Bool) : Okd 2 (.lst [nL N p, nL M q]) := .lst fun d hd => by
  rcases List.mem_cons.mp hd with rfl | hd
  · exact okd_nL _ _
  · rcases List.mem_singleton.mp hd with rfl
    exact okd_nL _ _
theorem pL_cut1 {ss : List Stp} {a : Nat} (h : a ≤ ss.length) : ∃ X : List Stp, slD (pL ss) (some (a : Int)) (some ((a : Int) + 1)) = some (pL X) ∧ X.length ≤ 1 ∧ ∀ s ∈ X, s ∈ ss := by
  refine ⟨((ss.drop (min a ss.length)).take (min (a + 1) ss.length - min a ss.length)), ?_, by rw [List.length_take]; omega, fun s hs => List.mem_of_mem_drop (List.mem_of_mem_take hs)⟩
  show some (D.lst (VL.cutD (ss.map pD) (some (a : Int)) (some ((a : Int) + 1)))) = _
  unfold VL.cutD
  rw [show ((a : Int) + 1) = ((a + 1 : Nat) : Int) by omega, HT.sIx_nat, HT.sIx_nat, List.length_map, ← List.map_drop, ← List.map_take]
  rfl
theorem pL_rep {X : List Stp} (h : X.length ≤ 1) {r : Int} (r0 : 0 ≤ r) (r1 : r ≤ 3) : ∃ R : List Stp, mulD (pL X) (.int r) = some (pL R) ∧ R.length ≤ 3 ∧ ∀ s ∈ R, s ∈ X := by
  refine ⟨(List.replicate r.toNat X).flatten, ?_, ?_, fun s hs => ?_⟩
  · show (if VL.small r = true ∧ (X.map pD).length * r.toNat ≤ big then some (D.lst (List.replicate r.toNat (X.map pD)).flatten) else none) = _
    rw [if_pos ⟨decide_eq_true ⟨by omega, by omega⟩, by
      rw [List.length_map]
      have : X.length * r.toNat ≤ 1 * 3 := Nat.mul_le_mul h (by omega)
      unfold big
      omega⟩]
    unfold pL
    rw [List.map_flatten, List.map_replicate]
  · have hz : ∀ m : Nat, (List.replicate m X).flatten.length = m * X.length := fun m => by
      induction m with
      | zero => simp
      | succ m ih => rw [List.replicate_succ, List.flatten_cons, List.length_append, ih, Nat.succ_mul]; omega
    rw [hz]
    have : r.toNat * X.length ≤ 3 * 1 := Nat.mul_le_mul (by omega) h
    omega
  · obtain ⟨l, hl, hs⟩ := List.mem_flatten.mp hs
    rw [(List.mem_replicate.mp hl).2] at hs
    exact hs
section
variable {n : Int} {ms : List (Str × List Int)} {as as' : List (Str × Mach)} {t : Bool}
theorem right_ok (S : St n ms) {k : Nat} {d : D} (h : PU k d) (hk : k < 50000) : ∃ d', F__law_right [d, oD n ms as t, sD n ms as' t] = .ok (.bl true, d') ∧ PU (k + 1000) d' := by
  obtain ⟨r1, d1, e1, r10, r11, h1⟩ := draw_ok h (by omega) (n := 7) (by omega) (by omega)
  obtain ⟨r2, d2, e2, r20, r21, h2⟩ := draw_ok h1 (by omega) (n := 61) (by omega) (by omega)
  obtain ⟨r3, d3, e3, r30, r31, h3⟩ := draw_ok h2 (by omega) (n := 4) (by omega) (by omega)
  have hlong : ∃ long, ixD (.lst [.int r1, .int r2]) (.int (if r3 = 0 then 1 else 0)) = some (.int long) ∧ 0 ≤ long ∧ long ≤ 60 := by
    by_cases z : r3 = 0
    · rw [if_pos z]
      exact ⟨r2, rfl, r20, by omega⟩
    · rw [if_neg z]
      exact ⟨r1, rfl, r10, by omega⟩
  obtain ⟨long, elong, l0, l6⟩ := hlong
  obtain ⟨r4, d4, e4, r40, r41, h4⟩ := draw_ok h3 (by omega) (n := 4) (by omega) (by omega)
  have hlt : ltD (.int long) (.int 7) = some (.bl (decide (long < 7))) := rfl
  have hprod : ∃ p : Int, mulD (.int r4) (.int (if decide (long < 7) = true then 1 else 0)) = some (.int p) ∧ 0 ≤ p ∧ p ≤ 3 := by
    by_cases z : long < 7
    · rw [decide_eq_true z, if_pos rfl]
      exact ⟨r4 * 1, mulD_int (by omega) (by omega) (by omega) (by omega), by omega, by omega⟩
    · rw [decide_eq_false z, if_neg Bool.false_ne_true]
      exact ⟨r4 * 0, mulD_int (by omega) (by omega) (by omega) (by omega), by omega, by omega⟩
  obtain ⟨p, ep, p0, p3⟩ := hprod
  have hmost : ∃ most, ixD (.lst [.int 6, .int 6, .int 6, .int 36]) (.int p) = some (.int most) ∧ 0 ≤ most ∧ most ≤ 40 := by
    have : p = 0 ∨ p = 1 ∨ p = 2 ∨ p = 3 := by omega
    rcases this with rfl | rfl | rfl | rfl <;> exact ⟨_, rfl, by decide, by decide⟩
  obtain ⟨most, emost, m0, m4⟩ := hmost
  obtain ⟨ss0, d5, e5, hsl, hss0, h5⟩ := plan_ok (as := as) (t := t) S h4 (by omega) l0 l6 m0 m4
  have e5 : F__law_plan [d4, oD n ms as t, .int long, .int most] = .ok (pL ss0, d5) := e5
  obtain ⟨a', d6, e6, a0, a1, h6⟩ := draw_ok h5 (by omega) (n := (ss0.length : Int) + 1) (by omega) (by omega)
  obtain ⟨a, rfl⟩ := Int.eq_ofNat_of_zero_le a0
  have ha : a ≤ ss0.length := by omega
  obtain ⟨X, eX, hX, hXm⟩ := pL_cut1 (ss := ss0) ha
  obtain ⟨r7, d7, e7, r70, r71, h7⟩ := draw_ok h6 (by omega) (n := 4) (by omega) (by omega)
  obtain ⟨R, eR, hR, hRm⟩ := pL_rep hX r70 (by omega)
  have c1 := pL_lo (ss := ss0) ha
  have c2 := pL_hi (ss := ss0) ha
  have b1 := pL_add (a := ss0.take a) (b := R) (by rw [List.length_take]; unfold big; omega)
  have b2 := pL_add (a := ss0.take a ++ R) (b := ss0.drop a) (by rw [List.length_append, List.length_take, List.length_drop]; unfold big; omega)
  have hsl' : (ss0.take a ++ R ++ ss0.drop a).length ≤ 100 := by
    rw [List.length_append, List.length_append, List.length_take, List.length_drop]
    omega
  have hss : ∀ s ∈ ss0.take a ++ R ++ ss0.drop a, OkS (actsOf ms t) long s := fun s hs => by
    rcases List.mem_append.mp hs with hs | hs
    · rcases List.mem_append.mp hs with hs | hs
      · exact hss0 s (List.mem_of_mem_take hs)
      · exact hss0 s (hXm s (hRm s hs))
    · exact hss0 s (List.mem_of_mem_drop hs)
  revert c1 c2 b1 b2 hsl' hss
  generalize ss0.take a ++ R ++ ss0.drop a = ss
  generalize ss0.take a ++ R = ss1
  generalize ss0.take a = ss2
  generalize ss0.drop a = ss3
  intro c1 c2 b1 b2 hsl' hss
  have ef : ∀ {o : List Stp}, (∀ s ∈ o, OkS (actsOf ms t) long s) → F__law_form [oD n ms as t, pL o, .int long] = .ok (fm n ms long o) := fun ho => law_form_ok (as := as) S l0 l6 ho
  have f1 := idle_ok (as := as') S l0 l6 hss hsl' (P := .lst (ss.map pD)) (.inr rfl)
  have f2 := idle_ok (as := as') S l0 l6 hss hsl' (P := .tup (ss.map pD)) (.inl rfl)
  have f3 := swaps_ok (as := as') S l0 l6 hss hsl' (P := .lst (ss.map pD)) (.inr rfl)
  have f4 := swaps_ok (as := as') S l0 l6 hss hsl' (P := .tup (ss.map pD)) (.inl rfl)
  have hdel := fun k => del_ok S l0 l6 hss (k := k)
  have hswp := fun k hk => swp_ok S l0 l6 hss (k := k) hk
  have hq3 := eqD_int r3 0
  have hlen := pL_len (ss := ss)
  have hlen0 := pL_len (ss := ss0)
  have hr1 := rng1_any (k := (ss.length : Int)) (by omega) (by omega)
  rw [Int.toNat_natCast] at hr1
  have hr2 := rng1_any (k := (ss.length : Int) - 1) (by omega) (by omega)
  rw [show ((ss.length : Int) - 1).toNat = ss.length - 1 by omega] at hr2
  have hti : tupleD [pL ss] = some (.tup (ss.map pD)) := rfl
  change F_idle [_, pL ss, _] = .ok (nL _ _) at f1
  change F_idle _ = .ok (nL _ _) at f2
  change F_swaps [_, pL ss, _] = .ok (nL _ _) at f3
  change F_swaps _ = .ok (nL _ _) at f4
  generalize hI : nL ss.length (fun k => lk n ms long (del ss k) ss) = I at *
  have hne := neD_self (okd_two ss.length (ss.length - 1) (fun k => lk n ms long (del ss k) ss) (fun k => lk n ms long (swp ss k) ss))
  have heq := eqD_self (okd_two ss.length (ss.length - 1) (fun k => lk n ms long (del ss k) ss) (fun k => lk n ms long (swp ss k) ss))
  have s1 := nL_short hsl' (fun k => lk n ms long (del ss k) ss)
  have s2 := nL_short (N := ss.length - 1) (by omega) (fun k => lk n ms long (swp ss k) ss)
  rw [hI] at hne heq s1
  -- the loop
  obtain ⟨ρ', eL, x, rfl⟩ := forL_at (ds := (List.range (ss.length - 1)).map fun (k : Nat) => D.int (k : Int)) (n := 0)
    (fun i ρ => ∃ x, ρ = [some d7, some (oD n ms as t), some (sD n ms as' t), some (.int long), some (pL ss), some (.int (a : Int)), some (fm n ms long ss), some I, some (nL i fun k => lk n ms long (swp ss k) ss), x, none, none, none])
    (ρ := [some d7, some (oD n ms as t), some (sD n ms as' t), some (.int long), some (pL ss), some (.int (a : Int)), some (fm n ms long ss), some I, some (.lst []), none, none, none, none]) ⟨none, rfl⟩ (gg := ggName 9)
    (s := gIfS (gB (gOp eqD (gCall 3 F__law_form (gaCons (gVar 1) (gaCons (gOp addD (gOp addD (gSl slD (gVar 4) gNoPart (gPart (gVar 9))) (gF (gLst (gaCons (gOp ixD (gVar 4) (gOp addD (gVar 9) (gC (.int 1)))) (gaCons (gOp ixD (gVar 4) (gVar 9)) gaNil))))) (gSl slD (gVar 4) (gPart (gOp addD (gVar 9) (gC (.int 2)))) gNoPart)) (gaCons (gVar 3) gaNil)))) (gVar 6)))
    (gExpr (gApp 8 (gVar 9)))
    gNil) (by
      rintro k dd hd _ ⟨x, rfl⟩
      rw [List.getElem?_map] at hd
      obtain ⟨k', hk', rfl⟩ := Option.map_eq_some_iff.mp hd
      have hk1 := (List.getElem?_eq_some_iff.mp hk').1
      rw [List.length_range] at hk1
      rw [List.getElem?_range hk1] at hk'
      cases hk'
      rw [Nat.zero_add]
      have g1 := pL_lo (ss := ss) (k := k) (by omega)
      have g2 := pL_hi (ss := ss) (k := k + 2) (by omega)
      have g3 := pL_ix (ss := ss) (k := k) (by omega)
      have g4 := pL_ix (ss := ss) (k := k + 1) (by omega)
      rw [show ((k + 2 : Nat) : Int) = (k : Int) + 2 by omega] at g2
      rw [show ((k + 1 : Nat) : Int) = (k : Int) + 1 by omega] at g4
      have g5 := pL_add (a := ss.take k) (b := [ss.getD (k + 1) default, ss.getD k default]) (by rw [List.length_take]; show _ + 2 ≤ big; unfold big; omega)
      have g6 := pL_add (a := ss.take k ++ [ss.getD (k + 1) default, ss.getD k default]) (b := ss.drop (k + 2)) (by rw [List.length_append, List.length_take, List.length_drop]; show _ + 2 + _ ≤ big; unfold big; omega)
      have g7 := ef (hswp k (by omega))
      have g8 : swp ss k = ss.take k ++ [ss.getD (k + 1) default, ss.getD k default] ++ ss.drop (k + 2) := rfl
      rw [← g8] at g6
      have g9 := eq_fm (n := n) (ms := ms) (long := long) (a := swp ss k) (b := ss)
      have g10 : nL (k + 1) (fun k => lk n ms long (swp ss k) ss) = if lk n ms long (swp ss k) ss = true then .lst (((List.range k).filter fun k => lk n ms long (swp ss k) ss).map (fun (k : Nat) => D.int (k : Int)) ++ [.int (k : Int)]) else nL k fun k => lk n ms long (swp ss k) ss := by
        unfold nL
        rw [List.range_succ, List.filter_append, List.map_append]
        cases hz : lk n ms long (swp ss k) ss with
        | true => rw [List.filter_cons_of_pos (by exact hz), if_pos rfl]; rfl
        | false => rw [List.filter_cons_of_neg (by rw [hz]; exact Bool.false_ne_true), if_neg Bool.false_ne_true]; simp
      have g11 : appD (nL k fun k => lk n ms long (swp ss k) ss) (.int (k : Int)) = some (.lst (((List.range k).filter fun k => lk n ms long (swp ss k) ss).map (fun (k : Nat) => D.int (k : Int)) ++ [.int (k : Int)])) := by
        show (if (((List.range k).filter fun k => lk n ms long (swp ss k) ss).map (fun (k : Nat) => D.int (k : Int))).length < big then _ else _) = _
        rw [if_pos]
        have := List.length_filter_le (fun k => lk n ms long (swp ss k) ss) (List.range k)
        rw [List.length_range] at this
        rw [List.length_map]
        unfold big
        omega
      have g12 : isLst [some d7, some (oD n ms as t), some (sD n ms as' t), some (.int long), some (pL ss), some (.int (a : Int)), some (fm n ms long ss), some I, some (nL k fun k => lk n ms long (swp ss k) ss), some (.int (k : Int)), none, none, none] 8 = true := rfl
      have g13 : D.lst [pD (ss.getD (k + 1) default), pD (ss.getD k default)] = pL [ss.getD (k + 1) default, ss.getD k default] := rfl
      refine ⟨[some d7, some (oD n ms as t), some (sD n ms as' t), some (.int long), some (pL ss), some (.int (a : Int)), some (fm n ms long ss), some I, some (nL (k + 1) fun k => lk n ms long (swp ss k) ss), some (.int (k : Int)), none, none, none], ?_, _, rfl⟩
      rw [g10]
      revert g1 g2 g3 g4 g5 g6 g7 g9 g11 g12 g13
      generalize D.lst (((List.range k).filter fun k => lk n ms long (swp ss k) ss).map (fun (k : Nat) => D.int (k : Int)) ++ [.int (k : Int)]) = C2
      generalize nL k (fun k => lk n ms long (swp ss k) ss) = C1
      generalize lk n ms long (swp ss k) ss = bb
      generalize fm n ms long (swp ss k) = FS
      generalize pL (swp ss k) = PS'
      generalize pL [ss.getD (k + 1) default, ss.getD k default] = PM
      generalize pL (ss.take k ++ [ss.getD (k + 1) default, ss.getD k default]) = PT
      generalize pL (ss.take k) = PA
      generalize pL (ss.drop (k + 2)) = PB
      generalize pD (ss.getD (k + 1) default) = u
      generalize pD (ss.getD k default) = v
      intro g1 g2 g3 g4 g5 g6 g7 g9 g11 g12 g13
      simp [VL.bind_ok, VL.bind_er, VL.rs_d, VL.ofO_some, VL.runD_ap, VL.runF_ap, VL.runI, VL.startR, VL.rs, VL.rsL, VL.strL, VL.pick, VL.wipeR, VL.back, VL.noE_o, VL.gVar_ap, VL.gOwn_ap, VL.gC_ap, VL.gOp_ap, VL.gB_ap, VL.gCh_ap, VL.gAndT_ap, VL.gOrT_ap, VL.gNotT_ap, VL.gAnd_ap, VL.gOr_ap, VL.gNot_ap, VL.gIf_ap, VL.gaNil_ap, VL.gaCons_ap, VL.gTup_ap, VL.gLst_ap, VL.gF_ap, VL.gCB_ap, VL.gCBF_ap, VL.gOpF_ap, VL.gTru_ap, VL.gNoPart_ap, VL.gPart_ap, VL.gSl_ap, VL.gSlF_ap, VL.gNil_ap, VL.gSeq_ap, VL.gPass_ap, VL.gBrk_ap, VL.gCont_ap, VL.gExpr_ap, VL.gRet_ap, VL.gRetF_ap, VL.gRetN_ap, VL.gIfS_ap, VL.gSet_ap, VL.gSetF_ap, VL.ggName_ap, VL.ggNil_ap, VL.ggCons_ap, VL.ggTup_ap, VL.gAsg_ap, VL.gIt_ap, VL.gRng_ap, VL.gItS_ap, VL.gFor_ap, VL.gLc_ap, VL.gCall_ap, VL.gCallF_ap, VL.gCallI_ap, VL.gCallK_ap, VL.gUn_ap, VL.gUnF_ap, VL.gDnew_ap, VL.gApp_ap, VL.gSetIx_ap, VL.gYes_ap, VL.gRaise_ap, VL.gSetF'_ap, VL.gMeth_ap, VL.gProp_ap, VL.gMake_ap, VL.gaStar_ap, VL.gPar2F_ap, VL.gSetSl_ap, VL.gDc_ap, VL.gItA_ap, VL.gDisp_ap, addD_int, g1, g2, g3, g4, g5, g6, g7, g9, g13]
      cases bb with
      | true => simp [VL.bind_ok, VL.bind_er, VL.rs_d, VL.ofO_some, VL.runD_ap, VL.runF_ap, VL.runI, VL.startR, VL.rs, VL.rsL, VL.strL, VL.pick, VL.wipeR, VL.back, VL.noE_o, VL.gVar_ap, VL.gOwn_ap, VL.gC_ap, VL.gOp_ap, VL.gB_ap, VL.gCh_ap, VL.gAndT_ap, VL.gOrT_ap, VL.gNotT_ap, VL.gAnd_ap, VL.gOr_ap, VL.gNot_ap, VL.gIf_ap, VL.gaNil_ap, VL.gaCons_ap, VL.gTup_ap, VL.gLst_ap, VL.gF_ap, VL.gCB_ap, VL.gCBF_ap, VL.gOpF_ap, VL.gTru_ap, VL.gNoPart_ap, VL.gPart_ap, VL.gSl_ap, VL.gSlF_ap, VL.gNil_ap, VL.gSeq_ap, VL.gPass_ap, VL.gBrk_ap, VL.gCont_ap, VL.gExpr_ap, VL.gRet_ap, VL.gRetF_ap, VL.gRetN_ap, VL.gIfS_ap, VL.gSet_ap, VL.gSetF_ap, VL.ggName_ap, VL.ggNil_ap, VL.ggCons_ap, VL.ggTup_ap, VL.gAsg_ap, VL.gIt_ap, VL.gRng_ap, VL.gItS_ap, VL.gFor_ap, VL.gLc_ap, VL.gCall_ap, VL.gCallF_ap, VL.gCallI_ap, VL.gCallK_ap, VL.gUn_ap, VL.gUnF_ap, VL.gDnew_ap, VL.gApp_ap, VL.gSetIx_ap, VL.gYes_ap, VL.gRaise_ap, VL.gSetF'_ap, VL.gMeth_ap, VL.gProp_ap, VL.gMake_ap, VL.gaStar_ap, VL.gPar2F_ap, VL.gSetSl_ap, VL.gDc_ap, VL.gItA_ap, VL.gDisp_ap, g11, g12]
      | false => simp [VL.bind_ok, VL.bind_er, VL.rs_d, VL.ofO_some, VL.runD_ap, VL.runF_ap, VL.runI, VL.startR, VL.rs, VL.rsL, VL.strL, VL.pick, VL.wipeR, VL.back, VL.noE_o, VL.gVar_ap, VL.gOwn_ap, VL.gC_ap, VL.gOp_ap, VL.gB_ap, VL.gCh_ap, VL.gAndT_ap, VL.gOrT_ap, VL.gNotT_ap, VL.gAnd_ap, VL.gOr_ap, VL.gNot_ap, VL.gIf_ap, VL.gaNil_ap, VL.gaCons_ap, VL.gTup_ap, VL.gLst_ap, VL.gF_ap, VL.gCB_ap, VL.gCBF_ap, VL.gOpF_ap, VL.gTru_ap, VL.gNoPart_ap, VL.gPart_ap, VL.gSl_ap, VL.gSlF_ap, VL.gNil_ap, VL.gSeq_ap, VL.gPass_ap, VL.gBrk_ap, VL.gCont_ap, VL.gExpr_ap, VL.gRet_ap, VL.gRetF_ap, VL.gRetN_ap, VL.gIfS_ap, VL.gSet_ap, VL.gSetF_ap, VL.ggName_ap, VL.ggNil_ap, VL.ggCons_ap, VL.ggTup_ap, VL.gAsg_ap, VL.gIt_ap, VL.gRng_ap, VL.gItS_ap, VL.gFor_ap, VL.gLc_ap, VL.gCall_ap, VL.gCallF_ap, VL.gCallI_ap, VL.gCallK_ap, VL.gUn_ap, VL.gUnF_ap, VL.gDnew_ap, VL.gApp_ap, VL.gSetIx_ap, VL.gYes_ap, VL.gRaise_ap, VL.gSetF'_ap, VL.gMeth_ap, VL.gProp_ap, VL.gMake_ap, VL.gaStar_ap, VL.gPar2F_ap, VL.gSetSl_ap, VL.gDc_ap, VL.gItA_ap, VL.gDisp_ap])
  rw [List.length_map, List.length_range, Nat.zero_add] at eL
  refine ⟨d7, ?_, h7.mono (by omega)⟩
  unfold F__law_right g__law_right
  simp [VL.bind_ok, VL.bind_er, VL.rs_d, VL.ofO_some, VL.runD_ap, VL.runF_ap, VL.runI, VL.startR, VL.rs, VL.rsL, VL.strL, VL.pick, VL.wipeR, VL.back, VL.noE_o, VL.gVar_ap, VL.gOwn_ap, VL.gC_ap, VL.gOp_ap, VL.gB_ap, VL.gCh_ap, VL.gAndT_ap, VL.gOrT_ap, VL.gNotT_ap, VL.gAnd_ap, VL.gOr_ap, VL.gNot_ap, VL.gIf_ap, VL.gaNil_ap, VL.gaCons_ap, VL.gTup_ap, VL.gLst_ap, VL.gF_ap, VL.gCB_ap, VL.gCBF_ap, VL.gOpF_ap, VL.gTru_ap, VL.gNoPart_ap, VL.gPart_ap, VL.gSl_ap, VL.gSlF_ap, VL.gNil_ap, VL.gSeq_ap, VL.gPass_ap, VL.gBrk_ap, VL.gCont_ap, VL.gExpr_ap, VL.gRet_ap, VL.gRetF_ap, VL.gRetN_ap, VL.gIfS_ap, VL.gSet_ap, VL.gSetF_ap, VL.ggName_ap, VL.ggNil_ap, VL.ggCons_ap, VL.ggTup_ap, VL.gAsg_ap, VL.gIt_ap, VL.gRng_ap, VL.gItS_ap, VL.gFor_ap, VL.gLc_ap, VL.gCall_ap, VL.gCallF_ap, VL.gCallI_ap, VL.gCallK_ap, VL.gUn_ap, VL.gUnF_ap, VL.gDnew_ap, VL.gApp_ap, VL.gSetIx_ap, VL.gYes_ap, VL.gRaise_ap, VL.gSetF'_ap, VL.gMeth_ap, VL.gProp_ap, VL.gMake_ap, VL.gaStar_ap, VL.gPar2F_ap, VL.gSetSl_ap, VL.gDc_ap, VL.gItA_ap, VL.gDisp_ap, e1, e2, e3, hq3, intD_bl]
  rw [elong]
  simp [VL.bind_ok, VL.bind_er, VL.rs_d, VL.ofO_some, VL.runD_ap, VL.runF_ap, VL.runI, VL.startR, VL.rs, VL.rsL, VL.strL, VL.pick, VL.wipeR, VL.back, VL.noE_o, VL.gVar_ap, VL.gOwn_ap, VL.gC_ap, VL.gOp_ap, VL.gB_ap, VL.gCh_ap, VL.gAndT_ap, VL.gOrT_ap, VL.gNotT_ap, VL.gAnd_ap, VL.gOr_ap, VL.gNot_ap, VL.gIf_ap, VL.gaNil_ap, VL.gaCons_ap, VL.gTup_ap, VL.gLst_ap, VL.gF_ap, VL.gCB_ap, VL.gCBF_ap, VL.gOpF_ap, VL.gTru_ap, VL.gNoPart_ap, VL.gPart_ap, VL.gSl_ap, VL.gSlF_ap, VL.gNil_ap, VL.gSeq_ap, VL.gPass_ap, VL.gBrk_ap, VL.gCont_ap, VL.gExpr_ap, VL.gRet_ap, VL.gRetF_ap, VL.gRetN_ap, VL.gIfS_ap, VL.gSet_ap, VL.gSetF_ap, VL.ggName_ap, VL.ggNil_ap, VL.ggCons_ap, VL.ggTup_ap, VL.gAsg_ap, VL.gIt_ap, VL.gRng_ap, VL.gItS_ap, VL.gFor_ap, VL.gLc_ap, VL.gCall_ap, VL.gCallF_ap, VL.gCallI_ap, VL.gCallK_ap, VL.gUn_ap, VL.gUnF_ap, VL.gDnew_ap, VL.gApp_ap, VL.gSetIx_ap, VL.gYes_ap, VL.gRaise_ap, VL.gSetF'_ap, VL.gMeth_ap, VL.gProp_ap, VL.gMake_ap, VL.gaStar_ap, VL.gPar2F_ap, VL.gSetSl_ap, VL.gDc_ap, VL.gItA_ap, VL.gDisp_ap, e4, hlt, intD_bl]
  simp only [decide_eq_true_eq] at ep
  simp [VL.bind_ok, VL.bind_er, VL.rs_d, VL.ofO_some, VL.runD_ap, VL.runF_ap, VL.runI, VL.startR, VL.rs, VL.rsL, VL.strL, VL.pick, VL.wipeR, VL.back, VL.noE_o, VL.gVar_ap, VL.gOwn_ap, VL.gC_ap, VL.gOp_ap, VL.gB_ap, VL.gCh_ap, VL.gAndT_ap, VL.gOrT_ap, VL.gNotT_ap, VL.gAnd_ap, VL.gOr_ap, VL.gNot_ap, VL.gIf_ap, VL.gaNil_ap, VL.gaCons_ap, VL.gTup_ap, VL.gLst_ap, VL.gF_ap, VL.gCB_ap, VL.gCBF_ap, VL.gOpF_ap, VL.gTru_ap, VL.gNoPart_ap, VL.gPart_ap, VL.gSl_ap, VL.gSlF_ap, VL.gNil_ap, VL.gSeq_ap, VL.gPass_ap, VL.gBrk_ap, VL.gCont_ap, VL.gExpr_ap, VL.gRet_ap, VL.gRetF_ap, VL.gRetN_ap, VL.gIfS_ap, VL.gSet_ap, VL.gSetF_ap, VL.ggName_ap, VL.ggNil_ap, VL.ggCons_ap, VL.ggTup_ap, VL.gAsg_ap, VL.gIt_ap, VL.gRng_ap, VL.gItS_ap, VL.gFor_ap, VL.gLc_ap, VL.gCall_ap, VL.gCallF_ap, VL.gCallI_ap, VL.gCallK_ap, VL.gUn_ap, VL.gUnF_ap, VL.gDnew_ap, VL.gApp_ap, VL.gSetIx_ap, VL.gYes_ap, VL.gRaise_ap, VL.gSetF'_ap, VL.gMeth_ap, VL.gProp_ap, VL.gMake_ap, VL.gaStar_ap, VL.gPar2F_ap, VL.gSetSl_ap, VL.gDc_ap, VL.gItA_ap, VL.gDisp_ap, ep, emost, e5, hlen0, addD_int, e6, c1, eX, e7, eR, b1, c2, b2, ef hss, hlen, hr1]
  rw [lcL_filt (fun k => lk n ms long (del ss k) ss) fun (k : Nat) => .int (k : Int)]
  · have hI' : D.lst (((List.range ss.length).filter fun k => lk n ms long (del ss k) ss).map fun (k : Nat) => D.int (k : Int)) = I := hI
    simp [VL.bind_ok, VL.bind_er, VL.rs_d, VL.ofO_some, VL.runD_ap, VL.runF_ap, VL.runI, VL.startR, VL.rs, VL.rsL, VL.strL, VL.pick, VL.wipeR, VL.back, VL.noE_o, VL.gVar_ap, VL.gOwn_ap, VL.gC_ap, VL.gOp_ap, VL.gB_ap, VL.gCh_ap, VL.gAndT_ap, VL.gOrT_ap, VL.gNotT_ap, VL.gAnd_ap, VL.gOr_ap, VL.gNot_ap, VL.gIf_ap, VL.gaNil_ap, VL.gaCons_ap, VL.gTup_ap, VL.gLst_ap, VL.gF_ap, VL.gCB_ap, VL.gCBF_ap, VL.gOpF_ap, VL.gTru_ap, VL.gNoPart_ap, VL.gPart_ap, VL.gSl_ap, VL.gSlF_ap, VL.gNil_ap, VL.gSeq_ap, VL.gPass_ap, VL.gBrk_ap, VL.gCont_ap, VL.gExpr_ap, VL.gRet_ap, VL.gRetF_ap, VL.gRetN_ap, VL.gIfS_ap, VL.gSet_ap, VL.gSetF_ap, VL.ggName_ap, VL.ggNil_ap, VL.ggCons_ap, VL.ggTup_ap, VL.gAsg_ap, VL.gIt_ap, VL.gRng_ap, VL.gItS_ap, VL.gFor_ap, VL.gLc_ap, VL.gCall_ap, VL.gCallF_ap, VL.gCallI_ap, VL.gCallK_ap, VL.gUn_ap, VL.gUnF_ap, VL.gDnew_ap, VL.gApp_ap, VL.gSetIx_ap, VL.gYes_ap, VL.gRaise_ap, VL.gSetF'_ap, VL.gMeth_ap, VL.gProp_ap, VL.gMake_ap, VL.gaStar_ap, VL.gPar2F_ap, VL.gSetSl_ap, VL.gDc_ap, VL.gItA_ap, VL.gDisp_ap, hI', hlen, subD_int, hr2, eL, gTwo_ap, f1, hti, f4, hne, s1, s2, f2, f3, heq]
  · intro k hk
    have hk := List.mem_range.mp hk
    have g1 := pL_lo (ss := ss) (k := k) (by omega)
    have g2 := pL_hi (ss := ss) (k := k + 1) (by omega)
    rw [show ((k + 1 : Nat) : Int) = (k : Int) + 1 by omega] at g2
    have g5 := pL_add (a := ss.take k) (b := ss.drop (k + 1)) (by rw [List.length_take, List.length_drop]; unfold big; omega)
    have g7 := ef (hdel k)
    have g8 : del ss k = ss.take k ++ ss.drop (k + 1) := rfl
    rw [← g8] at g5
    have g9 := eq_fm (n := n) (ms := ms) (long := long) (a := del ss k) (b := ss)
    revert g1 g2 g5 g7 g9
    generalize lk n ms long (del ss k) ss = bb
    generalize fm n ms long (del ss k) = FS
    generalize pL (del ss k) = PS'
    generalize pL (ss.take k) = PA
    generalize pL (ss.drop (k + 1)) = PB
    intro g1 g2 g5 g7 g9
    simp [VL.bind_ok, VL.bind_er, VL.rs_d, VL.ofO_some, VL.runD_ap, VL.runF_ap, VL.runI, VL.startR, VL.rs, VL.rsL, VL.strL, VL.pick, VL.wipeR, VL.back, VL.noE_o, VL.gVar_ap, VL.gOwn_ap, VL.gC_ap, VL.gOp_ap, VL.gB_ap, VL.gCh_ap, VL.gAndT_ap, VL.gOrT_ap, VL.gNotT_ap, VL.gAnd_ap, VL.gOr_ap, VL.gNot_ap, VL.gIf_ap, VL.gaNil_ap, VL.gaCons_ap, VL.gTup_ap, VL.gLst_ap, VL.gF_ap, VL.gCB_ap, VL.gCBF_ap, VL.gOpF_ap, VL.gTru_ap, VL.gNoPart_ap, VL.gPart_ap, VL.gSl_ap, VL.gSlF_ap, VL.gNil_ap, VL.gSeq_ap, VL.gPass_ap, VL.gBrk_ap, VL.gCont_ap, VL.gExpr_ap, VL.gRet_ap, VL.gRetF_ap, VL.gRetN_ap, VL.gIfS_ap, VL.gSet_ap, VL.gSetF_ap, VL.ggName_ap, VL.ggNil_ap, VL.ggCons_ap, VL.ggTup_ap, VL.gAsg_ap, VL.gIt_ap, VL.gRng_ap, VL.gItS_ap, VL.gFor_ap, VL.gLc_ap, VL.gCall_ap, VL.gCallF_ap, VL.gCallI_ap, VL.gCallK_ap, VL.gUn_ap, VL.gUnF_ap, VL.gDnew_ap, VL.gApp_ap, VL.gSetIx_ap, VL.gYes_ap, VL.gRaise_ap, VL.gSetF'_ap, VL.gMeth_ap, VL.gProp_ap, VL.gMake_ap, VL.gaStar_ap, VL.gPar2F_ap, VL.gSetSl_ap, VL.gDc_ap, VL.gItA_ap, VL.gDisp_ap, addD_int, g1, g2, g5, g7, g9]
    cases bb <;> rfl
end
end K34
namespace K34
open PySem PySem.Spec PyProof.Rows L2 VL
def exM0 : List (Str × List Int) := [("up", [1, 2, 2]), ("two", [2, 2, 2])]
def exM : List (Str × List Int) := [("two", [2, 2, 2]), ("up", [1, 2, 2])]
def exS : List Stp := [("turn", 0, 4), ("two", 0, 2), ("up", 0, 4), ("turn", 2, 2), ("turn", 0, 4)]
theorem ex_dk : Dk iT exM0 exM := by
  have h : ∀ x ∈ exM.map (·.1), PyData.strOk x = true ∧ (x == ("turn" : Str)) = false ∧ 1 ≤ x.length ∧ x.length ≤ 8 ∧ ∀ c ∈ x.cps.toList, sLt ⟨#[c]⟩ "a" = false ∧ sLt "z" ⟨#[c]⟩ = false := by decide +kernel
  refine ⟨fun p hp => ?_, by decide +kernel, List.Perm.swap _ _ _, by decide +kernel, by decide⟩
  obtain ⟨a, b, c, d, e⟩ := h p.1 (List.mem_map.mpr ⟨p, hp, rfl⟩)
  exact ⟨a, b, c, d, e⟩
theorem ex_ok : ∀ p ∈ exM, IsRow 3 p.2 ∧ (p.2.length : Int) = 3 := by
  have : ∀ p ∈ exM, (∀ x ∈ p.2, 0 ≤ x ∧ x ≤ (3 : Int) - 1) ∧ (p.2.length : Int) = 3 := by decide +kernel
  exact this
theorem ex_st : St 3 exM := ⟨by decide, by decide, ex_dk.nm, ex_ok, by decide⟩
theorem ex_mem {a : Str} (h : a ∈ exM.map (·.1) ++ [("turn" : Str)]) : a ∈ actsOf exM true := (sortS_perm _).mem_iff.mpr h
theorem ex_ss : ∀ s ∈ exS, OkS (actsOf exM true) 4 s := fun s hs => by
  have : ∀ s ∈ exS, s.1 ∈ exM.map (·.1) ++ [("turn" : Str)] ∧ 0 ≤ s.2.1 ∧ s.2.1 ≤ s.2.2 ∧ s.2.2 ≤ 4 := by decide +kernel
  obtain ⟨a, b, c, d⟩ := this s hs
  exact ⟨ex_mem a, b, c, d⟩
theorem ex_i : (List.range exS.length).filter (fun k => lk 3 exM 4 (del exS k) exS) = [3] := by decide +kernel
theorem ex_w : (List.range (exS.length - 1)).filter (fun k => lk 3 exM 4 (swp exS k) exS) = [1, 2, 3] := by decide +kernel
theorem ex_dct : D.dct [.str "up", .str "two"] [.tup [.int 1, .int 2, .int 2], .tup [.int 2, .int 2, .int 2]] = dS iT exM0 := rfl
theorem math : ∀ ns : List Int, ns.length ≤ 63 → F_law [.frl (ns.map .int)] = .ok (.bl true) := fun ns hns => by
  have hlen : lenD [.frl (ns.map .int)] = some (.int ns.length) := by
    show some (D.int (ns.map D.int).length) = _
    rw [List.length_map]
  have hmin : ∃ m : Int, minD [.int 6, .int ns.length] = some (.int m) ∧ 0 ≤ m ∧ m ≤ 6 := by
    refine ⟨_, rfl, ?_, ?_⟩
    · split <;> omega
    · split <;> omega
  obtain ⟨m, hm, m0, m6⟩ := hmin
  have hrg := rng1_in (k := 1 + m) (by omega) (by omega)
  have hr3 : rng1 [.d (.int 4)] = some ((cells0.rangeI 4).map .int) := rng1_in (by omega) (by omega)
  obtain ⟨ρ', e, z1, z2, z3, z4, z5, rfl⟩ := forL_fold (c := D.int) (fun _ _ => ()) (fun _ ρ => ∃ z1 z2 z3 z4 z5, ρ = [some (.frl (ns.map .int)), z1, z2, z3, z4, z5, none, none]) (xs := cells0.rangeI (1 + m)) (a := ())
    (ρ := [some (.frl (ns.map .int)), none, none, none, none, none, none, none]) ⟨_, _, _, _, _, rfl⟩ (gg := ggName 1)
    (s := gSeq (gSetF 2 (gCallF 2 F__law_purse (gaCons (gVar 0) (gaCons (gVar 1) gaNil))))
    (gSeq (gSet 3 (gCallI 3 F__law_own (gaCons (gOwn 2) (gaCons (gC (.int 4)) (gaCons (gC (.int 1)) gaNil)))))
    (gSeq (gSet 4 (gCall 1 F__law_setting (gaCons (gVar 3) gaNil)))
    (gFor (gRng rng1 (gaCons (gC (.int 4)) gaNil)) (ggName 5)
    (gIfS (gNotT (gTru (gCallI 3 F__law_right (gaCons (gOwn 2) (gaCons (gVar 3) (gaCons (gVar 4) gaNil))))))
    (gRet false (gC (.bl false)))
    gNil))))) (by
      rintro x hx _ _ ⟨z1, z2, z3, z4, z5, rfl⟩
      obtain ⟨i, hi, rfl⟩ := List.mem_map.mp hx
      have hi := List.mem_range.mp hi
      obtain ⟨d, e1, h1⟩ := purse_ok (ns := ns) (k := i) (by omega)
      obtain ⟨n, ms, as, t, d2, e2, o, h2⟩ := own_ok h1 (by omega)
      obtain ⟨as', e3⟩ := law_setting_ok (t := t) o
      have e1' : F__law_purse [.frl (ns.map .int), .int (0 + (i : Int))] = .ok d := by rw [Int.zero_add]; exact e1
      generalize hOD : oD n ms as t = OD at *
      generalize hSD : sD n ms as' t = SD at *
      obtain ⟨d4, z, e4, h4⟩ := for_keep (v := 5) (ζ := Option D)
        (s := gIfS (gNotT (gTru (gCallI 3 F__law_right (gaCons (gOwn 2) (gaCons (gVar 3) (gaCons (gVar 4) gaNil))))))
    (gRet false (gC (.bl false)))
    gNil)
        (fun d z => [some (.frl (ns.map .int)), some (.int (0 + (i : Int))), some d, some OD, some SD, z, none, none]) (fun z x => some x) 1000 45000 (fun _ _ _ => rfl) (by
          intro k d z x h hk
          obtain ⟨d', e, h'⟩ := right_ok (as := as) (as' := as') (t := t) o.st h (by omega)
          rw [hOD, hSD] at e
          exact ⟨d', some x, by simp [VL.bind_ok, VL.bind_er, VL.rs_d, VL.ofO_some, VL.runD_ap, VL.runF_ap, VL.runI, VL.startR, VL.rs, VL.rsL, VL.strL, VL.pick, VL.wipeR, VL.back, VL.noE_o, VL.gVar_ap, VL.gOwn_ap, VL.gC_ap, VL.gOp_ap, VL.gB_ap, VL.gCh_ap, VL.gAndT_ap, VL.gOrT_ap, VL.gNotT_ap, VL.gAnd_ap, VL.gOr_ap, VL.gNot_ap, VL.gIf_ap, VL.gaNil_ap, VL.gaCons_ap, VL.gTup_ap, VL.gLst_ap, VL.gF_ap, VL.gCB_ap, VL.gCBF_ap, VL.gOpF_ap, VL.gTru_ap, VL.gNoPart_ap, VL.gPart_ap, VL.gSl_ap, VL.gSlF_ap, VL.gNil_ap, VL.gSeq_ap, VL.gPass_ap, VL.gBrk_ap, VL.gCont_ap, VL.gExpr_ap, VL.gRet_ap, VL.gRetF_ap, VL.gRetN_ap, VL.gIfS_ap, VL.gSet_ap, VL.gSetF_ap, VL.ggName_ap, VL.ggNil_ap, VL.ggCons_ap, VL.ggTup_ap, VL.gAsg_ap, VL.gIt_ap, VL.gRng_ap, VL.gItS_ap, VL.gFor_ap, VL.gLc_ap, VL.gCall_ap, VL.gCallF_ap, VL.gCallI_ap, VL.gCallK_ap, VL.gUn_ap, VL.gUnF_ap, VL.gDnew_ap, VL.gApp_ap, VL.gSetIx_ap, VL.gYes_ap, VL.gRaise_ap, VL.gSetF'_ap, VL.gMeth_ap, VL.gProp_ap, VL.gMake_ap, VL.gaStar_ap, VL.gPar2F_ap, VL.gSetSl_ap, VL.gDc_ap, VL.gItA_ap, VL.gDisp_ap, e, truD_b], h'⟩) (xs := (cells0.rangeI 4).map D.int) (z := z5) h2 (by show _ + 4 * 1000 + 1000 < 45000; omega)
      refine ⟨[some (.frl (ns.map .int)), some (.int (0 + (i : Int))), some d4, some OD, some SD, z, none, none], ?_, _, _, _, _, _, rfl⟩
      revert e1' e4
      generalize (0 : Int) + (i : Int) = I
      intro e1' e4
      simp [VL.bind_ok, VL.bind_er, VL.rs_d, VL.ofO_some, VL.runD_ap, VL.runF_ap, VL.runI, VL.startR, VL.rs, VL.rsL, VL.strL, VL.pick, VL.wipeR, VL.back, VL.noE_o, VL.gVar_ap, VL.gOwn_ap, VL.gC_ap, VL.gOp_ap, VL.gB_ap, VL.gCh_ap, VL.gAndT_ap, VL.gOrT_ap, VL.gNotT_ap, VL.gAnd_ap, VL.gOr_ap, VL.gNot_ap, VL.gIf_ap, VL.gaNil_ap, VL.gaCons_ap, VL.gTup_ap, VL.gLst_ap, VL.gF_ap, VL.gCB_ap, VL.gCBF_ap, VL.gOpF_ap, VL.gTru_ap, VL.gNoPart_ap, VL.gPart_ap, VL.gSl_ap, VL.gSlF_ap, VL.gNil_ap, VL.gSeq_ap, VL.gPass_ap, VL.gBrk_ap, VL.gCont_ap, VL.gExpr_ap, VL.gRet_ap, VL.gRetF_ap, VL.gRetN_ap, VL.gIfS_ap, VL.gSet_ap, VL.gSetF_ap, VL.ggName_ap, VL.ggNil_ap, VL.ggCons_ap, VL.ggTup_ap, VL.gAsg_ap, VL.gIt_ap, VL.gRng_ap, VL.gItS_ap, VL.gFor_ap, VL.gLc_ap, VL.gCall_ap, VL.gCallF_ap, VL.gCallI_ap, VL.gCallK_ap, VL.gUn_ap, VL.gUnF_ap, VL.gDnew_ap, VL.gApp_ap, VL.gSetIx_ap, VL.gYes_ap, VL.gRaise_ap, VL.gSetF'_ap, VL.gMeth_ap, VL.gProp_ap, VL.gMake_ap, VL.gaStar_ap, VL.gPar2F_ap, VL.gSetSl_ap, VL.gDc_ap, VL.gItA_ap, VL.gDisp_ap, e1', e2, e3, hr3, e4])
  have hi := init_ok (t := true) (A := .non) (as' := []) (n := 3) (by decide) (by decide) ex_dk ex_ok (checked_asks_non 3)
  have h1 := idle_ok (as := []) ex_st (t := true) (long := 4) (by decide) (by decide) ex_ss (by decide) (P := .tup (exS.map pD)) (.inl rfl)
  have h2 := swaps_ok (as := []) ex_st (t := true) (long := 4) (by decide) (by decide) ex_ss (by decide) (P := .tup (exS.map pD)) (.inl rfl)
  have h3 := swaps_ok (as := []) ex_st (t := true) (long := 0) (by decide) (by decide) (ss := []) (by intro s hs; cases hs) (by decide) (P := .tup []) (.inl rfl)
  rw [ex_i] at h1
  rw [ex_w] at h2
  have h3 : F_swaps [sD 3 exM [] true, .tup [], .int 0] = .ok (.lst []) := h3
  have hp : D.tup (exS.map pD) = .tup [.tup [.str "turn", .int 0, .int 4], .tup [.str "two", .int 0, .int 2], .tup [.str "up", .int 0, .int 4], .tup [.str "turn", .int 2, .int 2], .tup [.str "turn", .int 0, .int 4]] := rfl
  rw [hp] at h1 h2
  have h1 : F_idle [sD 3 exM [] true, _, _] = .ok (.lst [.int 3]) := h1
  have h2 : F_swaps [sD 3 exM [] true, _, _] = .ok (.lst [.int 1, .int 2, .int 3]) := h2
  have q1 : eqD (.lst [.int 3]) (.lst [.int 3]) = some (.bl true) := eqD_self (k := 1) (.lst fun d hd => by rw [List.mem_singleton.mp hd]; exact .int _)
  have q2 : eqD (.lst [.int 1, .int 2, .int 3]) (.lst [.int 1, .int 2, .int 3]) = some (.bl true) := eqD_self (k := 1) (.lst fun d hd => by
    obtain ⟨i, _, rfl⟩ := List.mem_map.mp (show d ∈ [(1 : Int), 2, 3].map D.int from hd)
    exact .int _)
  have q3 : eqD (.lst []) (.lst []) = some (.bl true) := eqD_self (k := 1) (.lst fun d hd => nomatch hd)
  unfold F_law g_law
  have hf1 : (Str.ofString "up" = Str.ofString "two") = False := eq_false (by decide +kernel)
  have hk1 : VL.keyOf (.str "up") = some (.inr "up") := rfl
  have hk2 : VL.keyOf (.str "two") = some (.inr "two") := rfl
  simp [VL.bind_ok, VL.bind_er, VL.rs_d, VL.ofO_some, VL.runD_ap, VL.runF_ap, VL.runI, VL.startR, VL.rs, VL.rsL, VL.strL, VL.pick, VL.wipeR, VL.back, VL.noE_o, VL.gVar_ap, VL.gOwn_ap, VL.gC_ap, VL.gOp_ap, VL.gB_ap, VL.gCh_ap, VL.gAndT_ap, VL.gOrT_ap, VL.gNotT_ap, VL.gAnd_ap, VL.gOr_ap, VL.gNot_ap, VL.gIf_ap, VL.gaNil_ap, VL.gaCons_ap, VL.gTup_ap, VL.gLst_ap, VL.gF_ap, VL.gCB_ap, VL.gCBF_ap, VL.gOpF_ap, VL.gTru_ap, VL.gNoPart_ap, VL.gPart_ap, VL.gSl_ap, VL.gSlF_ap, VL.gNil_ap, VL.gSeq_ap, VL.gPass_ap, VL.gBrk_ap, VL.gCont_ap, VL.gExpr_ap, VL.gRet_ap, VL.gRetF_ap, VL.gRetN_ap, VL.gIfS_ap, VL.gSet_ap, VL.gSetF_ap, VL.ggName_ap, VL.ggNil_ap, VL.ggCons_ap, VL.ggTup_ap, VL.gAsg_ap, VL.gIt_ap, VL.gRng_ap, VL.gItS_ap, VL.gFor_ap, VL.gLc_ap, VL.gCall_ap, VL.gCallF_ap, VL.gCallI_ap, VL.gCallK_ap, VL.gUn_ap, VL.gUnF_ap, VL.gDnew_ap, VL.gApp_ap, VL.gSetIx_ap, VL.gYes_ap, VL.gRaise_ap, VL.gSetF'_ap, VL.gMeth_ap, VL.gProp_ap, VL.gMake_ap, VL.gaStar_ap, VL.gPar2F_ap, VL.gSetSl_ap, VL.gDc_ap, VL.gItA_ap, VL.gDisp_ap, hlen, hm, addD_int, hrg, e, pairsG, keyW, hk1, hk2, putP, putD, kD, hf1, ex_dct, hi, h1, h2, h3, q1, q2, q3]
end K34
namespace K34
open PySem PySem.Spec PyProof.Rows L2 VL
open LT (ErrV)
section
theorem ini_InvalidSize {P : Program} {w : World} {K : PySem.W.Frag} {mg : Str → Option Value} {base : Heap} {C fI : Addr} {fd : FuncData} (F : FunD K "__init__" "InvalidSize.__init__" (defArgs s_InvalidSize___init__) (defBody s_InvalidSize___init__) (defScope s_InvalidSize___init__) [.non] [] fI fd) (T : OexC K C) (nf : PySem.W.findIn K (.ref C) "size" = some none)
    (gl : mg "InvalidSize" = some (.ref C)) (xf : XfC K C) (ex : ExcC K C) (iC : PySem.W.findIn K (.ref C) "__init__" = some (some (.ref fI))) (tI : PySem.W.typeIn K (.ref fI) = some (.type "function")) : ErrV P w K mg base "InvalidSize" "size" C :=
  LT.errV_of F sc_InvalidSize___init__ T nf gl xf ex iC tI (fun _ _ _ _ _ _ => pss_one (ps_ost (pv 0) (pv 1))) (fun _ _ _ _ _ _ _ _ _ its h1 => match its, h1 with | [_], _ => ⟨_, rfl, rfl⟩) (fun _ _ _ _ _ _ _ _ _ its h1 => match its, h1 with | [_], _ => ⟨_, rfl, rfl⟩) (fun _ _ _ _ _ _ _ us its h1 h2 => match us, its, h1, h2 with | [_], [_], _, _ => ⟨_, rfl, rfl⟩)
theorem ini_InvalidRow {P : Program} {w : World} {K : PySem.W.Frag} {mg : Str → Option Value} {base : Heap} {C fI : Addr} {fd : FuncData} (F : FunD K "__init__" "InvalidRow.__init__" (defArgs s_InvalidRow___init__) (defBody s_InvalidRow___init__) (defScope s_InvalidRow___init__) [.non] [] fI fd) (T : OexC K C) (nf : PySem.W.findIn K (.ref C) "thing" = some none)
    (gl : mg "InvalidRow" = some (.ref C)) (xf : XfC K C) (ex : ExcC K C) (iC : PySem.W.findIn K (.ref C) "__init__" = some (some (.ref fI))) (tI : PySem.W.typeIn K (.ref fI) = some (.type "function")) : ErrV P w K mg base "InvalidRow" "thing" C :=
  LT.errV_of F sc_InvalidRow___init__ T nf gl xf ex iC tI (fun _ _ _ _ _ _ => pss_one (ps_ost (pv 0) (pv 1))) (fun _ _ _ _ _ _ _ _ _ its h1 => match its, h1 with | [_], _ => ⟨_, rfl, rfl⟩) (fun _ _ _ _ _ _ _ _ _ its h1 => match its, h1 with | [_], _ => ⟨_, rfl, rfl⟩) (fun _ _ _ _ _ _ _ us its h1 h2 => match us, its, h1, h2 with | [_], [_], _, _ => ⟨_, rfl, rfl⟩)
theorem ini_NotASetting {P : Program} {w : World} {K : PySem.W.Frag} {mg : Str → Option Value} {base : Heap} {C fI : Addr} {fd : FuncData} (F : FunD K "__init__" "NotASetting.__init__" (defArgs s_NotASetting___init__) (defBody s_NotASetting___init__) (defScope s_NotASetting___init__) [.non] [] fI fd) (T : OexC K C) (nf : PySem.W.findIn K (.ref C) "thing" = some none)
    (gl : mg "NotASetting" = some (.ref C)) (xf : XfC K C) (ex : ExcC K C) (iC : PySem.W.findIn K (.ref C) "__init__" = some (some (.ref fI))) (tI : PySem.W.typeIn K (.ref fI) = some (.type "function")) : ErrV P w K mg base "NotASetting" "thing" C :=
  LT.errV_of F sc_NotASetting___init__ T nf gl xf ex iC tI (fun _ _ _ _ _ _ => pss_one (ps_ost (pv 0) (pv 1))) (fun _ _ _ _ _ _ _ _ _ its h1 => match its, h1 with | [_], _ => ⟨_, rfl, rfl⟩) (fun _ _ _ _ _ _ _ _ _ its h1 => match its, h1 with | [_], _ => ⟨_, rfl, rfl⟩) (fun _ _ _ _ _ _ _ us its h1 h2 => match us, its, h1, h2 with | [_], [_], _, _ => ⟨_, rfl, rfl⟩)
theorem ini_InvalidMaps {P : Program} {w : World} {K : PySem.W.Frag} {mg : Str → Option Value} {base : Heap} {C fI : Addr} {fd : FuncData} (F : FunD K "__init__" "InvalidMaps.__init__" (defArgs s_InvalidMaps___init__) (defBody s_InvalidMaps___init__) (defScope s_InvalidMaps___init__) [.non] [] fI fd) (T : OexC K C) (nf : PySem.W.findIn K (.ref C) "name" = some none)
    (gl : mg "InvalidMaps" = some (.ref C)) (xf : XfC K C) (ex : ExcC K C) (iC : PySem.W.findIn K (.ref C) "__init__" = some (some (.ref fI))) (tI : PySem.W.typeIn K (.ref fI) = some (.type "function")) : ErrV P w K mg base "InvalidMaps" "name" C :=
  LT.errV_of F sc_InvalidMaps___init__ T nf gl xf ex iC tI (fun _ _ _ _ _ _ => pss_one (ps_ost (pv 0) (pv 1))) (fun _ _ _ _ _ _ _ _ _ its h1 => match its, h1 with | [_], _ => ⟨_, rfl, rfl⟩) (fun _ _ _ _ _ _ _ _ _ its h1 => match its, h1 with | [_], _ => ⟨_, rfl, rfl⟩) (fun _ _ _ _ _ _ _ us its h1 h2 => match us, its, h1, h2 with | [_], [_], _, _ => ⟨_, rfl, rfl⟩)
theorem ini_InvalidAsks {P : Program} {w : World} {K : PySem.W.Frag} {mg : Str → Option Value} {base : Heap} {C fI : Addr} {fd : FuncData} (F : FunD K "__init__" "InvalidAsks.__init__" (defArgs s_InvalidAsks___init__) (defBody s_InvalidAsks___init__) (defScope s_InvalidAsks___init__) [.non] [] fI fd) (T : OexC K C) (nf : PySem.W.findIn K (.ref C) "name" = some none)
    (gl : mg "InvalidAsks" = some (.ref C)) (xf : XfC K C) (ex : ExcC K C) (iC : PySem.W.findIn K (.ref C) "__init__" = some (some (.ref fI))) (tI : PySem.W.typeIn K (.ref fI) = some (.type "function")) : ErrV P w K mg base "InvalidAsks" "name" C :=
  LT.errV_of F sc_InvalidAsks___init__ T nf gl xf ex iC tI (fun _ _ _ _ _ _ => pss_one (ps_ost (pv 0) (pv 1))) (fun _ _ _ _ _ _ _ _ _ its h1 => match its, h1 with | [_], _ => ⟨_, rfl, rfl⟩) (fun _ _ _ _ _ _ _ _ _ its h1 => match its, h1 with | [_], _ => ⟨_, rfl, rfl⟩) (fun _ _ _ _ _ _ _ us its h1 h2 => match us, its, h1, h2 with | [_], [_], _, _ => ⟨_, rfl, rfl⟩)
theorem ini_InvalidTurning {P : Program} {w : World} {K : PySem.W.Frag} {mg : Str → Option Value} {base : Heap} {C fI : Addr} {fd : FuncData} (F : FunD K "__init__" "InvalidTurning.__init__" (defArgs s_InvalidTurning___init__) (defBody s_InvalidTurning___init__) (defScope s_InvalidTurning___init__) [.non] [] fI fd) (T : OexC K C) (nf : PySem.W.findIn K (.ref C) "turning" = some none)
    (gl : mg "InvalidTurning" = some (.ref C)) (xf : XfC K C) (ex : ExcC K C) (iC : PySem.W.findIn K (.ref C) "__init__" = some (some (.ref fI))) (tI : PySem.W.typeIn K (.ref fI) = some (.type "function")) : ErrV P w K mg base "InvalidTurning" "turning" C :=
  LT.errV_of F sc_InvalidTurning___init__ T nf gl xf ex iC tI (fun _ _ _ _ _ _ => pss_one (ps_ost (pv 0) (pv 1))) (fun _ _ _ _ _ _ _ _ _ its h1 => match its, h1 with | [_], _ => ⟨_, rfl, rfl⟩) (fun _ _ _ _ _ _ _ _ _ its h1 => match its, h1 with | [_], _ => ⟨_, rfl, rfl⟩) (fun _ _ _ _ _ _ _ us its h1 h2 => match us, its, h1, h2 with | [_], [_], _, _ => ⟨_, rfl, rfl⟩)
theorem ini_InvalidDeeds {P : Program} {w : World} {K : PySem.W.Frag} {mg : Str → Option Value} {base : Heap} {C fI : Addr} {fd : FuncData} (F : FunD K "__init__" "InvalidDeeds.__init__" (defArgs s_InvalidDeeds___init__) (defBody s_InvalidDeeds___init__) (defScope s_InvalidDeeds___init__) [.non] [] fI fd) (T : OexC K C) (nf : PySem.W.findIn K (.ref C) "place" = some none)
    (gl : mg "InvalidDeeds" = some (.ref C)) (xf : XfC K C) (ex : ExcC K C) (iC : PySem.W.findIn K (.ref C) "__init__" = some (some (.ref fI))) (tI : PySem.W.typeIn K (.ref fI) = some (.type "function")) : ErrV P w K mg base "InvalidDeeds" "place" C :=
  LT.errV_of F sc_InvalidDeeds___init__ T nf gl xf ex iC tI (fun _ _ _ _ _ _ => pss_one (ps_ost (pv 0) (pv 1))) (fun _ _ _ _ _ _ _ _ _ its h1 => match its, h1 with | [_], _ => ⟨_, rfl, rfl⟩) (fun _ _ _ _ _ _ _ _ _ its h1 => match its, h1 with | [_], _ => ⟨_, rfl, rfl⟩) (fun _ _ _ _ _ _ _ us its h1 h2 => match us, its, h1, h2 with | [_], [_], _, _ => ⟨_, rfl, rfl⟩)
theorem ini_InvalidPlan {P : Program} {w : World} {K : PySem.W.Frag} {mg : Str → Option Value} {base : Heap} {C fI : Addr} {fd : FuncData} (F : FunD K "__init__" "InvalidPlan.__init__" (defArgs s_InvalidPlan___init__) (defBody s_InvalidPlan___init__) (defScope s_InvalidPlan___init__) [.non] [] fI fd) (T : OexC K C) (nf : PySem.W.findIn K (.ref C) "place" = some none)
    (gl : mg "InvalidPlan" = some (.ref C)) (xf : XfC K C) (ex : ExcC K C) (iC : PySem.W.findIn K (.ref C) "__init__" = some (some (.ref fI))) (tI : PySem.W.typeIn K (.ref fI) = some (.type "function")) : ErrV P w K mg base "InvalidPlan" "place" C :=
  LT.errV_of F sc_InvalidPlan___init__ T nf gl xf ex iC tI (fun _ _ _ _ _ _ => pss_one (ps_ost (pv 0) (pv 1))) (fun _ _ _ _ _ _ _ _ _ its h1 => match its, h1 with | [_], _ => ⟨_, rfl, rfl⟩) (fun _ _ _ _ _ _ _ _ _ its h1 => match its, h1 with | [_], _ => ⟨_, rfl, rfl⟩) (fun _ _ _ _ _ _ _ us its h1 h2 => match us, its, h1, h2 with | [_], [_], _, _ => ⟨_, rfl, rfl⟩)
theorem ini_InvalidLength {P : Program} {w : World} {K : PySem.W.Frag} {mg : Str → Option Value} {base : Heap} {C fI : Addr} {fd : FuncData} (F : FunD K "__init__" "InvalidLength.__init__" (defArgs s_InvalidLength___init__) (defBody s_InvalidLength___init__) (defScope s_InvalidLength___init__) [.non] [] fI fd) (T : OexC K C) (nf : PySem.W.findIn K (.ref C) "length" = some none)
    (gl : mg "InvalidLength" = some (.ref C)) (xf : XfC K C) (ex : ExcC K C) (iC : PySem.W.findIn K (.ref C) "__init__" = some (some (.ref fI))) (tI : PySem.W.typeIn K (.ref fI) = some (.type "function")) : ErrV P w K mg base "InvalidLength" "length" C :=
  LT.errV_of F sc_InvalidLength___init__ T nf gl xf ex iC tI (fun _ _ _ _ _ _ => pss_one (ps_ost (pv 0) (pv 1))) (fun _ _ _ _ _ _ _ _ _ its h1 => match its, h1 with | [_], _ => ⟨_, rfl, rfl⟩) (fun _ _ _ _ _ _ _ _ _ its h1 => match its, h1 with | [_], _ => ⟨_, rfl, rfl⟩) (fun _ _ _ _ _ _ _ us its h1 h2 => match us, its, h1, h2 with | [_], [_], _, _ => ⟨_, rfl, rfl⟩)
end
theorem all_mk (hmath : ∀ ns : List Int, ns.length ≤ 63 → F_law [.frl (ns.map .int)] = .ok (.bl true)) {l : PySem.W.OpenLaw} {w : World} {K : PySem.W.Frag} {h : Heap} {mg : Str → Option Value} {fa : Addr} (X : K.In h) (G : h.Ns mainGlobals mg) (hfa : mg "law" = some (.ref fa))
    {C0 I0 T0 N0 : Addr} {nm0 q0 : Str} {bs0 bm0 : List Value} {sn0 : List Str} {sub0 : List Value} {ab0 : Bool} {col0 : Option Bool} {dd0 : Option Addr} {m00 m10 m20 m30 m50 : Option Value}
    {eo0 ekV0 edc0 epm0 ecd0 ect0 : Value} {eod0 ean0 : Option Addr} {esl0 : Array (Option Value)} {toc0 : Value} {tod0 : Option Addr} {tn0 : Nat} {tsl0 : Array (Option Value)}
    {C1 I1 T1 N1 : Addr} {nm1 q1 : Str} {bs1 bm1 : List Value} {sn1 : List Str} {sub1 : List Value} {ab1 : Bool} {col1 : Option Bool} {dd1 : Option Addr} {m01 m11 m21 m31 m51 : Option Value}
    {eo1 ekV1 edc1 epm1 ecd1 ect1 : Value} {eod1 ean1 : Option Addr} {esl1 : Array (Option Value)} {toc1 : Value} {tod1 : Option Addr} {tn1 : Nat} {tsl1 : Array (Option Value)}
    {C2 I2 T2 N2 : Addr} {nm2 q2 : Str} {bs2 bm2 : List Value} {sn2 : List Str} {sub2 : List Value} {ab2 : Bool} {col2 : Option Bool} {dd2 : Option Addr} {m02 m12 m22 m32 m52 : Option Value}
    {eo2 ekV2 edc2 epm2 ecd2 ect2 : Value} {eod2 ean2 : Option Addr} {esl2 : Array (Option Value)} {toc2 : Value} {tod2 : Option Addr} {tn2 : Nat} {tsl2 : Array (Option Value)}
    {C3 I3 T3 N3 : Addr} {nm3 q3 : Str} {bs3 bm3 : List Value} {sn3 : List Str} {sub3 : List Value} {ab3 : Bool} {col3 : Option Bool} {dd3 : Option Addr} {m03 m13 m23 m33 m53 : Option Value}
    {eo3 ekV3 edc3 epm3 ecd3 ect3 : Value} {eod3 ean3 : Option Addr} {esl3 : Array (Option Value)} {toc3 : Value} {tod3 : Option Addr} {tn3 : Nat} {tsl3 : Array (Option Value)}
    {C4 I4 T4 N4 : Addr} {nm4 q4 : Str} {bs4 bm4 : List Value} {sn4 : List Str} {sub4 : List Value} {ab4 : Bool} {col4 : Option Bool} {dd4 : Option Addr} {m04 m14 m24 m34 m54 : Option Value}
    {eo4 ekV4 edc4 epm4 ecd4 ect4 : Value} {eod4 ean4 : Option Addr} {esl4 : Array (Option Value)} {toc4 : Value} {tod4 : Option Addr} {tn4 : Nat} {tsl4 : Array (Option Value)}
    {C5 I5 T5 N5 : Addr} {nm5 q5 : Str} {bs5 bm5 : List Value} {sn5 : List Str} {sub5 : List Value} {ab5 : Bool} {col5 : Option Bool} {dd5 : Option Addr} {m05 m15 m25 m35 m55 : Option Value}
    {eo5 ekV5 edc5 epm5 ecd5 ect5 : Value} {eod5 ean5 : Option Addr} {esl5 : Array (Option Value)} {toc5 : Value} {tod5 : Option Addr} {tn5 : Nat} {tsl5 : Array (Option Value)}
    {C6 I6 T6 N6 : Addr} {nm6 q6 : Str} {bs6 bm6 : List Value} {sn6 : List Str} {sub6 : List Value} {ab6 : Bool} {col6 : Option Bool} {dd6 : Option Addr} {m06 m16 m26 m36 m56 : Option Value}
    {eo6 ekV6 edc6 epm6 ecd6 ect6 : Value} {eod6 ean6 : Option Addr} {esl6 : Array (Option Value)} {toc6 : Value} {tod6 : Option Addr} {tn6 : Nat} {tsl6 : Array (Option Value)}
    {C7 I7 T7 N7 : Addr} {nm7 q7 : Str} {bs7 bm7 : List Value} {sn7 : List Str} {sub7 : List Value} {ab7 : Bool} {col7 : Option Bool} {dd7 : Option Addr} {m07 m17 m27 m37 m57 : Option Value}
    {eo7 ekV7 edc7 epm7 ecd7 ect7 : Value} {eod7 ean7 : Option Addr} {esl7 : Array (Option Value)} {toc7 : Value} {tod7 : Option Addr} {tn7 : Nat} {tsl7 : Array (Option Value)}
    {C8 I8 T8 N8 : Addr} {nm8 q8 : Str} {bs8 bm8 : List Value} {sn8 : List Str} {sub8 : List Value} {ab8 : Bool} {col8 : Option Bool} {dd8 : Option Addr} {m08 m18 m28 m38 m58 : Option Value}
    {eo8 ekV8 edc8 epm8 ecd8 ect8 : Value} {eod8 ean8 : Option Addr} {esl8 : Array (Option Value)} {toc8 : Value} {tod8 : Option Addr} {tn8 : Nat} {tsl8 : Array (Option Value)}
    {tk_MOST_PLACES : Tok}
    {SC : Addr}
    {f0 : Addr} {od0 an0 : Option Addr} {sl0 : Array (Option Value)} {oc0 kV0 dc0 pm0 cd0 ct0 : Value}
    {f1 : Addr} {od1 an1 : Option Addr} {sl1 : Array (Option Value)} {oc1 kV1 dc1 pm1 cd1 ct1 : Value}
    {f2 : Addr} {od2 an2 : Option Addr} {sl2 : Array (Option Value)} {oc2 kV2 dc2 pm2 cd2 ct2 : Value}
    {f3 : Addr} {od3 an3 : Option Addr} {sl3 : Array (Option Value)} {oc3 kV3 dc3 pm3 cd3 ct3 : Value}
    {f4 : Addr} {od4 an4 : Option Addr} {sl4 : Array (Option Value)} {oc4 kV4 dc4 pm4 cd4 ct4 : Value}
    {f5 : Addr} {od5 an5 : Option Addr} {sl5 : Array (Option Value)} {oc5 kV5 dc5 pm5 cd5 ct5 : Value}
    {f6 : Addr} {od6 an6 : Option Addr} {sl6 : Array (Option Value)} {oc6 kV6 dc6 pm6 cd6 ct6 : Value}
    {f7 : Addr} {od7 an7 : Option Addr} {sl7 : Array (Option Value)} {oc7 kV7 dc7 pm7 cd7 ct7 : Value}
    {f8 : Addr} {od8 an8 : Option Addr} {sl8 : Array (Option Value)} {oc8 kV8 dc8 pm8 cd8 ct8 : Value}
    {f9 : Addr} {od9 an9 : Option Addr} {sl9 : Array (Option Value)} {oc9 kV9 dc9 pm9 cd9 ct9 : Value}
    {f10 : Addr} {od10 an10 : Option Addr} {sl10 : Array (Option Value)} {oc10 kV10 dc10 pm10 cd10 ct10 : Value}
    {TT10 : Addr} {ttc10 : Value} {ttd10 : Option Addr} {ttn10 : Nat} {tts10 : Array (Option Value)}
    {f11 : Addr} {od11 an11 : Option Addr} {sl11 : Array (Option Value)} {oc11 kV11 dc11 pm11 cd11 ct11 : Value}
    {f12 : Addr} {od12 an12 : Option Addr} {sl12 : Array (Option Value)} {oc12 kV12 dc12 pm12 cd12 ct12 : Value}
    {f13 : Addr} {od13 an13 : Option Addr} {sl13 : Array (Option Value)} {oc13 kV13 dc13 pm13 cd13 ct13 : Value}
    {f14 : Addr} {od14 an14 : Option Addr} {sl14 : Array (Option Value)} {oc14 kV14 dc14 pm14 cd14 ct14 : Value}
    {f15 : Addr} {od15 an15 : Option Addr} {sl15 : Array (Option Value)} {oc15 kV15 dc15 pm15 cd15 ct15 : Value}
    {f16 : Addr} {od16 an16 : Option Addr} {sl16 : Array (Option Value)} {oc16 kV16 dc16 pm16 cd16 ct16 : Value}
    {f17 : Addr} {od17 an17 : Option Addr} {sl17 : Array (Option Value)} {oc17 kV17 dc17 pm17 cd17 ct17 : Value}
    {f18 : Addr} {od18 an18 : Option Addr} {sl18 : Array (Option Value)} {oc18 kV18 dc18 pm18 cd18 ct18 : Value}
    {f19 : Addr} {od19 an19 : Option Addr} {sl19 : Array (Option Value)} {oc19 kV19 dc19 pm19 cd19 ct19 : Value}
    {f20 : Addr} {od20 an20 : Option Addr} {sl20 : Array (Option Value)} {oc20 kV20 dc20 pm20 cd20 ct20 : Value}
    {f21 : Addr} {od21 an21 : Option Addr} {sl21 : Array (Option Value)} {oc21 kV21 dc21 pm21 cd21 ct21 : Value}
    {f22 : Addr} {od22 an22 : Option Addr} {sl22 : Array (Option Value)} {oc22 kV22 dc22 pm22 cd22 ct22 : Value}
    {f23 : Addr} {od23 an23 : Option Addr} {sl23 : Array (Option Value)} {oc23 kV23 dc23 pm23 cd23 ct23 : Value}
    {p23 : Addr} {rest23 : List Value}
    {f24 : Addr} {od24 an24 : Option Addr} {sl24 : Array (Option Value)} {oc24 kV24 dc24 pm24 cd24 ct24 : Value}
    {f25 : Addr} {od25 an25 : Option Addr} {sl25 : Array (Option Value)} {oc25 kV25 dc25 pm25 cd25 ct25 : Value}
    {p25 : Addr} {rest25 : List Value}
    {f26 : Addr} {od26 an26 : Option Addr} {sl26 : Array (Option Value)} {oc26 kV26 dc26 pm26 cd26 ct26 : Value}
    {p26 : Addr} {rest26 : List Value}
    {f27 : Addr} {od27 an27 : Option Addr} {sl27 : Array (Option Value)} {oc27 kV27 dc27 pm27 cd27 ct27 : Value}
    {f28 : Addr} {od28 an28 : Option Addr} {sl28 : Array (Option Value)} {oc28 kV28 dc28 pm28 cd28 ct28 : Value}
    {f29 : Addr} {od29 an29 : Option Addr} {sl29 : Array (Option Value)} {oc29 kV29 dc29 pm29 cd29 ct29 : Value}
    {f30 : Addr} {od30 an30 : Option Addr} {sl30 : Array (Option Value)} {oc30 kV30 dc30 pm30 cd30 ct30 : Value}
    {f31 : Addr} {od31 an31 : Option Addr} {sl31 : Array (Option Value)} {oc31 kV31 dc31 pm31 cd31 ct31 : Value}
    {f32 : Addr} {od32 an32 : Option Addr} {sl32 : Array (Option Value)} {oc32 kV32 dc32 pm32 cd32 ct32 : Value}
    {f33 : Addr} {od33 an33 : Option Addr} {sl33 : Array (Option Value)} {oc33 kV33 dc33 pm33 cd33 ct33 : Value}
    {f34 : Addr} {od34 an34 : Option Addr} {sl34 : Array (Option Value)} {oc34 kV34 dc34 pm34 cd34 ct34 : Value}
    {f35 : Addr} {od35 an35 : Option Addr} {sl35 : Array (Option Value)} {oc35 kV35 dc35 pm35 cd35 ct35 : Value}
    {f36 : Addr} {od36 an36 : Option Addr} {sl36 : Array (Option Value)} {oc36 kV36 dc36 pm36 cd36 ct36 : Value}
    {f37 : Addr} {od37 an37 : Option Addr} {sl37 : Array (Option Value)} {oc37 kV37 dc37 pm37 cd37 ct37 : Value}
    {f38 : Addr} {od38 an38 : Option Addr} {sl38 : Array (Option Value)} {oc38 kV38 dc38 pm38 cd38 ct38 : Value}
    {f39 : Addr} {od39 an39 : Option Addr} {sl39 : Array (Option Value)} {oc39 kV39 dc39 pm39 cd39 ct39 : Value}
    (ea0 : PySem.W.nsIn K mainGlobals "InvalidSize" = some (some (.ref C0)))
    (ec0 : K.lookup C0 = some (excClassObj nm0 q0 C0 N0 bs0 bm0 true sn0 sub0 ab0 col0 dd0 m00 m10 m20 m30 m50 "ValueError.__new__"))
    (ei0 : PySem.W.findIn K (.ref C0) "__init__" = some (some (.ref I0)))
    (el0 : K.lookup I0 = some ⟨eo0, eod0, .func (PySem.W.fnOf "__init__" "InvalidSize.__init__" (defArgs s_InvalidSize___init__) (defBody s_InvalidSize___init__) (defScope s_InvalidSize___init__) (.ref T0) ekV0 edc0 epm0 ean0 ecd0 ect0), esl0⟩)
    (et0 : K.lookup T0 = some ⟨toc0, tod0, .seq #[.none] tn0, tsl0⟩)
    (ek0 : PySem.W.codeIn K ecd0 "InvalidSize.__init__" = true)
    (ep0 : PySem.W.keepIn K (.ref I0) = true)
    (er0 : PySem.HandSPX.refsVE bm0 = true)
    (eb0 : LT.iniB K C0 I0 "size" = true)
    (ea1 : PySem.W.nsIn K mainGlobals "InvalidRow" = some (some (.ref C1)))
    (ec1 : K.lookup C1 = some (excClassObj nm1 q1 C1 N1 bs1 bm1 true sn1 sub1 ab1 col1 dd1 m01 m11 m21 m31 m51 "ValueError.__new__"))
    (ei1 : PySem.W.findIn K (.ref C1) "__init__" = some (some (.ref I1)))
    (el1 : K.lookup I1 = some ⟨eo1, eod1, .func (PySem.W.fnOf "__init__" "InvalidRow.__init__" (defArgs s_InvalidRow___init__) (defBody s_InvalidRow___init__) (defScope s_InvalidRow___init__) (.ref T1) ekV1 edc1 epm1 ean1 ecd1 ect1), esl1⟩)
    (et1 : K.lookup T1 = some ⟨toc1, tod1, .seq #[.none] tn1, tsl1⟩)
    (ek1 : PySem.W.codeIn K ecd1 "InvalidRow.__init__" = true)
    (ep1 : PySem.W.keepIn K (.ref I1) = true)
    (er1 : PySem.HandSPX.refsVE bm1 = true)
    (eb1 : LT.iniB K C1 I1 "thing" = true)
    (ea2 : PySem.W.nsIn K mainGlobals "NotASetting" = some (some (.ref C2)))
    (ec2 : K.lookup C2 = some (excClassObj nm2 q2 C2 N2 bs2 bm2 true sn2 sub2 ab2 col2 dd2 m02 m12 m22 m32 m52 "ValueError.__new__"))
    (ei2 : PySem.W.findIn K (.ref C2) "__init__" = some (some (.ref I2)))
    (el2 : K.lookup I2 = some ⟨eo2, eod2, .func (PySem.W.fnOf "__init__" "NotASetting.__init__" (defArgs s_NotASetting___init__) (defBody s_NotASetting___init__) (defScope s_NotASetting___init__) (.ref T2) ekV2 edc2 epm2 ean2 ecd2 ect2), esl2⟩)
    (et2 : K.lookup T2 = some ⟨toc2, tod2, .seq #[.none] tn2, tsl2⟩)
    (ek2 : PySem.W.codeIn K ecd2 "NotASetting.__init__" = true)
    (ep2 : PySem.W.keepIn K (.ref I2) = true)
    (er2 : PySem.HandSPX.refsVE bm2 = true)
    (eb2 : LT.iniB K C2 I2 "thing" = true)
    (ea3 : PySem.W.nsIn K mainGlobals "InvalidMaps" = some (some (.ref C3)))
    (ec3 : K.lookup C3 = some (excClassObj nm3 q3 C3 N3 bs3 bm3 true sn3 sub3 ab3 col3 dd3 m03 m13 m23 m33 m53 "ValueError.__new__"))
    (ei3 : PySem.W.findIn K (.ref C3) "__init__" = some (some (.ref I3)))
    (el3 : K.lookup I3 = some ⟨eo3, eod3, .func (PySem.W.fnOf "__init__" "InvalidMaps.__init__" (defArgs s_InvalidMaps___init__) (defBody s_InvalidMaps___init__) (defScope s_InvalidMaps___init__) (.ref T3) ekV3 edc3 epm3 ean3 ecd3 ect3), esl3⟩)
    (et3 : K.lookup T3 = some ⟨toc3, tod3, .seq #[.none] tn3, tsl3⟩)
    (ek3 : PySem.W.codeIn K ecd3 "InvalidMaps.__init__" = true)
    (ep3 : PySem.W.keepIn K (.ref I3) = true)
    (er3 : PySem.HandSPX.refsVE bm3 = true)
    (eb3 : LT.iniB K C3 I3 "name" = true)
    (ea4 : PySem.W.nsIn K mainGlobals "InvalidAsks" = some (some (.ref C4)))
    (ec4 : K.lookup C4 = some (excClassObj nm4 q4 C4 N4 bs4 bm4 true sn4 sub4 ab4 col4 dd4 m04 m14 m24 m34 m54 "ValueError.__new__"))
    (ei4 : PySem.W.findIn K (.ref C4) "__init__" = some (some (.ref I4)))
    (el4 : K.lookup I4 = some ⟨eo4, eod4, .func (PySem.W.fnOf "__init__" "InvalidAsks.__init__" (defArgs s_InvalidAsks___init__) (defBody s_InvalidAsks___init__) (defScope s_InvalidAsks___init__) (.ref T4) ekV4 edc4 epm4 ean4 ecd4 ect4), esl4⟩)
    (et4 : K.lookup T4 = some ⟨toc4, tod4, .seq #[.none] tn4, tsl4⟩)
    (ek4 : PySem.W.codeIn K ecd4 "InvalidAsks.__init__" = true)
    (ep4 : PySem.W.keepIn K (.ref I4) = true)
    (er4 : PySem.HandSPX.refsVE bm4 = true)
    (eb4 : LT.iniB K C4 I4 "name" = true)
    (ea5 : PySem.W.nsIn K mainGlobals "InvalidTurning" = some (some (.ref C5)))
    (ec5 : K.lookup C5 = some (excClassObj nm5 q5 C5 N5 bs5 bm5 true sn5 sub5 ab5 col5 dd5 m05 m15 m25 m35 m55 "ValueError.__new__"))
    (ei5 : PySem.W.findIn K (.ref C5) "__init__" = some (some (.ref I5)))
    (el5 : K.lookup I5 = some ⟨eo5, eod5, .func (PySem.W.fnOf "__init__" "InvalidTurning.__init__" (defArgs s_InvalidTurning___init__) (defBody s_InvalidTurning___init__) (defScope s_InvalidTurning___init__) (.ref T5) ekV5 edc5 epm5 ean5 ecd5 ect5), esl5⟩)
    (et5 : K.lookup T5 = some ⟨toc5, tod5, .seq #[.none] tn5, tsl5⟩)
    (ek5 : PySem.W.codeIn K ecd5 "InvalidTurning.__init__" = true)
    (ep5 : PySem.W.keepIn K (.ref I5) = true)
    (er5 : PySem.HandSPX.refsVE bm5 = true)
    (eb5 : LT.iniB K C5 I5 "turning" = true)
    (ea6 : PySem.W.nsIn K mainGlobals "InvalidDeeds" = some (some (.ref C6)))
    (ec6 : K.lookup C6 = some (excClassObj nm6 q6 C6 N6 bs6 bm6 true sn6 sub6 ab6 col6 dd6 m06 m16 m26 m36 m56 "ValueError.__new__"))
    (ei6 : PySem.W.findIn K (.ref C6) "__init__" = some (some (.ref I6)))
    (el6 : K.lookup I6 = some ⟨eo6, eod6, .func (PySem.W.fnOf "__init__" "InvalidDeeds.__init__" (defArgs s_InvalidDeeds___init__) (defBody s_InvalidDeeds___init__) (defScope s_InvalidDeeds___init__) (.ref T6) ekV6 edc6 epm6 ean6 ecd6 ect6), esl6⟩)
    (et6 : K.lookup T6 = some ⟨toc6, tod6, .seq #[.none] tn6, tsl6⟩)
    (ek6 : PySem.W.codeIn K ecd6 "InvalidDeeds.__init__" = true)
    (ep6 : PySem.W.keepIn K (.ref I6) = true)
    (er6 : PySem.HandSPX.refsVE bm6 = true)
    (eb6 : LT.iniB K C6 I6 "place" = true)
    (ea7 : PySem.W.nsIn K mainGlobals "InvalidPlan" = some (some (.ref C7)))
    (ec7 : K.lookup C7 = some (excClassObj nm7 q7 C7 N7 bs7 bm7 true sn7 sub7 ab7 col7 dd7 m07 m17 m27 m37 m57 "ValueError.__new__"))
    (ei7 : PySem.W.findIn K (.ref C7) "__init__" = some (some (.ref I7)))
    (el7 : K.lookup I7 = some ⟨eo7, eod7, .func (PySem.W.fnOf "__init__" "InvalidPlan.__init__" (defArgs s_InvalidPlan___init__) (defBody s_InvalidPlan___init__) (defScope s_InvalidPlan___init__) (.ref T7) ekV7 edc7 epm7 ean7 ecd7 ect7), esl7⟩)
    (et7 : K.lookup T7 = some ⟨toc7, tod7, .seq #[.none] tn7, tsl7⟩)
    (ek7 : PySem.W.codeIn K ecd7 "InvalidPlan.__init__" = true)
    (ep7 : PySem.W.keepIn K (.ref I7) = true)
    (er7 : PySem.HandSPX.refsVE bm7 = true)
    (eb7 : LT.iniB K C7 I7 "place" = true)
    (ea8 : PySem.W.nsIn K mainGlobals "InvalidLength" = some (some (.ref C8)))
    (ec8 : K.lookup C8 = some (excClassObj nm8 q8 C8 N8 bs8 bm8 true sn8 sub8 ab8 col8 dd8 m08 m18 m28 m38 m58 "ValueError.__new__"))
    (ei8 : PySem.W.findIn K (.ref C8) "__init__" = some (some (.ref I8)))
    (el8 : K.lookup I8 = some ⟨eo8, eod8, .func (PySem.W.fnOf "__init__" "InvalidLength.__init__" (defArgs s_InvalidLength___init__) (defBody s_InvalidLength___init__) (defScope s_InvalidLength___init__) (.ref T8) ekV8 edc8 epm8 ean8 ecd8 ect8), esl8⟩)
    (et8 : K.lookup T8 = some ⟨toc8, tod8, .seq #[.none] tn8, tsl8⟩)
    (ek8 : PySem.W.codeIn K ecd8 "InvalidLength.__init__" = true)
    (ep8 : PySem.W.keepIn K (.ref I8) = true)
    (er8 : PySem.HandSPX.refsVE bm8 = true)
    (eb8 : LT.iniB K C8 I8 "length" = true)
    (kc_MOST_PLACES : PySem.W.nsIn K mainGlobals "MOST_PLACES" = some (some (.int 60 tk_MOST_PLACES)))
    (z_int : PySem.W.nsIn K mainGlobals "int" = some none)
    (z_bool : PySem.W.nsIn K mainGlobals "bool" = some none)
    (z_str : PySem.W.nsIn K mainGlobals "str" = some none)
    (z_tuple : PySem.W.nsIn K mainGlobals "tuple" = some none)
    (z_list : PySem.W.nsIn K mainGlobals "list" = some none)
    (z_dict : PySem.W.nsIn K mainGlobals "dict" = some none)
    (z_set : PySem.W.nsIn K mainGlobals "set" = some none)
    (z_isinstance : PySem.W.nsIn K mainGlobals "isinstance" = some none)
    (z_len : PySem.W.nsIn K mainGlobals "len" = some none)
    (z_max : PySem.W.nsIn K mainGlobals "max" = some none)
    (z_min : PySem.W.nsIn K mainGlobals "min" = some none)
    (z_all : PySem.W.nsIn K mainGlobals "all" = some none)
    (z_any : PySem.W.nsIn K mainGlobals "any" = some none)
    (z_range : PySem.W.nsIn K mainGlobals "range" = some none)
    (z_enumerate : PySem.W.nsIn K mainGlobals "enumerate" = some none)
    (z_sorted : PySem.W.nsIn K mainGlobals "sorted" = some none)
    (z_zip : PySem.W.nsIn K mainGlobals "zip" = some none)
    (sg : PySem.W.nsIn K mainGlobals "Setting" = some (some (.ref SC)))
    (sb : suB K SC ["_size", "_maps", "_asks", "_turning"] = true)
    (a0 : PySem.W.nsIn K mainGlobals "is_name" = some (some (.ref f0)))
    (l0 : K.lookup f0 = some ⟨oc0, od0, .func (PySem.W.fnOf "is_name" "is_name" (defArgs s_is_name) (defBody s_is_name) (defScope s_is_name) .none kV0 dc0 pm0 an0 cd0 ct0), sl0⟩)
    (c0 : PySem.W.codeIn K cd0 "is_name" = true)
    (k0 : PySem.W.keepIn K (.ref f0) = true)
    (a1 : PySem.W.nsIn K mainGlobals "is_integer" = some (some (.ref f1)))
    (l1 : K.lookup f1 = some ⟨oc1, od1, .func (PySem.W.fnOf "is_integer" "is_integer" (defArgs s_is_integer) (defBody s_is_integer) (defScope s_is_integer) .none kV1 dc1 pm1 an1 cd1 ct1), sl1⟩)
    (c1 : PySem.W.codeIn K cd1 "is_integer" = true)
    (k1 : PySem.W.keepIn K (.ref f1) = true)
    (a2 : PySem.W.nsIn K mainGlobals "is_row" = some (some (.ref f2)))
    (l2 : K.lookup f2 = some ⟨oc2, od2, .func (PySem.W.fnOf "is_row" "is_row" (defArgs s_is_row) (defBody s_is_row) (defScope s_is_row) .none kV2 dc2 pm2 an2 cd2 ct2), sl2⟩)
    (c2 : PySem.W.codeIn K cd2 "is_row" = true)
    (k2 : PySem.W.keepIn K (.ref f2) = true)
    (a3 : PySem.W.nsIn K mainGlobals "is_line" = some (some (.ref f3)))
    (l3 : K.lookup f3 = some ⟨oc3, od3, .func (PySem.W.fnOf "is_line" "is_line" (defArgs s_is_line) (defBody s_is_line) (defScope s_is_line) .none kV3 dc3 pm3 an3 cd3 ct3), sl3⟩)
    (c3 : PySem.W.codeIn K cd3 "is_line" = true)
    (k3 : PySem.W.keepIn K (.ref f3) = true)
    (a4 : PySem.W.nsIn K mainGlobals "is_map" = some (some (.ref f4)))
    (l4 : K.lookup f4 = some ⟨oc4, od4, .func (PySem.W.fnOf "is_map" "is_map" (defArgs s_is_map) (defBody s_is_map) (defScope s_is_map) .none kV4 dc4 pm4 an4 cd4 ct4), sl4⟩)
    (c4 : PySem.W.codeIn K cd4 "is_map" = true)
    (k4 : PySem.W.keepIn K (.ref f4) = true)
    (a5 : PySem.W.nsIn K mainGlobals "checked_maps" = some (some (.ref f5)))
    (l5 : K.lookup f5 = some ⟨oc5, od5, .func (PySem.W.fnOf "checked_maps" "checked_maps" (defArgs s_checked_maps) (defBody s_checked_maps) (defScope s_checked_maps) .none kV5 dc5 pm5 an5 cd5 ct5), sl5⟩)
    (c5 : PySem.W.codeIn K cd5 "checked_maps" = true)
    (k5 : PySem.W.keepIn K (.ref f5) = true)
    (a6 : PySem.W.nsIn K mainGlobals "is_size" = some (some (.ref f6)))
    (l6 : K.lookup f6 = some ⟨oc6, od6, .func (PySem.W.fnOf "is_size" "is_size" (defArgs s_is_size) (defBody s_is_size) (defScope s_is_size) .none kV6 dc6 pm6 an6 cd6 ct6), sl6⟩)
    (c6 : PySem.W.codeIn K cd6 "is_size" = true)
    (k6 : PySem.W.keepIn K (.ref f6) = true)
    (a7 : PySem.W.nsIn K mainGlobals "has_machine_form" = some (some (.ref f7)))
    (l7 : K.lookup f7 = some ⟨oc7, od7, .func (PySem.W.fnOf "has_machine_form" "has_machine_form" (defArgs s_has_machine_form) (defBody s_has_machine_form) (defScope s_has_machine_form) .none kV7 dc7 pm7 an7 cd7 ct7), sl7⟩)
    (c7 : PySem.W.codeIn K cd7 "has_machine_form" = true)
    (k7 : PySem.W.keepIn K (.ref f7) = true)
    (a8 : PySem.W.nsIn K mainGlobals "check_machine" = some (some (.ref f8)))
    (l8 : K.lookup f8 = some ⟨oc8, od8, .func (PySem.W.fnOf "check_machine" "check_machine" (defArgs s_check_machine) (defBody s_check_machine) (defScope s_check_machine) .none kV8 dc8 pm8 an8 cd8 ct8), sl8⟩)
    (c8 : PySem.W.codeIn K cd8 "check_machine" = true)
    (k8 : PySem.W.keepIn K (.ref f8) = true)
    (a9 : PySem.W.nsIn K mainGlobals "checked_asks" = some (some (.ref f9)))
    (l9 : K.lookup f9 = some ⟨oc9, od9, .func (PySem.W.fnOf "checked_asks" "checked_asks" (defArgs s_checked_asks) (defBody s_checked_asks) (defScope s_checked_asks) .none kV9 dc9 pm9 an9 cd9 ct9), sl9⟩)
    (c9 : PySem.W.codeIn K cd9 "checked_asks" = true)
    (k9 : PySem.W.keepIn K (.ref f9) = true)
    (a10 : PySem.W.findIn K (.ref SC) "__init__" = some (some (.ref f10)))
    (l10 : K.lookup f10 = some ⟨oc10, od10, .func (PySem.W.fnOf "__init__" "Setting.__init__" (defArgs s_Setting___init__) (defBody s_Setting___init__) (defScope s_Setting___init__) (.ref TT10) kV10 dc10 pm10 an10 cd10 ct10), sl10⟩)
    (t10 : K.lookup TT10 = some ⟨ttc10, ttd10, .seq #[.none, .none, .bool false] ttn10, tts10⟩)
    (c10 : PySem.W.codeIn K cd10 "Setting.__init__" = true)
    (k10 : PySem.W.keepIn K (.ref f10) = true)
    (n10 : PySem.W.isFn K (.ref f10) = true)
    (mk10 : PySem.W.makesIn K SC = true)
    (kp10 : PySem.W.keepIn K (.ref SC) = true)
    (a11 : PySem.W.nsIn K mainGlobals "_law_at" = some (some (.ref f11)))
    (l11 : K.lookup f11 = some ⟨oc11, od11, .func (PySem.W.fnOf "_law_at" "_law_at" (defArgs s__law_at) (defBody s__law_at) (defScope s__law_at) .none kV11 dc11 pm11 an11 cd11 ct11), sl11⟩)
    (c11 : PySem.W.codeIn K cd11 "_law_at" = true)
    (k11 : PySem.W.keepIn K (.ref f11) = true)
    (a12 : PySem.W.nsIn K mainGlobals "_law_purse" = some (some (.ref f12)))
    (l12 : K.lookup f12 = some ⟨oc12, od12, .func (PySem.W.fnOf "_law_purse" "_law_purse" (defArgs s__law_purse) (defBody s__law_purse) (defScope s__law_purse) .none kV12 dc12 pm12 an12 cd12 ct12), sl12⟩)
    (c12 : PySem.W.codeIn K cd12 "_law_purse" = true)
    (k12 : PySem.W.keepIn K (.ref f12) = true)
    (a13 : PySem.W.nsIn K mainGlobals "_law_mixed" = some (some (.ref f13)))
    (l13 : K.lookup f13 = some ⟨oc13, od13, .func (PySem.W.fnOf "_law_mixed" "_law_mixed" (defArgs s__law_mixed) (defBody s__law_mixed) (defScope s__law_mixed) .none kV13 dc13 pm13 an13 cd13 ct13), sl13⟩)
    (c13 : PySem.W.codeIn K cd13 "_law_mixed" = true)
    (k13 : PySem.W.keepIn K (.ref f13) = true)
    (a14 : PySem.W.nsIn K mainGlobals "_law_draw" = some (some (.ref f14)))
    (l14 : K.lookup f14 = some ⟨oc14, od14, .func (PySem.W.fnOf "_law_draw" "_law_draw" (defArgs s__law_draw) (defBody s__law_draw) (defScope s__law_draw) .none kV14 dc14 pm14 an14 cd14 ct14), sl14⟩)
    (c14 : PySem.W.codeIn K cd14 "_law_draw" = true)
    (k14 : PySem.W.keepIn K (.ref f14) = true)
    (a15 : PySem.W.nsIn K mainGlobals "_law_machine" = some (some (.ref f15)))
    (l15 : K.lookup f15 = some ⟨oc15, od15, .func (PySem.W.fnOf "_law_machine" "_law_machine" (defArgs s__law_machine) (defBody s__law_machine) (defScope s__law_machine) .none kV15 dc15 pm15 an15 cd15 ct15), sl15⟩)
    (c15 : PySem.W.codeIn K cd15 "_law_machine" = true)
    (k15 : PySem.W.keepIn K (.ref f15) = true)
    (a16 : PySem.W.nsIn K mainGlobals "_law_own" = some (some (.ref f16)))
    (l16 : K.lookup f16 = some ⟨oc16, od16, .func (PySem.W.fnOf "_law_own" "_law_own" (defArgs s__law_own) (defBody s__law_own) (defScope s__law_own) .none kV16 dc16 pm16 an16 cd16 ct16), sl16⟩)
    (c16 : PySem.W.codeIn K cd16 "_law_own" = true)
    (k16 : PySem.W.keepIn K (.ref f16) = true)
    (a17 : PySem.W.nsIn K mainGlobals "_law_setting" = some (some (.ref f17)))
    (l17 : K.lookup f17 = some ⟨oc17, od17, .func (PySem.W.fnOf "_law_setting" "_law_setting" (defArgs s__law_setting) (defBody s__law_setting) (defScope s__law_setting) .none kV17 dc17 pm17 an17 cd17 ct17), sl17⟩)
    (c17 : PySem.W.codeIn K cd17 "_law_setting" = true)
    (k17 : PySem.W.keepIn K (.ref f17) = true)
    (a18 : PySem.W.nsIn K mainGlobals "need_setting" = some (some (.ref f18)))
    (l18 : K.lookup f18 = some ⟨oc18, od18, .func (PySem.W.fnOf "need_setting" "need_setting" (defArgs s_need_setting) (defBody s_need_setting) (defScope s_need_setting) .none kV18 dc18 pm18 an18 cd18 ct18), sl18⟩)
    (c18 : PySem.W.codeIn K cd18 "need_setting" = true)
    (k18 : PySem.W.keepIn K (.ref f18) = true)
    (a19 : PySem.W.nsIn K mainGlobals "need_length" = some (some (.ref f19)))
    (l19 : K.lookup f19 = some ⟨oc19, od19, .func (PySem.W.fnOf "need_length" "need_length" (defArgs s_need_length) (defBody s_need_length) (defScope s_need_length) .none kV19 dc19 pm19 an19 cd19 ct19), sl19⟩)
    (c19 : PySem.W.codeIn K cd19 "need_length" = true)
    (k19 : PySem.W.keepIn K (.ref f19) = true)
    (a20 : PySem.W.nsIn K mainGlobals "is_range" = some (some (.ref f20)))
    (l20 : K.lookup f20 = some ⟨oc20, od20, .func (PySem.W.fnOf "is_range" "is_range" (defArgs s_is_range) (defBody s_is_range) (defScope s_is_range) .none kV20 dc20 pm20 an20 cd20 ct20), sl20⟩)
    (c20 : PySem.W.codeIn K cd20 "is_range" = true)
    (k20 : PySem.W.keepIn K (.ref f20) = true)
    (a21 : PySem.W.nsIn K mainGlobals "is_step" = some (some (.ref f21)))
    (l21 : K.lookup f21 = some ⟨oc21, od21, .func (PySem.W.fnOf "is_step" "is_step" (defArgs s_is_step) (defBody s_is_step) (defScope s_is_step) .none kV21 dc21 pm21 an21 cd21 ct21), sl21⟩)
    (c21 : PySem.W.codeIn K cd21 "is_step" = true)
    (k21 : PySem.W.keepIn K (.ref f21) = true)
    (a22 : PySem.W.nsIn K mainGlobals "need_plan" = some (some (.ref f22)))
    (l22 : K.lookup f22 = some ⟨oc22, od22, .func (PySem.W.fnOf "need_plan" "need_plan" (defArgs s_need_plan) (defBody s_need_plan) (defScope s_need_plan) .none kV22 dc22 pm22 an22 cd22 ct22), sl22⟩)
    (c22 : PySem.W.codeIn K cd22 "need_plan" = true)
    (k22 : PySem.W.keepIn K (.ref f22) = true)
    (a23 : PySem.W.findIn K (.ref SC) "deeds" = some (some (.ref p23)))
    (r23 : PySem.W.recIn K p23 "property" = some (.ref f23 :: rest23))
    (l23 : K.lookup f23 = some ⟨oc23, od23, .func (PySem.W.fnOf "deeds" "Setting.deeds" (defArgs s_Setting_deeds) (defBody s_Setting_deeds) (defScope s_Setting_deeds) .none kV23 dc23 pm23 an23 cd23 ct23), sl23⟩)
    (c23 : PySem.W.codeIn K cd23 "Setting.deeds" = true)
    (k23 : PySem.W.keepIn K (.ref f23) = true)
    (pb23 : prB K p23 = true)
    (a24 : PySem.W.nsIn K mainGlobals "need_plans" = some (some (.ref f24)))
    (l24 : K.lookup f24 = some ⟨oc24, od24, .func (PySem.W.fnOf "need_plans" "need_plans" (defArgs s_need_plans) (defBody s_need_plans) (defScope s_need_plans) .none kV24 dc24 pm24 an24 cd24 ct24), sl24⟩)
    (c24 : PySem.W.codeIn K cd24 "need_plans" = true)
    (k24 : PySem.W.keepIn K (.ref f24) = true)
    (a25 : PySem.W.findIn K (.ref SC) "maps" = some (some (.ref p25)))
    (r25 : PySem.W.recIn K p25 "property" = some (.ref f25 :: rest25))
    (l25 : K.lookup f25 = some ⟨oc25, od25, .func (PySem.W.fnOf "maps" "Setting.maps" (defArgs s_Setting_maps) (defBody s_Setting_maps) (defScope s_Setting_maps) .none kV25 dc25 pm25 an25 cd25 ct25), sl25⟩)
    (c25 : PySem.W.codeIn K cd25 "Setting.maps" = true)
    (k25 : PySem.W.keepIn K (.ref f25) = true)
    (pb25 : prB K p25 = true)
    (a26 : PySem.W.findIn K (.ref SC) "size" = some (some (.ref p26)))
    (r26 : PySem.W.recIn K p26 "property" = some (.ref f26 :: rest26))
    (l26 : K.lookup f26 = some ⟨oc26, od26, .func (PySem.W.fnOf "size" "Setting.size" (defArgs s_Setting_size) (defBody s_Setting_size) (defScope s_Setting_size) .none kV26 dc26 pm26 an26 cd26 ct26), sl26⟩)
    (c26 : PySem.W.codeIn K cd26 "Setting.size" = true)
    (k26 : PySem.W.keepIn K (.ref f26) = true)
    (pb26 : prB K p26 = true)
    (a27 : PySem.W.nsIn K mainGlobals "no_map" = some (some (.ref f27)))
    (l27 : K.lookup f27 = some ⟨oc27, od27, .func (PySem.W.fnOf "no_map" "no_map" (defArgs s_no_map) (defBody s_no_map) (defScope s_no_map) .none kV27 dc27 pm27 an27 cd27 ct27), sl27⟩)
    (c27 : PySem.W.codeIn K cd27 "no_map" = true)
    (k27 : PySem.W.keepIn K (.ref f27) = true)
    (a28 : PySem.W.nsIn K mainGlobals "joined" = some (some (.ref f28)))
    (l28 : K.lookup f28 = some ⟨oc28, od28, .func (PySem.W.fnOf "joined" "joined" (defArgs s_joined) (defBody s_joined) (defScope s_joined) .none kV28 dc28 pm28 an28 cd28 ct28), sl28⟩)
    (c28 : PySem.W.codeIn K cd28 "joined" = true)
    (k28 : PySem.W.keepIn K (.ref f28) = true)
    (a29 : PySem.W.nsIn K mainGlobals "cells_after" = some (some (.ref f29)))
    (l29 : K.lookup f29 = some ⟨oc29, od29, .func (PySem.W.fnOf "cells_after" "cells_after" (defArgs s_cells_after) (defBody s_cells_after) (defScope s_cells_after) .none kV29 dc29 pm29 an29 cd29 ct29), sl29⟩)
    (c29 : PySem.W.codeIn K cd29 "cells_after" = true)
    (k29 : PySem.W.keepIn K (.ref f29) = true)
    (a30 : PySem.W.nsIn K mainGlobals "is_constant" = some (some (.ref f30)))
    (l30 : K.lookup f30 = some ⟨oc30, od30, .func (PySem.W.fnOf "is_constant" "is_constant" (defArgs s_is_constant) (defBody s_is_constant) (defScope s_is_constant) .none kV30 dc30 pm30 an30 cd30 ct30), sl30⟩)
    (c30 : PySem.W.codeIn K cd30 "is_constant" = true)
    (k30 : PySem.W.keepIn K (.ref f30) = true)
    (a31 : PySem.W.nsIn K mainGlobals "form_after" = some (some (.ref f31)))
    (l31 : K.lookup f31 = some ⟨oc31, od31, .func (PySem.W.fnOf "form_after" "form_after" (defArgs s_form_after) (defBody s_form_after) (defScope s_form_after) .none kV31 dc31 pm31 an31 cd31 ct31), sl31⟩)
    (c31 : PySem.W.codeIn K cd31 "form_after" = true)
    (k31 : PySem.W.keepIn K (.ref f31) = true)
    (a32 : PySem.W.nsIn K mainGlobals "like_plans" = some (some (.ref f32)))
    (l32 : K.lookup f32 = some ⟨oc32, od32, .func (PySem.W.fnOf "like_plans" "like_plans" (defArgs s_like_plans) (defBody s_like_plans) (defScope s_like_plans) .none kV32 dc32 pm32 an32 cd32 ct32), sl32⟩)
    (c32 : PySem.W.codeIn K cd32 "like_plans" = true)
    (k32 : PySem.W.keepIn K (.ref f32) = true)
    (a33 : PySem.W.nsIn K mainGlobals "idle" = some (some (.ref f33)))
    (l33 : K.lookup f33 = some ⟨oc33, od33, .func (PySem.W.fnOf "idle" "idle" (defArgs s_idle) (defBody s_idle) (defScope s_idle) .none kV33 dc33 pm33 an33 cd33 ct33), sl33⟩)
    (c33 : PySem.W.codeIn K cd33 "idle" = true)
    (k33 : PySem.W.keepIn K (.ref f33) = true)
    (a34 : PySem.W.nsIn K mainGlobals "swaps" = some (some (.ref f34)))
    (l34 : K.lookup f34 = some ⟨oc34, od34, .func (PySem.W.fnOf "swaps" "swaps" (defArgs s_swaps) (defBody s_swaps) (defScope s_swaps) .none kV34 dc34 pm34 an34 cd34 ct34), sl34⟩)
    (c34 : PySem.W.codeIn K cd34 "swaps" = true)
    (k34 : PySem.W.keepIn K (.ref f34) = true)
    (a35 : PySem.W.nsIn K mainGlobals "_law_deeds" = some (some (.ref f35)))
    (l35 : K.lookup f35 = some ⟨oc35, od35, .func (PySem.W.fnOf "_law_deeds" "_law_deeds" (defArgs s__law_deeds) (defBody s__law_deeds) (defScope s__law_deeds) .none kV35 dc35 pm35 an35 cd35 ct35), sl35⟩)
    (c35 : PySem.W.codeIn K cd35 "_law_deeds" = true)
    (k35 : PySem.W.keepIn K (.ref f35) = true)
    (a36 : PySem.W.nsIn K mainGlobals "_law_plan" = some (some (.ref f36)))
    (l36 : K.lookup f36 = some ⟨oc36, od36, .func (PySem.W.fnOf "_law_plan" "_law_plan" (defArgs s__law_plan) (defBody s__law_plan) (defScope s__law_plan) .none kV36 dc36 pm36 an36 cd36 ct36), sl36⟩)
    (c36 : PySem.W.codeIn K cd36 "_law_plan" = true)
    (k36 : PySem.W.keepIn K (.ref f36) = true)
    (a37 : PySem.W.nsIn K mainGlobals "_law_form" = some (some (.ref f37)))
    (l37 : K.lookup f37 = some ⟨oc37, od37, .func (PySem.W.fnOf "_law_form" "_law_form" (defArgs s__law_form) (defBody s__law_form) (defScope s__law_form) .none kV37 dc37 pm37 an37 cd37 ct37), sl37⟩)
    (c37 : PySem.W.codeIn K cd37 "_law_form" = true)
    (k37 : PySem.W.keepIn K (.ref f37) = true)
    (a38 : PySem.W.nsIn K mainGlobals "_law_right" = some (some (.ref f38)))
    (l38 : K.lookup f38 = some ⟨oc38, od38, .func (PySem.W.fnOf "_law_right" "_law_right" (defArgs s__law_right) (defBody s__law_right) (defScope s__law_right) .none kV38 dc38 pm38 an38 cd38 ct38), sl38⟩)
    (c38 : PySem.W.codeIn K cd38 "_law_right" = true)
    (k38 : PySem.W.keepIn K (.ref f38) = true)
    (a39 : PySem.W.nsIn K mainGlobals "law" = some (some (.ref f39)))
    (l39 : K.lookup f39 = some ⟨oc39, od39, .func (PySem.W.fnOf "law" "law" (defArgs s_law) (defBody s_law) (defScope s_law) .none kV39 dc39 pm39 an39 cd39 ct39), sl39⟩)
    (c39 : PySem.W.codeIn K cd39 "law" = true)
    (k39 : PySem.W.keepIn K (.ref f39) = true) :
    ∃ fd : FuncData, (∀ (s : Shared) (v : Value), BindsTo s fd ⟨[v], []⟩ [("_law_script", v)]) ∧ ∀ base : Heap, K.In base → base.Ns mainGlobals mg → FnOk l.prog w K mg base CX0 9 fa fd ["_law_script"] (spLaw K) := by
  cases hfa.symm.trans (PySem.W.mg_of X G a39)
  have z : Z mg := ⟨PySem.W.mg_none_of X G z_int, PySem.W.mg_none_of X G z_bool, PySem.W.mg_none_of X G z_str, PySem.W.mg_none_of X G z_tuple, PySem.W.mg_none_of X G z_list, PySem.W.mg_none_of X G z_dict, PySem.W.mg_none_of X G z_set, PySem.W.mg_none_of X G z_isinstance, PySem.W.mg_none_of X G z_len, PySem.W.mg_none_of X G z_max, PySem.W.mg_none_of X G z_min, PySem.W.mg_none_of X G z_all, PySem.W.mg_none_of X G z_any, PySem.W.mg_none_of X G z_range, PySem.W.mg_none_of X G z_enumerate, PySem.W.mg_none_of X G z_sorted, PySem.W.mg_none_of X G z_zip⟩
  refine ⟨PySem.W.fnOf "law" "law" (defArgs s_law) (defBody s_law) (defScope s_law) .none kV39 dc39 pm39 an39 cd39 ct39, fun s v => .of_eq rfl, fun base _ _ => ?_⟩
  obtain ⟨t0, xf0, ex0, nf0, ti0⟩ := LT.iniB_ok ec0 er0 eb0
  have E_InvalidSize : ErrV l.prog w K mg base "InvalidSize" "size" C0 := ini_InvalidSize ⟨⟨_, _, _, _, _, _, _, _, _, _, rfl, el0, ek0, .inr ⟨(fun z => nomatch z), T0, _, [.none], _, rfl, et0, rfl, .cons rfl .nil⟩, .inl rfl⟩, ep0⟩ t0 nf0 (PySem.W.mg_of X G ea0) xf0 ex0 ei0 ti0
  obtain ⟨t1, xf1, ex1, nf1, ti1⟩ := LT.iniB_ok ec1 er1 eb1
  have E_InvalidRow : ErrV l.prog w K mg base "InvalidRow" "thing" C1 := ini_InvalidRow ⟨⟨_, _, _, _, _, _, _, _, _, _, rfl, el1, ek1, .inr ⟨(fun z => nomatch z), T1, _, [.none], _, rfl, et1, rfl, .cons rfl .nil⟩, .inl rfl⟩, ep1⟩ t1 nf1 (PySem.W.mg_of X G ea1) xf1 ex1 ei1 ti1
  obtain ⟨t2, xf2, ex2, nf2, ti2⟩ := LT.iniB_ok ec2 er2 eb2
  have E_NotASetting : ErrV l.prog w K mg base "NotASetting" "thing" C2 := ini_NotASetting ⟨⟨_, _, _, _, _, _, _, _, _, _, rfl, el2, ek2, .inr ⟨(fun z => nomatch z), T2, _, [.none], _, rfl, et2, rfl, .cons rfl .nil⟩, .inl rfl⟩, ep2⟩ t2 nf2 (PySem.W.mg_of X G ea2) xf2 ex2 ei2 ti2
  obtain ⟨t3, xf3, ex3, nf3, ti3⟩ := LT.iniB_ok ec3 er3 eb3
  have E_InvalidMaps : ErrV l.prog w K mg base "InvalidMaps" "name" C3 := ini_InvalidMaps ⟨⟨_, _, _, _, _, _, _, _, _, _, rfl, el3, ek3, .inr ⟨(fun z => nomatch z), T3, _, [.none], _, rfl, et3, rfl, .cons rfl .nil⟩, .inl rfl⟩, ep3⟩ t3 nf3 (PySem.W.mg_of X G ea3) xf3 ex3 ei3 ti3
  obtain ⟨t4, xf4, ex4, nf4, ti4⟩ := LT.iniB_ok ec4 er4 eb4
  have E_InvalidAsks : ErrV l.prog w K mg base "InvalidAsks" "name" C4 := ini_InvalidAsks ⟨⟨_, _, _, _, _, _, _, _, _, _, rfl, el4, ek4, .inr ⟨(fun z => nomatch z), T4, _, [.none], _, rfl, et4, rfl, .cons rfl .nil⟩, .inl rfl⟩, ep4⟩ t4 nf4 (PySem.W.mg_of X G ea4) xf4 ex4 ei4 ti4
  obtain ⟨t5, xf5, ex5, nf5, ti5⟩ := LT.iniB_ok ec5 er5 eb5
  have E_InvalidTurning : ErrV l.prog w K mg base "InvalidTurning" "turning" C5 := ini_InvalidTurning ⟨⟨_, _, _, _, _, _, _, _, _, _, rfl, el5, ek5, .inr ⟨(fun z => nomatch z), T5, _, [.none], _, rfl, et5, rfl, .cons rfl .nil⟩, .inl rfl⟩, ep5⟩ t5 nf5 (PySem.W.mg_of X G ea5) xf5 ex5 ei5 ti5
  obtain ⟨t6, xf6, ex6, nf6, ti6⟩ := LT.iniB_ok ec6 er6 eb6
  have E_InvalidDeeds : ErrV l.prog w K mg base "InvalidDeeds" "place" C6 := ini_InvalidDeeds ⟨⟨_, _, _, _, _, _, _, _, _, _, rfl, el6, ek6, .inr ⟨(fun z => nomatch z), T6, _, [.none], _, rfl, et6, rfl, .cons rfl .nil⟩, .inl rfl⟩, ep6⟩ t6 nf6 (PySem.W.mg_of X G ea6) xf6 ex6 ei6 ti6
  obtain ⟨t7, xf7, ex7, nf7, ti7⟩ := LT.iniB_ok ec7 er7 eb7
  have E_InvalidPlan : ErrV l.prog w K mg base "InvalidPlan" "place" C7 := ini_InvalidPlan ⟨⟨_, _, _, _, _, _, _, _, _, _, rfl, el7, ek7, .inr ⟨(fun z => nomatch z), T7, _, [.none], _, rfl, et7, rfl, .cons rfl .nil⟩, .inl rfl⟩, ep7⟩ t7 nf7 (PySem.W.mg_of X G ea7) xf7 ex7 ei7 ti7
  obtain ⟨t8, xf8, ex8, nf8, ti8⟩ := LT.iniB_ok ec8 er8 eb8
  have E_InvalidLength : ErrV l.prog w K mg base "InvalidLength" "length" C8 := ini_InvalidLength ⟨⟨_, _, _, _, _, _, _, _, _, _, rfl, el8, ek8, .inr ⟨(fun z => nomatch z), T8, _, [.none], _, rfl, et8, rfl, .cons rfl .nil⟩, .inl rfl⟩, ep8⟩ t8 nf8 (PySem.W.mg_of X G ea8) xf8 ex8 ei8 ti8
  have er : Er l.prog w K mg base (LT.csOf [C0, C1, C2, C3, C4, C5, C6, C7, C8]) := { InvalidSize := E_InvalidSize, InvalidRow := E_InvalidRow, NotASetting := E_NotASetting, InvalidMaps := E_InvalidMaps, InvalidAsks := E_InvalidAsks, InvalidTurning := E_InvalidTurning, InvalidDeeds := E_InvalidDeeds, InvalidPlan := E_InvalidPlan, InvalidLength := E_InvalidLength }
  have sgl := PySem.W.mg_of X G sg
  obtain ⟨skc, sfo⟩ := suB_ok (c := "Setting") sgl sb
  have su : Su0 K mg SC := ⟨sgl, skc, sfo "_size" (by decide), sfo "_maps" (by decide), sfo "_asks" (by decide), sfo "_turning" (by decide)⟩
  have T : Tc mg := ⟨_, PySem.W.mg_of X G kc_MOST_PLACES⟩
  have FF0 := fun_mk (st := s_is_name) l0 c0 k0
  have B0 := FF0.binds (ps := ["thing"]) fun _ _ _ _ _ _ us hl => match us, hl with | [_], _ => rfl
  have O0 := ok_is_name (P := l.prog) (w := w) (base := base) z er su T  FF0
  have C_is_name : LT.Cal l.prog w K mg base (L2.CX l.prog w) "is_name" 1 ["thing"] (spD ⟨K, mg⟩ 1 F_is_name) := ⟨_, _, O0, PySem.W.mg_of X G a0, k0, B0⟩
  have FF1 := fun_mk (st := s_is_integer) l1 c1 k1
  have B1 := FF1.binds (ps := ["thing", "low", "high"]) fun _ _ _ _ _ _ us hl => match us, hl with | [_, _, _], _ => rfl
  have O1 := ok_is_integer (P := l.prog) (w := w) (base := base) z er su T  FF1
  have C_is_integer : LT.Cal l.prog w K mg base (L2.CX l.prog w) "is_integer" 1 ["thing", "low", "high"] (spD ⟨K, mg⟩ 3 F_is_integer) := ⟨_, _, O1, PySem.W.mg_of X G a1, k1, B1⟩
  have FF2 := fun_mk (st := s_is_row) l2 c2 k2
  have B2 := FF2.binds (ps := ["thing", "size"]) fun _ _ _ _ _ _ us hl => match us, hl with | [_, _], _ => rfl
  have O2 := ok_is_row (P := l.prog) (w := w) (base := base) z er su T C_is_integer FF2
  have C_is_row : LT.Cal l.prog w K mg base (L2.CX l.prog w) "is_row" 2 ["thing", "size"] (spD ⟨K, mg⟩ 2 F_is_row) := ⟨_, _, O2, PySem.W.mg_of X G a2, k2, B2⟩
  have FF3 := fun_mk (st := s_is_line) l3 c3 k3
  have B3 := FF3.binds (ps := ["thing", "many", "bound"]) fun _ _ _ _ _ _ us hl => match us, hl with | [_, _, _], _ => rfl
  have O3 := ok_is_line (P := l.prog) (w := w) (base := base) z er su T C_is_row FF3
  have C_is_line : LT.Cal l.prog w K mg base (L2.CX l.prog w) "is_line" 3 ["thing", "many", "bound"] (spD ⟨K, mg⟩ 3 F_is_line) := ⟨_, _, O3, PySem.W.mg_of X G a3, k3, B3⟩
  have FF4 := fun_mk (st := s_is_map) l4 c4 k4
  have B4 := FF4.binds (ps := ["thing", "size"]) fun _ _ _ _ _ _ us hl => match us, hl with | [_, _], _ => rfl
  have O4 := ok_is_map (P := l.prog) (w := w) (base := base) z er su T C_is_line FF4
  have C_is_map : LT.Cal l.prog w K mg base (L2.CX l.prog w) "is_map" 4 ["thing", "size"] (spD ⟨K, mg⟩ 2 F_is_map) := ⟨_, _, O4, PySem.W.mg_of X G a4, k4, B4⟩
  have FF5 := fun_mk (st := s_checked_maps) l5 c5 k5
  have B5 := FF5.binds (ps := ["maps", "size"]) fun _ _ _ _ _ _ us hl => match us, hl with | [_, _], _ => rfl
  have O5 := ok_checked_maps (P := l.prog) (w := w) (base := base) z er su T C_is_name C_is_map FF5
  have C_checked_maps : LT.Cal l.prog w K mg base (L2.CX l.prog w) "checked_maps" 5 ["maps", "size"] (spD ⟨K, mg⟩ 2 F_checked_maps) := ⟨_, _, O5, PySem.W.mg_of X G a5, k5, B5⟩
  have FF6 := fun_mk (st := s_is_size) l6 c6 k6
  have B6 := FF6.binds (ps := ["thing"]) fun _ _ _ _ _ _ us hl => match us, hl with | [_], _ => rfl
  have O6 := ok_is_size (P := l.prog) (w := w) (base := base) z er su T C_is_integer FF6
  have C_is_size : LT.Cal l.prog w K mg base (L2.CX l.prog w) "is_size" 2 ["thing"] (spD ⟨K, mg⟩ 1 F_is_size) := ⟨_, _, O6, PySem.W.mg_of X G a6, k6, B6⟩
  have FF7 := fun_mk (st := s_has_machine_form) l7 c7 k7
  have B7 := FF7.binds (ps := ["thing"]) fun _ _ _ _ _ _ us hl => match us, hl with | [_], _ => rfl
  have O7 := ok_has_machine_form (P := l.prog) (w := w) (base := base) z er su T  FF7
  have C_has_machine_form : LT.Cal l.prog w K mg base (L2.CX l.prog w) "has_machine_form" 1 ["thing"] (spD ⟨K, mg⟩ 1 F_has_machine_form) := ⟨_, _, O7, PySem.W.mg_of X G a7, k7, B7⟩
  have FF8 := fun_mk (st := s_check_machine) l8 c8 k8
  have B8 := FF8.binds (ps := ["thing", "size"]) fun _ _ _ _ _ _ us hl => match us, hl with | [_, _], _ => rfl
  have O8 := ok_check_machine (P := l.prog) (w := w) (base := base) z er su T C_is_integer C_is_line C_is_size C_has_machine_form FF8
  have C_check_machine : LT.Cal l.prog w K mg base (L2.CX l.prog w) "check_machine" 4 ["thing", "size"] (spD ⟨K, mg⟩ 2 F_check_machine) := ⟨_, _, O8, PySem.W.mg_of X G a8, k8, B8⟩
  have FF9 := fun_mk (st := s_checked_asks) l9 c9 k9
  have B9 := FF9.binds (ps := ["asks", "size"]) fun _ _ _ _ _ _ us hl => match us, hl with | [_, _], _ => rfl
  have O9 := ok_checked_asks (P := l.prog) (w := w) (base := base) z er su T C_is_name C_check_machine FF9
  have C_checked_asks : LT.Cal l.prog w K mg base (L2.CX l.prog w) "checked_asks" 5 ["asks", "size"] (spD ⟨K, mg⟩ 2 F_checked_asks) := ⟨_, _, O9, PySem.W.mg_of X G a9, k9, B9⟩
  have FF10 : FunD K "__init__" "Setting.__init__" (defArgs s_Setting___init__) (defBody s_Setting___init__) (defScope s_Setting___init__) [.non, .non, .bl false] [] f10 _ := ⟨⟨_, _, _, _, _, _, _, _, _, _, rfl, l10, c10, .inr ⟨(fun z => nomatch z), TT10, _, [.none, .none, .bool false], _, rfl, t10, rfl, .cons rfl (.cons rfl (.cons rfl (.nil)))⟩, .inl rfl⟩, k10⟩
  have B10 := bindsAll (ps := ["self", "size", "maps", "asks", "turning"]) FF10 (fun z => nomatch z) fun _ _ _ _ _ _ _ us its h1 h2 => match us, its, h1, h2 with | [_, _, _, _, _], [_, _, _], _, _ => ⟨_, rfl, rfl⟩
  have MK_Setting : MakeOk l.prog w K mg base "Setting" 6 5 F_Setting___init__ := ⟨SC, f10, _, _, sgl, ⟨mk10, a10, n10, kp10⟩, ok_Setting___init__ (P := l.prog) (w := w) (base := base) z er su T C_checked_maps C_is_size C_checked_asks FF10, B10⟩
  have FF11 := fun_mk (st := s__law_at) l11 c11 k11
  have B11 := FF11.binds (ps := ["_law_script", "_law_k"]) fun _ _ _ _ _ _ us hl => match us, hl with | [_, _], _ => rfl
  have O11 := ok__law_at (P := l.prog) (w := w) (base := base) z er su T  FF11
  have C__law_at : LT.Cal l.prog w K mg base (L2.CX l.prog w) "_law_at" 1 ["_law_script", "_law_k"] (spD ⟨K, mg⟩ 2 F__law_at) := ⟨_, _, O11, PySem.W.mg_of X G a11, k11, B11⟩
  have FF12 := fun_mk (st := s__law_purse) l12 c12 k12
  have B12 := FF12.binds (ps := ["_law_script", "_law_at_here"]) fun _ _ _ _ _ _ us hl => match us, hl with | [_, _], _ => rfl
  have O12 := ok__law_purse (P := l.prog) (w := w) (base := base) z er su T C__law_at FF12
  have C__law_purse : LT.Cal l.prog w K mg base (L2.CX l.prog w) "_law_purse" 2 ["_law_script", "_law_at_here"] (spF ⟨K, mg⟩ 2 F__law_purse) := ⟨_, _, O12, PySem.W.mg_of X G a12, k12, B12⟩
  have FF13 := fun_mk (st := s__law_mixed) l13 c13 k13
  have B13 := FF13.binds (ps := ["_law_cell", "_law_k"]) fun _ _ _ _ _ _ us hl => match us, hl with | [_, _], _ => rfl
  have O13 := ok__law_mixed (P := l.prog) (w := w) (base := base) z er su T  FF13
  have C__law_mixed : LT.Cal l.prog w K mg base (L2.CX l.prog w) "_law_mixed" 1 ["_law_cell", "_law_k"] (spD ⟨K, mg⟩ 2 F__law_mixed) := ⟨_, _, O13, PySem.W.mg_of X G a13, k13, B13⟩
  have FF14 := fun_mk (st := s__law_draw) l14 c14 k14
  have B14 := FF14.binds (ps := ["_law_purse_here", "_law_out_of"]) fun _ _ _ _ _ _ us hl => match us, hl with | [_, _], _ => rfl
  have O14 := ok__law_draw (P := l.prog) (w := w) (base := base) z er su T C__law_mixed FF14
  have C__law_draw : LT.Cal l.prog w K mg base (L2.CX l.prog w) "_law_draw" 2 ["_law_purse_here", "_law_out_of"] (spI ⟨K, mg⟩ 2 F__law_draw) := ⟨_, _, O14, PySem.W.mg_of X G a14, k14, B14⟩
  have FF15 := fun_mk (st := s__law_machine) l15 c15 k15
  have B15 := FF15.binds (ps := ["_law_purse_here", "_law_size", "_law_most"]) fun _ _ _ _ _ _ us hl => match us, hl with | [_, _, _], _ => rfl
  have O15 := ok__law_machine (P := l.prog) (w := w) (base := base) z er su T C__law_draw FF15
  have C__law_machine : LT.Cal l.prog w K mg base (L2.CX l.prog w) "_law_machine" 3 ["_law_purse_here", "_law_size", "_law_most"] (spI ⟨K, mg⟩ 3 F__law_machine) := ⟨_, _, O15, PySem.W.mg_of X G a15, k15, B15⟩
  have FF16 := fun_mk (st := s__law_own) l16 c16 k16
  have B16 := FF16.binds (ps := ["_law_purse_here", "_law_wide", "_law_most"]) fun _ _ _ _ _ _ us hl => match us, hl with | [_, _, _], _ => rfl
  have O16 := ok__law_own (P := l.prog) (w := w) (base := base) z er su T C__law_draw C__law_machine FF16
  have C__law_own : LT.Cal l.prog w K mg base (L2.CX l.prog w) "_law_own" 4 ["_law_purse_here", "_law_wide", "_law_most"] (spI ⟨K, mg⟩ 3 F__law_own) := ⟨_, _, O16, PySem.W.mg_of X G a16, k16, B16⟩
  have FF17 := fun_mk (st := s__law_setting) l17 c17 k17
  have B17 := FF17.binds (ps := ["_law_own_here"]) fun _ _ _ _ _ _ us hl => match us, hl with | [_], _ => rfl
  have O17 := ok__law_setting (P := l.prog) (w := w) (base := base) z er su T MK_Setting FF17
  have C__law_setting : LT.Cal l.prog w K mg base (L2.CX l.prog w) "_law_setting" 8 ["_law_own_here"] (spD ⟨K, mg⟩ 1 F__law_setting) := ⟨_, _, O17, PySem.W.mg_of X G a17, k17, B17⟩
  have FF18 := fun_mk (st := s_need_setting) l18 c18 k18
  have B18 := FF18.binds (ps := ["thing"]) fun _ _ _ _ _ _ us hl => match us, hl with | [_], _ => rfl
  have O18 := ok_need_setting (P := l.prog) (w := w) (base := base) z er su T  FF18
  have C_need_setting : LT.Cal l.prog w K mg base (L2.CX l.prog w) "need_setting" 3 ["thing"] (spD ⟨K, mg⟩ 1 F_need_setting) := ⟨_, _, O18, PySem.W.mg_of X G a18, k18, B18⟩
  have FF19 := fun_mk (st := s_need_length) l19 c19 k19
  have B19 := FF19.binds (ps := ["thing"]) fun _ _ _ _ _ _ us hl => match us, hl with | [_], _ => rfl
  have O19 := ok_need_length (P := l.prog) (w := w) (base := base) z er su T C_is_integer FF19
  have C_need_length : LT.Cal l.prog w K mg base (L2.CX l.prog w) "need_length" 3 ["thing"] (spD ⟨K, mg⟩ 1 F_need_length) := ⟨_, _, O19, PySem.W.mg_of X G a19, k19, B19⟩
  have FF20 := fun_mk (st := s_is_range) l20 c20 k20
  have B20 := FF20.binds (ps := ["start", "stop", "many"]) fun _ _ _ _ _ _ us hl => match us, hl with | [_, _, _], _ => rfl
  have O20 := ok_is_range (P := l.prog) (w := w) (base := base) z er su T C_is_integer FF20
  have C_is_range : LT.Cal l.prog w K mg base (L2.CX l.prog w) "is_range" 2 ["start", "stop", "many"] (spD ⟨K, mg⟩ 3 F_is_range) := ⟨_, _, O20, PySem.W.mg_of X G a20, k20, B20⟩
  have FF21 := fun_mk (st := s_is_step) l21 c21 k21
  have B21 := FF21.binds (ps := ["thing", "length", "deeds"]) fun _ _ _ _ _ _ us hl => match us, hl with | [_, _, _], _ => rfl
  have O21 := ok_is_step (P := l.prog) (w := w) (base := base) z er su T C_is_range FF21
  have C_is_step : LT.Cal l.prog w K mg base (L2.CX l.prog w) "is_step" 3 ["thing", "length", "deeds"] (spD ⟨K, mg⟩ 3 F_is_step) := ⟨_, _, O21, PySem.W.mg_of X G a21, k21, B21⟩
  have FF22 := fun_mk (st := s_need_plan) l22 c22 k22
  have B22 := FF22.binds (ps := ["plan", "length", "deeds"]) fun _ _ _ _ _ _ us hl => match us, hl with | [_, _, _], _ => rfl
  have O22 := ok_need_plan (P := l.prog) (w := w) (base := base) z er su T C_is_step FF22
  have C_need_plan : LT.Cal l.prog w K mg base (L2.CX l.prog w) "need_plan" 4 ["plan", "length", "deeds"] (spD ⟨K, mg⟩ 3 F_need_plan) := ⟨_, _, O22, PySem.W.mg_of X G a22, k22, B22⟩
  have FF23 := fun_mk (st := s_Setting_deeds) l23 c23 k23
  have B23 := FF23.binds (ps := ["self"]) fun _ _ _ _ _ _ us hl => match us, hl with | [_], _ => rfl
  have P_Setting_deeds : PropOk l.prog w K mg base "Setting" "deeds" 1 F_Setting_deeds := ⟨SC, p23, f23, _, _, sgl, suB_cls sb, prB_ok a23 pb23 r23, ok_Setting_deeds (P := l.prog) (w := w) (base := base) z er su T  FF23, B23⟩
  have FF24 := fun_mk (st := s_need_plans) l24 c24 k24
  have B24 := FF24.binds (ps := ["setting", "plans", "length"]) fun _ _ _ _ _ _ us hl => match us, hl with | [_, _, _], _ => rfl
  have O24 := ok_need_plans (P := l.prog) (w := w) (base := base) z er su T C_need_setting C_need_length C_need_plan P_Setting_deeds FF24
  have C_need_plans : LT.Cal l.prog w K mg base (L2.CX l.prog w) "need_plans" 5 ["setting", "plans", "length"] (spD ⟨K, mg⟩ 3 F_need_plans) := ⟨_, _, O24, PySem.W.mg_of X G a24, k24, B24⟩
  have FF25 := fun_mk (st := s_Setting_maps) l25 c25 k25
  have B25 := FF25.binds (ps := ["self"]) fun _ _ _ _ _ _ us hl => match us, hl with | [_], _ => rfl
  have P_Setting_maps : PropOk l.prog w K mg base "Setting" "maps" 1 F_Setting_maps := ⟨SC, p25, f25, _, _, sgl, suB_cls sb, prB_ok a25 pb25 r25, ok_Setting_maps (P := l.prog) (w := w) (base := base) z er su T  FF25, B25⟩
  have FF26 := fun_mk (st := s_Setting_size) l26 c26 k26
  have B26 := FF26.binds (ps := ["self"]) fun _ _ _ _ _ _ us hl => match us, hl with | [_], _ => rfl
  have P_Setting_size : PropOk l.prog w K mg base "Setting" "size" 1 F_Setting_size := ⟨SC, p26, f26, _, _, sgl, suB_cls sb, prB_ok a26 pb26 r26, ok_Setting_size (P := l.prog) (w := w) (base := base) z er su T  FF26, B26⟩
  have FF27 := fun_mk (st := s_no_map) l27 c27 k27
  have B27 := FF27.binds (ps := ["setting"]) fun _ _ _ _ _ _ us hl => match us, hl with | [_], _ => rfl
  have O27 := ok_no_map (P := l.prog) (w := w) (base := base) z er su T P_Setting_size FF27
  have C_no_map : LT.Cal l.prog w K mg base (L2.CX l.prog w) "no_map" 3 ["setting"] (spD ⟨K, mg⟩ 1 F_no_map) := ⟨_, _, O27, PySem.W.mg_of X G a27, k27, B27⟩
  have FF28 := fun_mk (st := s_joined) l28 c28 k28
  have B28 := FF28.binds (ps := ["first", "second"]) fun _ _ _ _ _ _ us hl => match us, hl with | [_, _], _ => rfl
  have O28 := ok_joined (P := l.prog) (w := w) (base := base) z er su T  FF28
  have C_joined : LT.Cal l.prog w K mg base (L2.CX l.prog w) "joined" 1 ["first", "second"] (spD ⟨K, mg⟩ 2 F_joined) := ⟨_, _, O28, PySem.W.mg_of X G a28, k28, B28⟩
  have FF29 := fun_mk (st := s_cells_after) l29 c29 k29
  have B29 := FF29.binds (ps := ["setting", "plan", "length"]) fun _ _ _ _ _ _ us hl => match us, hl with | [_, _, _], _ => rfl
  have O29 := ok_cells_after (P := l.prog) (w := w) (base := base) z er su T P_Setting_maps C_no_map C_joined FF29
  have C_cells_after : LT.Cal l.prog w K mg base (L2.CX l.prog w) "cells_after" 4 ["setting", "plan", "length"] (spD ⟨K, mg⟩ 3 F_cells_after) := ⟨_, _, O29, PySem.W.mg_of X G a29, k29, B29⟩
  have FF30 := fun_mk (st := s_is_constant) l30 c30 k30
  have B30 := FF30.binds (ps := ["mapping"]) fun _ _ _ _ _ _ us hl => match us, hl with | [_], _ => rfl
  have O30 := ok_is_constant (P := l.prog) (w := w) (base := base) z er su T  FF30
  have C_is_constant : LT.Cal l.prog w K mg base (L2.CX l.prog w) "is_constant" 1 ["mapping"] (spD ⟨K, mg⟩ 1 F_is_constant) := ⟨_, _, O30, PySem.W.mg_of X G a30, k30, B30⟩
  have FF31 := fun_mk (st := s_form_after) l31 c31 k31
  have B31 := FF31.binds (ps := ["setting", "plan", "length"]) fun _ _ _ _ _ _ us hl => match us, hl with | [_, _, _], _ => rfl
  have O31 := ok_form_after (P := l.prog) (w := w) (base := base) z er su T C_cells_after C_is_constant FF31
  have C_form_after : LT.Cal l.prog w K mg base (L2.CX l.prog w) "form_after" 5 ["setting", "plan", "length"] (spD ⟨K, mg⟩ 3 F_form_after) := ⟨_, _, O31, PySem.W.mg_of X G a31, k31, B31⟩
  have FF32 := fun_mk (st := s_like_plans) l32 c32 k32
  have B32 := FF32.binds (ps := ["setting", "plan", "others", "length"]) fun _ _ _ _ _ _ us hl => match us, hl with | [_, _, _, _], _ => rfl
  have O32 := ok_like_plans (P := l.prog) (w := w) (base := base) z er su T C_form_after FF32
  have C_like_plans : LT.Cal l.prog w K mg base (L2.CX l.prog w) "like_plans" 6 ["setting", "plan", "others", "length"] (spF ⟨K, mg⟩ 4 F_like_plans) := ⟨_, _, O32, PySem.W.mg_of X G a32, k32, B32⟩
  have FF33 := fun_mk (st := s_idle) l33 c33 k33
  have B33 := FF33.binds (ps := ["setting", "plan", "length"]) fun _ _ _ _ _ _ us hl => match us, hl with | [_, _, _], _ => rfl
  have O33 := ok_idle (P := l.prog) (w := w) (base := base) z er su T C_need_plans C_like_plans FF33
  have C_idle : LT.Cal l.prog w K mg base (L2.CX l.prog w) "idle" 7 ["setting", "plan", "length"] (spF ⟨K, mg⟩ 3 F_idle) := ⟨_, _, O33, PySem.W.mg_of X G a33, k33, B33⟩
  have Kk_idle_2_1_0 : LT.CalK l.prog w K mg base (L2.CX l.prog w) "idle" 7 ["setting", "plan", "length"] ["length", "plan", "setting"] (pick .non [2, 1, 0]) (spD ⟨K, mg⟩ 3 F_idle) := LT.CalK.of (g := pick .none [2, 1, 0]) (O33.imp fun _ _ _ _ h => spF_D h) (PySem.W.mg_of X G a33) k33 (fun z => nomatch z) (fun s ws hl => match ws, pick_len hl (by decide) with | [_, _, _], _ => .of_eq rfl) fun _ _ r => vals_pick _ r
  have FF34 := fun_mk (st := s_swaps) l34 c34 k34
  have B34 := FF34.binds (ps := ["setting", "plan", "length"]) fun _ _ _ _ _ _ us hl => match us, hl with | [_, _, _], _ => rfl
  have O34 := ok_swaps (P := l.prog) (w := w) (base := base) z er su T C_need_plans C_like_plans FF34
  have C_swaps : LT.Cal l.prog w K mg base (L2.CX l.prog w) "swaps" 7 ["setting", "plan", "length"] (spF ⟨K, mg⟩ 3 F_swaps) := ⟨_, _, O34, PySem.W.mg_of X G a34, k34, B34⟩
  have Kk_swaps_2_1_0 : LT.CalK l.prog w K mg base (L2.CX l.prog w) "swaps" 7 ["setting", "plan", "length"] ["length", "plan", "setting"] (pick .non [2, 1, 0]) (spD ⟨K, mg⟩ 3 F_swaps) := LT.CalK.of (g := pick .none [2, 1, 0]) (O34.imp fun _ _ _ _ h => spF_D h) (PySem.W.mg_of X G a34) k34 (fun z => nomatch z) (fun s ws hl => match ws, pick_len hl (by decide) with | [_, _, _], _ => .of_eq rfl) fun _ _ r => vals_pick _ r
  have FF35 := fun_mk (st := s__law_deeds) l35 c35 k35
  have B35 := FF35.binds (ps := ["_law_own_here"]) fun _ _ _ _ _ _ us hl => match us, hl with | [_], _ => rfl
  have O35 := ok__law_deeds (P := l.prog) (w := w) (base := base) z er su T  FF35
  have C__law_deeds : LT.Cal l.prog w K mg base (L2.CX l.prog w) "_law_deeds" 1 ["_law_own_here"] (spD ⟨K, mg⟩ 1 F__law_deeds) := ⟨_, _, O35, PySem.W.mg_of X G a35, k35, B35⟩
  have FF36 := fun_mk (st := s__law_plan) l36 c36 k36
  have B36 := FF36.binds (ps := ["_law_purse_here", "_law_own_here", "_law_long", "_law_most"]) fun _ _ _ _ _ _ us hl => match us, hl with | [_, _, _, _], _ => rfl
  have O36 := ok__law_plan (P := l.prog) (w := w) (base := base) z er su T C__law_draw C__law_deeds FF36
  have C__law_plan : LT.Cal l.prog w K mg base (L2.CX l.prog w) "_law_plan" 3 ["_law_purse_here", "_law_own_here", "_law_long", "_law_most"] (spI ⟨K, mg⟩ 4 F__law_plan) := ⟨_, _, O36, PySem.W.mg_of X G a36, k36, B36⟩
  have FF37 := fun_mk (st := s__law_form) l37 c37 k37
  have B37 := FF37.binds (ps := ["_law_own_here", "_law_steps", "_law_long"]) fun _ _ _ _ _ _ us hl => match us, hl with | [_, _, _], _ => rfl
  have O37 := ok__law_form (P := l.prog) (w := w) (base := base) z er su T  FF37
  have C__law_form : LT.Cal l.prog w K mg base (L2.CX l.prog w) "_law_form" 1 ["_law_own_here", "_law_steps", "_law_long"] (spD ⟨K, mg⟩ 3 F__law_form) := ⟨_, _, O37, PySem.W.mg_of X G a37, k37, B37⟩
  have FF38 := fun_mk (st := s__law_right) l38 c38 k38
  have B38 := FF38.binds (ps := ["_law_purse_here", "_law_own_here", "_law_made"]) fun _ _ _ _ _ _ us hl => match us, hl with | [_, _, _], _ => rfl
  have O38 := ok__law_right (P := l.prog) (w := w) (base := base) z er su T C__law_draw C_idle C_swaps C__law_plan C__law_form Kk_idle_2_1_0 Kk_swaps_2_1_0 FF38
  have C__law_right : LT.Cal l.prog w K mg base (L2.CX l.prog w) "_law_right" 8 ["_law_purse_here", "_law_own_here", "_law_made"] (spI ⟨K, mg⟩ 3 F__law_right) := ⟨_, _, O38, PySem.W.mg_of X G a38, k38, B38⟩
  have FF39 := fun_mk (st := s_law) l39 c39 k39
  exact law_end (ok_law (P := l.prog) (w := w) (base := base) z er su T MK_Setting C__law_purse C__law_own C__law_setting C_idle C_swaps C__law_right FF39) hmath

end K34
open PySem PySem.W PyProof.Rows in
set_option maxRecDepth 100000 in
set_option maxHeartbeats 0 in
theorem PySem.Challenge.cw_lazytags_k34_idle_steps_and_swaps_holds : PySem.Challenge.rw_lazytags_k34_idle_steps_and_swaps.Holds := by
  w_on; o_law; k_head; (case hw => w_witness2)
  k_fill
  refine L2.walk_ofK (n := 63) (k := 9) (x := "_law_script") (CX := L2.CX0) (sp := VL.spLaw) rfl (by decide) rfl ⟨rfl, by decide, by decide⟩ (fun w h Y => PySem.W.kIn_of Y) ?F (fun K H a ns hl _ hS => ⟨a, ns, rfl, hS, hl, fun _ => rfl⟩) fun _ _ _ _ z => z
  case F =>
    intro w mg fa h KX G hmg
    refine' K34.all_mk K34.math KX G hmg ?ea0 ?ec0 ?ei0 ?el0 ?et0 ?ek0 ?ep0 ?er0 ?eb0 ?ea1 ?ec1 ?ei1 ?el1 ?et1 ?ek1 ?ep1 ?er1 ?eb1 ?ea2 ?ec2 ?ei2 ?el2 ?et2 ?ek2 ?ep2 ?er2 ?eb2 ?ea3 ?ec3 ?ei3 ?el3 ?et3 ?ek3 ?ep3 ?er3 ?eb3 ?ea4 ?ec4 ?ei4 ?el4 ?et4 ?ek4 ?ep4 ?er4 ?eb4 ?ea5 ?ec5 ?ei5 ?el5 ?et5 ?ek5 ?ep5 ?er5 ?eb5 ?ea6 ?ec6 ?ei6 ?el6 ?et6 ?ek6 ?ep6 ?er6 ?eb6 ?ea7 ?ec7 ?ei7 ?el7 ?et7 ?ek7 ?ep7 ?er7 ?eb7 ?ea8 ?ec8 ?ei8 ?el8 ?et8 ?ek8 ?ep8 ?er8 ?eb8 ?kc_MOST_PLACES ?z_int ?z_bool ?z_str ?z_tuple ?z_list ?z_dict ?z_set ?z_isinstance ?z_len ?z_max ?z_min ?z_all ?z_any ?z_range ?z_enumerate ?z_sorted ?z_zip ?sg ?sb ?a0 ?l0 ?c0 ?k0 ?a1 ?l1 ?c1 ?k1 ?a2 ?l2 ?c2 ?k2 ?a3 ?l3 ?c3 ?k3 ?a4 ?l4 ?c4 ?k4 ?a5 ?l5 ?c5 ?k5 ?a6 ?l6 ?c6 ?k6 ?a7 ?l7 ?c7 ?k7 ?a8 ?l8 ?c8 ?k8 ?a9 ?l9 ?c9 ?k9 ?a10 ?l10 ?t10 ?c10 ?k10 ?n10 ?mk10 ?kp10 ?a11 ?l11 ?c11 ?k11 ?a12 ?l12 ?c12 ?k12 ?a13 ?l13 ?c13 ?k13 ?a14 ?l14 ?c14 ?k14 ?a15 ?l15 ?c15 ?k15 ?a16 ?l16 ?c16 ?k16 ?a17 ?l17 ?c17 ?k17 ?a18 ?l18 ?c18 ?k18 ?a19 ?l19 ?c19 ?k19 ?a20 ?l20 ?c20 ?k20 ?a21 ?l21 ?c21 ?k21 ?a22 ?l22 ?c22 ?k22 ?a23 ?r23 ?l23 ?c23 ?k23 ?pb23 ?a24 ?l24 ?c24 ?k24 ?a25 ?r25 ?l25 ?c25 ?k25 ?pb25 ?a26 ?r26 ?l26 ?c26 ?k26 ?pb26 ?a27 ?l27 ?c27 ?k27 ?a28 ?l28 ?c28 ?k28 ?a29 ?l29 ?c29 ?k29 ?a30 ?l30 ?c30 ?k30 ?a31 ?l31 ?c31 ?k31 ?a32 ?l32 ?c32 ?k32 ?a33 ?l33 ?c33 ?k33 ?a34 ?l34 ?c34 ?k34 ?a35 ?l35 ?c35 ?k35 ?a36 ?l36 ?c36 ?k36 ?a37 ?l37 ?c37 ?k37 ?a38 ?l38 ?c38 ?k38 ?a39 ?l39 ?c39 ?k39
    (case ea0 => k_is)
    (case ec0 => k_is)
    (case ei0 => k_is)
    (case el0 => k_is)
    (case et0 => k_is)
    (case ek0 => k_is)
    (case ep0 => k_is)
    (case ea1 => k_is)
    (case ec1 => k_is)
    (case ei1 => k_is)
    (case el1 => k_is)
    (case et1 => k_is)
    (case ek1 => k_is)
    (case ep1 => k_is)
    (case ea2 => k_is)
    (case ec2 => k_is)
    (case ei2 => k_is)
    (case el2 => k_is)
    (case et2 => k_is)
    (case ek2 => k_is)
    (case ep2 => k_is)
    (case ea3 => k_is)
    (case ec3 => k_is)
    (case ei3 => k_is)
    (case el3 => k_is)
    (case et3 => k_is)
    (case ek3 => k_is)
    (case ep3 => k_is)
    (case ea4 => k_is)
    (case ec4 => k_is)
    (case ei4 => k_is)
    (case el4 => k_is)
    (case et4 => k_is)
    (case ek4 => k_is)
    (case ep4 => k_is)
    (case ea5 => k_is)
    (case ec5 => k_is)
    (case ei5 => k_is)
    (case el5 => k_is)
    (case et5 => k_is)
    (case ek5 => k_is)
    (case ep5 => k_is)
    (case ea6 => k_is)
    (case ec6 => k_is)
    (case ei6 => k_is)
    (case el6 => k_is)
    (case et6 => k_is)
    (case ek6 => k_is)
    (case ep6 => k_is)
    (case ea7 => k_is)
    (case ec7 => k_is)
    (case ei7 => k_is)
    (case el7 => k_is)
    (case et7 => k_is)
    (case ek7 => k_is)
    (case ep7 => k_is)
    (case ea8 => k_is)
    (case ec8 => k_is)
    (case ei8 => k_is)
    (case el8 => k_is)
    (case et8 => k_is)
    (case ek8 => k_is)
    (case ep8 => k_is)
    (case kc_MOST_PLACES => k_is)
    (case z_int => k_is)
    (case z_bool => k_is)
    (case z_str => k_is)
    (case z_tuple => k_is)
    (case z_list => k_is)
    (case z_dict => k_is)
    (case z_set => k_is)
    (case z_isinstance => k_is)
    (case z_len => k_is)
    (case z_max => k_is)
    (case z_min => k_is)
    (case z_all => k_is)
    (case z_any => k_is)
    (case z_range => k_is)
    (case z_enumerate => k_is)
    (case z_sorted => k_is)
    (case z_zip => k_is)
    (case sg => k_is)
    (case a0 => k_is)
    (case l0 => k_is)
    (case c0 => k_is)
    (case k0 => k_is)
    (case a1 => k_is)
    (case l1 => k_is)
    (case c1 => k_is)
    (case k1 => k_is)
    (case a2 => k_is)
    (case l2 => k_is)
    (case c2 => k_is)
    (case k2 => k_is)
    (case a3 => k_is)
    (case l3 => k_is)
    (case c3 => k_is)
    (case k3 => k_is)
    (case a4 => k_is)
    (case l4 => k_is)
    (case c4 => k_is)
    (case k4 => k_is)
    (case a5 => k_is)
    (case l5 => k_is)
    (case c5 => k_is)
    (case k5 => k_is)
    (case a6 => k_is)
    (case l6 => k_is)
    (case c6 => k_is)
    (case k6 => k_is)
    (case a7 => k_is)
    (case l7 => k_is)
    (case c7 => k_is)
    (case k7 => k_is)
    (case a8 => k_is)
    (case l8 => k_is)
    (case c8 => k_is)
    (case k8 => k_is)
    (case a9 => k_is)
    (case l9 => k_is)
    (case c9 => k_is)
    (case k9 => k_is)
    (case a10 => k_is)
    (case l10 => k_is)
    (case t10 => k_is)
    (case c10 => k_is)
    (case k10 => k_is)
    (case n10 => k_is)
    (case mk10 => k_is)
    (case kp10 => k_is)
    (case a11 => k_is)
    (case l11 => k_is)
    (case c11 => k_is)
    (case k11 => k_is)
    (case a12 => k_is)
    (case l12 => k_is)
    (case c12 => k_is)
    (case k12 => k_is)
    (case a13 => k_is)
    (case l13 => k_is)
    (case c13 => k_is)
    (case k13 => k_is)
    (case a14 => k_is)
    (case l14 => k_is)
    (case c14 => k_is)
    (case k14 => k_is)
    (case a15 => k_is)
    (case l15 => k_is)
    (case c15 => k_is)
    (case k15 => k_is)
    (case a16 => k_is)
    (case l16 => k_is)
    (case c16 => k_is)
    (case k16 => k_is)
    (case a17 => k_is)
    (case l17 => k_is)
    (case c17 => k_is)
    (case k17 => k_is)
    (case a18 => k_is)
    (case l18 => k_is)
    (case c18 => k_is)
    (case k18 => k_is)
    (case a19 => k_is)
    (case l19 => k_is)
    (case c19 => k_is)
    (case k19 => k_is)
    (case a20 => k_is)
    (case l20 => k_is)
    (case c20 => k_is)
    (case k20 => k_is)
    (case a21 => k_is)
    (case l21 => k_is)
    (case c21 => k_is)
    (case k21 => k_is)
    (case a22 => k_is)
    (case l22 => k_is)
    (case c22 => k_is)
    (case k22 => k_is)
    (case a23 => k_is)
    (case r23 => k_is)
    (case l23 => k_is)
    (case c23 => k_is)
    (case k23 => k_is)
    (case a24 => k_is)
    (case l24 => k_is)
    (case c24 => k_is)
    (case k24 => k_is)
    (case a25 => k_is)
    (case r25 => k_is)
    (case l25 => k_is)
    (case c25 => k_is)
    (case k25 => k_is)
    (case a26 => k_is)
    (case r26 => k_is)
    (case l26 => k_is)
    (case c26 => k_is)
    (case k26 => k_is)
    (case a27 => k_is)
    (case l27 => k_is)
    (case c27 => k_is)
    (case k27 => k_is)
    (case a28 => k_is)
    (case l28 => k_is)
    (case c28 => k_is)
    (case k28 => k_is)
    (case a29 => k_is)
    (case l29 => k_is)
    (case c29 => k_is)
    (case k29 => k_is)
    (case a30 => k_is)
    (case l30 => k_is)
    (case c30 => k_is)
    (case k30 => k_is)
    (case a31 => k_is)
    (case l31 => k_is)
    (case c31 => k_is)
    (case k31 => k_is)
    (case a32 => k_is)
    (case l32 => k_is)
    (case c32 => k_is)
    (case k32 => k_is)
    (case a33 => k_is)
    (case l33 => k_is)
    (case c33 => k_is)
    (case k33 => k_is)
    (case a34 => k_is)
    (case l34 => k_is)
    (case c34 => k_is)
    (case k34 => k_is)
    (case a35 => k_is)
    (case l35 => k_is)
    (case c35 => k_is)
    (case k35 => k_is)
    (case a36 => k_is)
    (case l36 => k_is)
    (case c36 => k_is)
    (case k36 => k_is)
    (case a37 => k_is)
    (case l37 => k_is)
    (case c37 => k_is)
    (case k37 => k_is)
    (case a38 => k_is)
    (case l38 => k_is)
    (case c38 => k_is)
    (case k38 => k_is)
    (case a39 => k_is)
    (case l39 => k_is)
    (case c39 => k_is)
    (case k39 => k_is)
    (case er0 => kernel_rfl)
    (case eb0 => kernel_rfl)
    (case er1 => kernel_rfl)
    (case eb1 => kernel_rfl)
    (case er2 => kernel_rfl)
    (case eb2 => kernel_rfl)
    (case er3 => kernel_rfl)
    (case eb3 => kernel_rfl)
    (case er4 => kernel_rfl)
    (case eb4 => kernel_rfl)
    (case er5 => kernel_rfl)
    (case eb5 => kernel_rfl)
    (case er6 => kernel_rfl)
    (case eb6 => kernel_rfl)
    (case er7 => kernel_rfl)
    (case eb7 => kernel_rfl)
    (case er8 => kernel_rfl)
    (case eb8 => kernel_rfl)
    (case sb => kernel_rfl)
    (case pb23 => kernel_rfl)
    (case pb25 => kernel_rfl)
    (case pb26 => kernel_rfl)
