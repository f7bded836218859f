import PyProof.Rows.All
import Wide.All
import OpenK.AllK
import Wide.FinOn
import HandS.Base
import HandS.Call
import HandS.List
import HandS.Comp
import HandS.Ends
import HandS.Dict
import HandS.Iter
import HandS.Text
import HandS.Words
import HandS.WordsList
import HandS.Walk
import HandS.Defaults
import HandS.IsInst
import HandS.TupAny
import HandS.Deep
import KE.GoesEnum
import KE.LtData
import PyProof.ListStr
import HandS.ForMost
import HandS.Codes
import HandS.Zip
import HandS.Rev
import HandS.Conv
import HandS.SortKw
import KE.KMinKey
import HandS.TupSets
import KE.SortData
import HandS.TupMul
import HandS.SetFor
import KE.DataFind
import HandS.Strs
import HandS.TryOnly
import PySem.Challenge.RW_bagkinds_k19_guarded_slots
set_option Elab.async false
set_option linter.all false
set_option maxRecDepth 100000
/-! rules that the layer lacks: enumerate of a tuple, list of a text, the order of nested data -/
namespace XT
open PySem PySem.Spec PyProof.Rows L2

/-! enumerate of anything that begins an iterator -/
/-- a new enumerate object over the iterator at b -/
abbrev enumObj (b : Addr) : Obj := { cls := .type "enumerate", data := .fields #[.none, .bool false, .ref b, rawInt 0, .none, .none] }
set_option maxHeartbeats 1000000 in
theorem enum_made {v : Value} {ob : Obj} {G : Heap → Prop} (B : Begins v ob G) :
    Meets (Builtin.«enumerate.__new__» ⟨[.type "enumerate", v], []⟩)
      (fun _ R s => G s.heap ∧
        R (.ok (.ret (.ref (s.heap.push ob).objs.size)))
          { s with heap := (s.heap.push ob).push (enumObj s.heap.objs.size) }) :=
  .of_wp fun prog w A R s hs => by
    obtain ⟨hp, gs, dr, tk, os⟩ := s
    obtain ⟨hg, hr⟩ := hs
    have subE := sub_enumerate
    have begin_it : ∀ {A' : Around} {E Q : Value → Shared → Prop},
        Q (.ref hp.objs.size) ⟨hp.push ob, gs, dr, tk, os⟩ → wpAny (model prog w) A' (pyIter v) Q E ⟨hp, gs, dr, tk, os⟩ :=
      fun q => B.iter prog w _ _ ⟨hp, gs, dr, tk, os⟩ _ hg q
    wp_walk using begin_it
    refine wpAny_stack_any fun _ => wpAny_pure ?_
    split
    · rename_i c _ _ _ _ _
      cases (c == Value.type "enumerate") <;> (wp_walk using begin_it; exact ⟨_, rfl, hr⟩)
    · wp_walk using begin_it
      exact ⟨_, rfl, hr⟩
section
variable {prog : Program} {w : World} {A : Around} {E : Value → Shared → Prop} {s : Shared}
theorem call_enum_of {v : Value} {ob : Obj} {G : Heap → Prop} {Q : Value → Shared → Prop} (B : Begins v ob G) (hg : G s.heap)
    (hq : ∀ h', IsEnum h' (s.heap.objs.size + 1) s.heap.objs.size 0 .none → h'.get? s.heap.objs.size = some ob →
      (∀ b o, s.heap.get? b = some o → h'.get? b = some o) → Q (.ref (s.heap.objs.size + 1)) { s with heap := h' }) :
    wpAny (model prog w) A (call (.type "enumerate") [v]) Q E s := by
  refine callType_new F.called_enumerate (by decide) (F.typeCall_enumerate_1 _) (F.newCall_enumerate_1 _)
    (fun obj => F.args_object_init_2 obj _) F.entry_enumerate_new (enum_made B) ⟨hg, ?_⟩
  have hz : (s.heap.push ob).objs.size = s.heap.objs.size + 1 := Heap.size_push ..
  show _ ∧ _
  rw [hz]
  have en : IsEnum ((s.heap.push ob).push (enumObj s.heap.objs.size)) (s.heap.objs.size + 1) s.heap.objs.size 0 .none := by
    have z := Heap.get?_push_size (s.heap.push ob) (o := enumObj s.heap.objs.size) rfl
    rwa [hz] at z
  exact ⟨⟨_, en, rfl⟩, hq _ en (Heap.get?_push_of_some _ (Heap.get?_push_size _ B.free))
    fun b o x => Heap.get?_push_of_some _ (Heap.get?_push_of_some _ x)⟩
end

/-- the tuple at a as it stands at each turn, each item in a new pair with its number -/
def IteT (K : PySem.W.Frag) (a : Addr) : It where
  go i H := ∃ (xs : List V) (x : V), SqT K H a xs ∧ xs[i]? = some x
  yld i H v H' := ∃ (T : Addr) (x : V), v = .ref T ∧ H T = none ∧ H' = upd H T (.tup [.int (i : Nat), x]) ∧ ∀ xs, SqT K H a xs → xs[i]? = some x
  stop i H := ∃ xs : List V, SqT K H a xs ∧ xs.length = i

theorem turn_enumT {P : Program} {w : World} {K : PySem.W.Frag} {elts : List Expr} {kk : Nat} {tpos : Pos} (a e it : Addr) :
    Turn P w K (.Tuple elts kk tpos) (IteT K a) [e, it] e
      (fun i h => (∃ old, IsEnum h e it ((i : Nat) : Int) old) ∧ h.IsTupleIter it a i ∧ e ≠ it) where
  mem := by simp
  obj := fun i h ⟨⟨_, he⟩, ⟨o, ho, _, hd⟩, _⟩ b hb => by
    rcases (show b = e ∨ b = it by simpa using hb) with rfl | rfl
    · exact ⟨_, he, fun v q => nomatch q⟩
    · exact ⟨o, ho, fun v q => by rw [hd] at q; cases q⟩
  keep := fun i h h' ⟨⟨old, he⟩, hi, hne⟩ k => ⟨⟨old, k e (by simp) _ he⟩, hi.at fun o q => k it (by simp) o q, hne⟩
  item := by
    intro X hP hw hK hc i pins s σ H E I hf ⟨⟨old, he⟩, hit, hne⟩ ⟨xs, x, hq, hx⟩
    subst hP hw hK
    obtain ⟨its, rv, p, hz⟩ := I.tuple hq
    obtain ⟨u, hu, ru⟩ := rv.get hx
    have hel : e < s.heap.objs.size := Heap.lt_size he
    have hil : it < s.heap.objs.size := let ⟨_, q, _⟩ := hit; Heap.lt_size q
    have hai : a ≠ it := fun z => by
      obtain ⟨o, ho, hcl, _⟩ := hit
      obtain ⟨o2, ho2, hcl2, _⟩ := id p
      rw [z, ho] at ho2
      cases ho2
      rw [hcl] at hcl2
      exact absurd hcl2 (by decide)
    have hae : e ≠ a := fun z => by
      obtain ⟨o2, ho2, hcl2, _⟩ := id p
      rw [← z, show s.heap.get? e = _ from he] at ho2
      cases ho2
      have z2 : Value.type "enumerate" = Value.type "tuple" := hcl2
      injection z2 with z3
      exact absurd z3 (by decide)
    have hh : X.A.in1.in1.handled = none := I.ok.hd hc
    have Dr := Draws.tuple (prog := X.prog) (w := X.w) (A := X.A.in1) hh it a hai its.toArray
    refine wpAny_pyNext_enum_itemC Dr he ⟨hit, p⟩ (by simpa using (List.getElem?_eq_some_iff.mp hu).1) hne (by simp [hne, hae])
      fun x' h' tk hP' ho hst hT hsz hk => ?_
    have ex : x' = u := by
      have z : its[i]? = some x' := by simpa using hP'
      rw [hu] at z
      exact (Option.some.inj z).symm
    subst ex
    refine ⟨_, rfl, wpAny_letOwnedTupleGo_enum (s := { s with heap := h', toks := tk + 1 }) ho fun h2 he2 sb => ?_⟩
    have hT2 : h2.get? s.heap.objs.size = some { cls := .type "tuple", data := .seq #[.int i tk, x'] } := (sb.2 _ (Nat.ne_of_gt hel)).trans hT
    have laid : ObjOk X.prog X.w (upd H s.heap.objs.size (.tup [.int (i : Nat), x])) h2 s.heap.objs.size (.tup [.int (i : Nat), x]) :=
      ⟨show 2 ≤ sizeLine by decide, [.int i tk, x'], .cons ⟨_, rfl⟩ (.cons ru .nil), _, hT2, rfl, _, rfl⟩
    have I1 := I.turnedNew (t' := tk + 1) (ch := [e, it]) (fun b o hb q =>
      (sb.2 b fun z => hb (by simp [z])).trans (hk b o (fun z => hb (by simp [z])) (fun z => hb (by simp [z])) q)) hf (Nat.le_refl _) laid
    refine ⟨.ref s.heap.objs.size, _, I1, rfl, ⟨_, x, rfl, I.hok.fresh (Nat.le_refl _), rfl, fun ys hy => by rw [I.tuple_inj hy hq]; exact hx⟩,
      ⟨⟨x', ?_⟩, hst.1.at fun o q => (sb.2 it (Ne.symm hne)).trans q, hne⟩, fun b hb => ?_⟩
    · rw [show ((i + 1 : Nat) : Int) = (i : Int) + 1 by omega]
      exact he2
    · have hb2 : b < s.heap.objs.size := by
        rcases (show b = e ∨ b = it by simpa using hb) with rfl | rfl
        · exact hel
        · exact hil
      rw [upd_ne (Nat.ne_of_lt hb2)]
      exact (hf b hb).1
  done := by
    intro X hP hw hK hc i pins s σ H E I hf ⟨⟨old, he⟩, hit, hne⟩ ⟨xs, hq, hx⟩
    subst hP hw hK
    obtain ⟨its, rv, p, hz⟩ := I.tuple hq
    have hai : a ≠ it := fun z => by
      obtain ⟨o, ho, hcl, _⟩ := hit
      obtain ⟨o2, ho2, hcl2, _⟩ := id p
      rw [z, ho] at ho2
      cases ho2
      rw [hcl] at hcl2
      exact absurd hcl2 (by decide)
    have hh : X.A.in1.in1.handled = none := I.ok.hd hc
    have Dr := Draws.tuple (prog := X.prog) (w := X.w) (A := X.A.in1) hh it a hai its.toArray
    obtain ⟨f0, f1, f2, f3, f4, f5⟩ := hf it (by simp)
    have en : i = its.toArray.size := by
      rw [List.size_toArray, ← rv.length, hx]
    subst en
    exact wpAny_pyNext_enum_endD Dr he ⟨hit, p⟩ fun h' eb => ⟨rfl, I.turned (t' := s.toks) (fun b o hb q => eb b o hb q) f0 f1 f3 f4 f5⟩
  self := fun A i s Q E ⟨⟨_, he⟩, _⟩ h => wpAny_pyIter_enum he h

def iEnumT (K : PySem.W.Frag) (ta : TA) : TI := fun σ H R =>
  ta σ H fun vs H1 => ∃ (a : Addr) (xs : List V), vs = [.ref a] ∧ SqT K H1 a xs ∧ R (IteT K a) H1
theorem pi_enumT {X : Cx} (K : PySem.W.Frag) (hK : X.K = K) {e : Expr} {ta : TA} {p pos tpos : Pos} {elts : List Expr} {kk : Nat} (hg : Gl X "enumerate") (hm : X.mg "enumerate" = none)
    (ha : PA X [e] ta) (hs : starEach [e] X.env = [(false, eval e X.env)] := by rfl) :
    PI X (.Tuple elts kk tpos) (.Call (.Name "enumerate" p) [e] [] pos) (iEnumT K ta) := by
  subst hK
  refine ⟨fun pins s σ H R I h => ?_⟩
  refine Call_ (ld_blt I hg hm boot_enumerate (PyProof.Rows.callWith_type1 (thn (ha.run pos pins s σ H _ I h)
    fun us s1 ⟨vs, H1, I1, r1, a, xs, ex, hq, q⟩ => ?_) hs rfl))
  subst ex
  rcases r1 with _ | ⟨r, rr⟩
  rcases rr with _ | _
  cases r
  obtain ⟨its, rv, pt, hz⟩ := I1.tuple hq
  refine call_enum_of (begins_tuple a its.toArray) pt fun h' he hit hk => wpAny_pyIter_enum he ?_
  have I2 : Inv X pins σ H1 { s1 with heap := h' } := I1.kept (t' := s1.toks) hk
  refine ⟨s1.heap.objs.size + 1, [s1.heap.objs.size + 1, s1.heap.objs.size], _, _, H1, rfl, I2, turn_enumT a (s1.heap.objs.size + 1) s1.heap.objs.size,
    ⟨⟨.none, he⟩, ⟨_, hit, rfl, rfl⟩, Nat.succ_ne_self _⟩, fun b hb => ?_, q⟩
  have hle : s1.heap.objs.size ≤ b := by
    rcases (show b = s1.heap.objs.size + 1 ∨ b = s1.heap.objs.size by simpa using hb) with rfl | rfl
    · exact Nat.le_succ _
    · exact Nat.le_refl _
  exact I1.fpOk hle (I1.hok.fresh hle)
theorem walk_enumT {K : PySem.W.Frag} {a : Addr} {xs : List V} :
    Walk (IteT K a) xs.length (fun H => SqT K H a xs) (YPair (fun i => some (.int (i : Nat))) (fun i => xs[i]?)) :=
  ⟨fun i _ hi q => ⟨xs, xs[i], q, by simp [hi]⟩, fun _ q => ⟨xs, q, rfl⟩,
   fun i H v H' _ q ⟨T, x, h1, h2, h3, h4⟩ => ⟨T, .int (i : Nat), x, h1, h2, h3, rfl, h4 xs q⟩⟩

/-! list(text) -/
theorem paired_of {α β : Type} {R : α → β → Prop} : ∀ {xs : List α} {us : List β}, xs.length = us.length →
    (∀ (i : Nat) x u, xs[i]? = some x → us[i]? = some u → R x u) → Paired R xs us
  | [], [], _, _ => .nil
  | [], _ :: _, e, _ => by cases e
  | _ :: _, [], e, _ => by cases e
  | x :: xs, u :: us, e, h => .cons (h 0 x u rfl rfl) (paired_of (by simpa using e) fun i y v h1 h2 => h (i + 1) y v (by simpa using h1) (by simpa using h2))
/-- a text as the list of its signsV -/
def signsV (z : Str) : List V := z.cps.toList.map fun c => V.str ⟨#[c]⟩
theorem signsV_vals {x : Str} {acc : Array Value} (h : ItemsOf (SignAt x) acc x.cps.size) : Vals (signsV x) acc.toList := by
  obtain ⟨h1, h2⟩ := h
  refine paired_of (by simp [signsV, h1]) fun i y v e1 e2 => ?_
  obtain ⟨c, t, e3, rfl⟩ := h2 i v (by simpa using e2)
  have e4 : y = V.str ⟨#[c]⟩ := by
    simp only [signsV, List.getElem?_map, Array.getElem?_toList, e3, Option.map_some, Option.some.injEq] at e1
    exact e1.symm
  subst e4
  exact ⟨t, rfl⟩
theorem call_list_txt {X : Cx} (hc : X.calm = true) : CallR X (.type "list") (fun xs H Q =>
    ∃ z : Str, xs = [.str z] ∧ z.length ≤ sizeLine ∧ ∀ p, H p = none → Q (.ref p) (upd H p (.lst (signsV z)))) := by
  intro pins s σ H xs us Q I r ⟨z, ex, hz, q⟩
  subst ex
  obtain ⟨u, rfl, rx⟩ := vals1 r
  obtain ⟨t, rfl⟩ := rx
  refine call_list_str (hn := hz) (I.ok.hd hc) z t fun h' tk acc c' k e it => ?_
  have vs := signsV_vals it
  have hl : (signsV z).length ≤ sizeLine := by
    have e1 : (signsV z).length = z.cps.size := by simp [signsV]
    rw [e1]
    exact hz
  exact ⟨.ref s.heap.objs.size, _, I.laid (t' := tk) k (Nat.le_refl _) (show ObjOk X.prog X.w _ h' _ (.lst (signsV z)) from ⟨hl, acc.toList, c', vs, by simpa using e⟩),
    rfl, q _ (I.hok.fresh (Nat.le_refl _))⟩
section
variable {X : Cx}
/-- < of nested data, place by place of one kind -/
def rLtD (K : PySem.W.Frag) : R2 := fun x y H Q =>
  ∃ d e : PyData, (Dp K H x d ∧ Dp K H y e) ∧ PySem.W.alike d e = true ∧ (d ≠ .none ∧ d.depth ≤ 60) ∧ Q (.bl (PySem.W.dataLt d e)) H
theorem op_ltD (hu : X.A.units + 64 < cLine) : OpR X (compareOp .Lt) (rLtD X.K) := by
  intro pins s σ H x y v u Q I rx ry ⟨d, e, ⟨hd, he⟩, al, ⟨nn, dp⟩, q⟩
  obtain ⟨as, r1⟩ := Dp.reads I d x v hd rx
  obtain ⟨bs, r2⟩ := Dp.reads I e y u he ry
  have hr := PySem.W.rcLt_alike d e X.A s v u as bs r1 r2 al nn (by omega)
  exact hr _ _ _ _ ⟨.bl _, H, I, rfl, q⟩
end
end XT

/-! defs of the text with their promises, by name; the state of the draws -/
namespace XT
open PySem PySem.Spec PyProof.Rows L2
/-- the def x of the text keeps its promise -/
structure Cal (P : Program) (w : World) (K : PySem.W.Frag) (mg : Str → Option Value) (base : Heap) (k : Nat) (x : Str) (st : Stmt) (ps : List Str) (sp : Sp) : Prop where
  ex : ∃ (f : Addr) (fd : FuncData), FnOk P w K mg base CX0 k f fd ps sp ∧ Fun K x x st f fd ∧ Binds K fd ps [] ∧ mg x = some (.ref f)
theorem Cal.mk' {P : Program} {w : World} {K : PySem.W.Frag} {mg : Str → Option Value} {base : Heap} {k : Nat} {x : Str} {st : Stmt} {ps : List Str} {sp : Sp} {f : Addr} {fd : FuncData}
    (F : FnOk P w K mg base CX0 k f fd ps sp) (G : Fun K x x st f fd) (b : Binds K fd ps []) (m : mg x = some (.ref f)) : Cal P w K mg base k x st ps sp := ⟨f, fd, F, G, b, m⟩
section
variable {X : Cx} {k j : Nat} {x : Str} {st : Stmt} {ps : List Str} {sp : Sp} {p pos : Pos} {e : Expr} {es : List Expr} {t : TA}
theorem pe_cal (c : Cal X.prog X.w X.K X.mg X.base k x st ps sp) (hr : Room j X.A) (hk : k ≤ j) (hg : Gl X x) (ha : PA X (e :: es) t)
    (hdb : (x == ("__debug__" : Str)) = false := by decide) (he : starEach (e :: es) X.env = (false, eval e X.env) :: starEach es X.env := by rfl)
    (hpl : (backTo pos (starEach es X.env)).any (·.1) = false := by rfl) : PE X (.Call (.Name x p) (e :: es) [] pos) (tCall sp [] E0 t) := by
  obtain ⟨f, fd, F, G, b, m⟩ := c.ex
  exact pe_call F (hr.mono hk) hg m G.kp b .nil pass0 ha (hdb := hdb) (he := he) (hpl := hpl)
theorem pe_cal0 (c : Cal X.prog X.w X.K X.mg X.base k x st ps sp) (hr : Room j X.A) (hk : k ≤ j) (hg : Gl X x)
    (hdb : (x == ("__debug__" : Str)) = false := by decide) : PE X (.Call (.Name x p) [] [] pos) (tCall sp [] E0 tNil) := by
  obtain ⟨f, fd, F, G, b, m⟩ := c.ex
  exact pe_call0 F (hr.mono hk) hg m G.kp b .nil pass0 (hdb := hdb)
/-- how the keywords ks of a call of st bind -/
structure KwB (st : Stmt) (ps ks : List Str) (g : {α : Type} → List α → List α) : Prop where
  to : ∀ (x qual : Str) (kV doc pm : Value) (an : Option Addr) (cdv ct : Value) (ws : List Value), ws.length = ks.length →
    bindArgs (PySem.W.fnOf x qual (defArgs st) (defBody st) (defScope st) .none kV doc pm an cdv ct) ⟨[], ks.zip ws⟩ = pure (ps.zip (g ws))
  rel : ∀ {zs : List V} {ws : List Value}, zs.length = ks.length → Vals zs ws → Vals (g zs) (g ws)
def tCalK (n : Nat) (sp : Sp) (g : {α : Type} → List α → List α) (tk : TA) : TE := fun σ H Q => tk σ H fun zs H2 => zs.length = n ∧ sp (g zs) H2 Q E0
theorem pe_calK {ks : List Str} {g : {α : Type} → List α → List α} {kws : List Keyword} {tk : TA} (c : Cal X.prog X.w X.K X.mg X.base k x st ps sp) (hr : Room j X.A) (hk : k ≤ j) (hg : Gl X x)
    (hb : KwB st ps ks g) (hkw : PK X kws tk) (hall : (backToKw pos (keywordEach kws X.env)).all (·.1.isSome) = true := by rfl) (hks : (backToKw pos (keywordEach kws X.env)).filterMap (·.1) = ks := by rfl)
    (hdb : (x == ("__debug__" : Str)) = false := by decide)
    (hpl : ((backTo pos (starEach [] X.env)).any (·.1) || (backToKw pos (keywordEach kws X.env)).any (·.1.isNone)) = false := by rfl) :
    PE X (.Call (.Name x p) [] kws pos) (tCalK ks.length sp g tk) := by
  obtain ⟨f, fd, F, G, b, m⟩ := c.ex
  obtain ⟨oc, od, kV, doc, pm, an, cdv, ct, osl, efd, lk, hcd⟩ := G.ex
  refine ⟨fun pins s σ H Q I h => ?_⟩
  refine wpAny_Call_Name_kw (ld_glob I hg m ?_ hdb)
  refine PySem.W.callWith_KW0 (h₀ := X.base) I.ok.mod.kin G.kp hall ?_ hpl
  refine thn (hkw.run pos pins s σ H _ I h) fun ws s2 ⟨zs, H2, I2, rz, l2, q2⟩ => ⟨I2.kIn, ?_⟩
  rw [hks]
  have l3 : ws.length = ks.length := rz.length.symm.trans l2
  refine wpAny_call (codeAny_mono (F.run X.A X.stack s2 H2 ⟨[], ks.zip ws⟩ (g ws) (g zs) Q E0 (hr.mono hk) I2.env0 ?_ (hb.rel l2 rz) q2) fun r s' hq => ?_)
  · subst efd
    exact .of_eq (hb.to _ _ _ _ _ _ _ _ _ l3)
  · cases r with
    | error e => exact False.elim hq
    | ok fl =>
      cases fl with
      | ret u => exact I2.after hq
      | next => exact False.elim hq
      | brk => exact False.elim hq
      | cont => exact False.elim hq
end
/-! ### rules with K written out (for what stands within a comprehension) -/
section
variable {X : Cx} (K : PySem.W.Frag) (hK : X.K = K)
include hK
theorem ix_listK : IxR X (rIxL K) := by subst hK; exact ix_list
theorem ix_tupK : IxR X (rIxT K) := by subst hK; exact ix_tup
theorem ix_seqK : IxR X (rIx K) := by subst hK; exact ix_seq
theorem sl_listK : SlR X (rSlL K) := by subst hK; exact sl_list
theorem sl_tupAK : SlR X (rSlA K) := by subst hK; exact sl_tupA
theorem op_eqDK (hu : X.A.units + 64 < cLine) : OpR X (compareOp .Eq) (rEqD K) := by subst hK; exact op_eqD hu
theorem op_neDK (hu : X.A.units + 64 < cLine) : OpR X (compareOp .NotEq) (rNeD K) := by subst hK; exact op_neD hu
theorem op_ltDK (hu : X.A.units + 64 < cLine) : OpR X (compareOp .Lt) (rLtD K) := by subst hK; exact op_ltD hu
theorem op_in_seqK : OpR X (compareOp .In) (rIn K false) := by subst hK; exact op_in_seq
theorem op_notIn_seqK : OpR X (compareOp .NotIn) (rIn K true) := by subst hK; exact op_notIn_seq
theorem op_inDK (hu : X.A.units + 65 < cLine) : OpR X (compareOp .In) (rInD K) := by subst hK; exact op_inD hu
theorem op_notInDK (hu : X.A.units + 65 < cLine) : OpR X (compareOp .NotIn) (rNotInD K) := by subst hK; exact op_notInD hu
theorem op_catAK : OpR X (binaryOp .Add) (rCatA K) := by subst hK; exact op_catA
def rLenS (K : PySem.W.Frag) : List V → Hp → VK → Prop := fun xs H Q => ∃ p ys, xs = [.ref p] ∧ (SqL K H p ys ∨ SqT K H p ys) ∧ Q (.int ys.length) H
theorem call_len_seqK : CallR X (.builtin "len") (rLenS K) := by subst hK; exact call_len_seq
theorem call_isiK' : CallR X (.builtin "isinstance") (rIsi K) := by subst hK; exact call_isi
theorem call_isiTK : CallR X (.builtin "isinstance") (rIsiT K) := by subst hK; exact call_isiT
def rTupOf (K : PySem.W.Frag) : List V → Hp → VK → Prop := fun xs H Q => ∃ p ys, xs = [.ref p] ∧ ((SqL K H p ys ∧ ∀ l, H l = none → Q (.ref l) (upd H l (.tup ys))) ∨ (SqT K H p ys ∧ Q (.ref p) H))
theorem call_tuple_ofK : CallR X (.type "tuple") (rTupOf K) := by subst hK; exact call_tuple_of
def rLstOf (K : PySem.W.Frag) : List V → Hp → VK → Prop := fun xs H Q => ∃ p ys, xs = [.ref p] ∧ (SqL K H p ys ∨ SqT K H p ys) ∧ ∀ l, H l = none → Q (.ref l) (upd H l (.lst ys))
theorem call_list_ofK : CallR X (.type "list") (rLstOf K) := by subst hK; exact call_list_of
theorem cr_anyK (hc : X.calm = true) : CallR X (.builtin "any") (rAny K) := by subst hK; exact cr_any hc
theorem cr_allK (hc : X.calm = true) : CallR X (.builtin "all") (rAll K) := by subst hK; exact cr_all hc
theorem pi_listK {tg l : Expr} {tl : TE} (hl : PE X l tl) : PI X tg l (iList K tl) := by subst hK; exact pi_list hl
theorem pi_tupK {tg l : Expr} {tl : TE} (hl : PE X l tl) : PI X tg l (iTup K tl) := by subst hK; exact pi_tup hl
theorem pg_tupK (n : Nat) {pos : Pos} {es : List Expr} {k : Nat} {t : TGs} (hc : X.calm = true) (h : PGs X es t)
    (hn : (assignEach es X.env).length = n := by rfl) (hst : (assignEach es X.env).findIdx? (·.1) = none := by rfl) : PG X (.Tuple es k pos) (gTup K n t) := by subst hK; exact pg_tup hc h hn hst
end
theorem _root_.L2.Room.units65 {k : Nat} {A : Around} (r : Room k A) : A.units + 65 < cLine := by have := r.un; omega

/-! ### heaps -/
theorem same_new {H : Hp} {p : Addr} {o : HO} (h : H p = none) : Same H (upd H p o) := fun b u q => by rw [upd_ne (ne_of_none q h)]; exact q
/-- all but the state is as it was -/
def Kept (st : Addr) (H H' : Hp) : Prop := ∀ b o, b ≠ st → H b = some o → H' b = some o
theorem Kept.refl (st : Addr) (H : Hp) : Kept st H H := fun _ _ _ h => h
theorem Kept.trans {st : Addr} {H H1 H2 : Hp} (a : Kept st H H1) (b : Kept st H1 H2) : Kept st H H2 := fun c o n h => b c o n (a c o n h)
theorem Kept.new {st : Addr} {H : Hp} {p : Addr} {o : HO} (h : H p = none) : Kept st H (upd H p o) := fun b u _ q => by
  rw [upd_ne (ne_of_none q h)]; exact q
theorem Kept.own {st : Addr} {H : Hp} {o : HO} : Kept st H (upd H st o) := fun b u n q => by rw [upd_ne n]; exact q
theorem _root_.L2.Same.kept {st : Addr} {H H' : Hp} (h : Same H H') : Kept st H H' := fun b o _ q => h b o q
theorem Kept.seqT {st : Addr} {K : PySem.W.Frag} {H H' : Hp} {a : Addr} {xs ys : List V} (k : Kept st H H') (hs : H st = some (.lst ys)) (h : SqT K H a xs) : SqT K H' a xs := by
  rcases h with (h | ⟨o, h⟩) | h
  · exact .inl (.inl (k _ _ (fun e => by rw [e, hs] at h; cases h) h))
  · exact .inl (.inr ⟨o, k _ _ (fun e => by rw [e, hs] at h; cases h) h⟩)
  · exact .inr h
theorem _root_.L2.Same.seqT {K : PySem.W.Frag} {H H' : Hp} {a : Addr} {xs : List V} (e : Same H H') (h : SqT K H a xs) : SqT K H' a xs := by
  rcases h with (h | ⟨o, h⟩) | h
  · exact .inl (.inl (e _ _ h))
  · exact .inl (.inr ⟨o, e _ _ h⟩)
  · exact .inr h
end XT
namespace L2
open PySem PySem.Spec PyProof.Rows
mutual
/-- data without lists stay where tuples stay -/
theorem Dp.keep {K : PySem.W.Frag} {H H' : Hp} (hT : ∀ a xs, SqT K H a xs → SqT K H' a xs) (hL : ∀ a xs, SqL K H a xs → SqL K H' a xs) : ∀ {v : V} {d : PyData}, Dp K H v d → Dp K H' v d
  | _, _, .non => .non
  | _, _, .bl b => .bl b
  | _, _, .int i => .int i
  | _, _, .str x => .str x
  | _, _, .lst h a => .lst (hL _ _ h) (DpAll.keep hT hL a)
  | _, _, .tup h a => .tup (hT _ _ h) (DpAll.keep hT hL a)
theorem DpAll.keep {K : PySem.W.Frag} {H H' : Hp} (hT : ∀ a xs, SqT K H a xs → SqT K H' a xs) (hL : ∀ a xs, SqL K H a xs → SqL K H' a xs) : ∀ {vs : List V} {ds : List PyData}, DpAll K H vs ds → DpAll K H' vs ds
  | _, _, .nil => .nil
  | _, _, .cons h t => .cons (Dp.keep hT hL h) (DpAll.keep hT hL t)
end
theorem Dp.same {K : PySem.W.Frag} {H H' : Hp} (e : Same H H') {v : V} {d : PyData} (h : Dp K H v d) : Dp K H' v d := Dp.keep (fun _ _ q => e.seqT q) (fun _ _ q => e.seq q) h
theorem DpAll.same {K : PySem.W.Frag} {H H' : Hp} (e : Same H H') {v : List V} {d : List PyData} (h : DpAll K H v d) : DpAll K H' v d := DpAll.keep (fun _ _ q => e.seqT q) (fun _ _ q => e.seq q) h
end L2
namespace XT
open PySem PySem.Spec PyProof.Rows L2
end XT

/-! data: what is told of them, isinstance, texts, comprehensions over walks -/
namespace XT
open PySem PySem.Spec PyProof.Rows L2
end XT
namespace L2
open PySem PySem.Spec PyProof.Rows
/-! ### data -/
theorem Dp.tupI {K : PySem.W.Frag} {H : Hp} {v : V} {ds : List PyData} (h : Dp K H v (.tuple ds)) : ∃ a xs, v = .ref a ∧ SqT K H a xs ∧ DpAll K H xs ds := by
  cases h with
  | tup h1 h2 => exact ⟨_, _, rfl, h1, h2⟩
theorem Dp.lstI {K : PySem.W.Frag} {H : Hp} {v : V} {ds : List PyData} (h : Dp K H v (.list ds)) : ∃ a xs, v = .ref a ∧ SqL K H a xs ∧ DpAll K H xs ds := by
  cases h with
  | lst h1 h2 => exact ⟨_, _, rfl, h1, h2⟩
theorem DpAll.len {K : PySem.W.Frag} {H : Hp} : ∀ {xs : List V} {ds : List PyData}, DpAll K H xs ds → xs.length = ds.length
  | _, _, .nil => rfl
  | _, _, .cons _ t => congrArg Nat.succ (DpAll.len t)
theorem DpAll.get {K : PySem.W.Frag} {H : Hp} : ∀ {xs : List V} {ds : List PyData} {i : Nat} {d : PyData}, DpAll K H xs ds → ds[i]? = some d → ∃ v, xs[i]? = some v ∧ Dp K H v d
  | _, _, _, _, .nil, h => by simp at h
  | _, _, 0, _, .cons h _, e => by
    cases (show some _ = some _ from e)
    exact ⟨_, rfl, h⟩
  | _, _, i + 1, _, .cons _ t, e => DpAll.get (i := i) t e
theorem DpAll.of_get {K : PySem.W.Frag} {H : Hp} : ∀ {xs : List V} {ds : List PyData}, xs.length = ds.length → (∀ (i : Nat) (v : V) (d : PyData), xs[i]? = some v → ds[i]? = some d → Dp K H v d) → DpAll K H xs ds
  | [], [], _, _ => .nil
  | [], _ :: _, e, _ => by cases e
  | _ :: _, [], e, _ => by cases e
  | x :: xs, d :: ds, e, h => .cons (h 0 x d rfl rfl) (DpAll.of_get (Nat.succ.inj e) fun i v d h1 h2 => h (i + 1) v d h1 h2)
theorem DpAll.ints {K : PySem.W.Frag} {H : Hp} : ∀ (l : List Int), DpAll K H (l.map V.int) (l.map PyData.int)
  | [] => .nil
  | _ :: l => .cons (.int _) (DpAll.ints l)
theorem DpAll.ints_inv {K : PySem.W.Frag} {H : Hp} : ∀ {xs : List V} (l : List Int), DpAll K H xs (l.map PyData.int) → xs = l.map V.int
  | _, [], .nil => rfl
  | _, _ :: l, .cons h t => by
    cases h
    rw [DpAll.ints_inv l t]
    rfl
theorem DpAll.append {K : PySem.W.Frag} {H : Hp} : ∀ {xs ys : List V} {ds es : List PyData}, DpAll K H xs ds → DpAll K H ys es → DpAll K H (xs ++ ys) (ds ++ es)
  | _, _, _, _, .nil, t => t
  | _, _, _, _, .cons h r, t => .cons h (DpAll.append r t)
end L2
namespace XT
open PySem PySem.Spec PyProof.Rows L2
/-- at most n levels, rows of at most 100000 -/
def okD : Nat → PyData → Prop
  | 0, _ => False
  | n + 1, .list ds => ds.length ≤ 100000 ∧ ∀ d ∈ ds, okD n d
  | n + 1, .tuple ds => ds.length ≤ 100000 ∧ ∀ d ∈ ds, okD n d
  | _ + 1, _ => True
def tyN : PyData → String
  | .none => "NoneType"
  | .bool _ => "bool"
  | .int _ => "int"
  | .str _ => "str"
  | .list _ => "list"
  | .tuple _ => "tuple"
  | .dict _ => "dict"
theorem SqT.ty {K : PySem.W.Frag} {H : Hp} {a : Addr} {xs : List V} (h : SqT K H a xs) : TyX K H (.ref a) (.type "tuple") := by
  rcases h with (h | ⟨o, h⟩) | ⟨o, its, n, hk, hc, _⟩
  · exact .base (.tup h)
  · exact .fTuple h
  · exact .kTuple hk hc
theorem SqL.ty {K : PySem.W.Frag} {H : Hp} {a : Addr} {xs : List V} (h : SqL K H a xs) : TyX K H (.ref a) (.type "list") := by
  rcases h with (h | ⟨o, h⟩) | ⟨o, its, n, hk, hc, _⟩
  · exact .base (.lst h)
  · exact .base (.frz h)
  · exact .kList hk hc
end XT
namespace L2
open PySem PySem.Spec PyProof.Rows XT
theorem Dp.ty {K : PySem.W.Frag} {H : Hp} {v : V} {d : PyData} (h : Dp K H v d) : TyX K H v (.type (tyN d)) := by
  cases h with
  | non => exact .base .non
  | bl b => exact .base (.bl b)
  | int i => exact .base (.int i)
  | str x => exact .base (.str x)
  | lst h _ => exact SqL.ty h
  | tup h _ => exact SqT.ty h
end L2
namespace XT
open PySem PySem.Spec PyProof.Rows L2
theorem rd_isi {K : PySem.W.Frag} {H : Hp} {x : V} {T C : String} {b : Bool} {Q : VK} (ty : TyX K H x (.type T)) (h : kitB T C = some b) (q : Q (.bl b) H) : rIsi K [x, .ty C] H Q :=
  ⟨x, .ty C, .type T, .type C, b, rfl, .ty C, ty, kit_ty h, q⟩
/-! ### texts -/
theorem join_len : ∀ ys : List Str, (Txt.join Str.empty ys).length = (ys.map (·.length)).sum := by
  have go : ∀ ys : List Str, (Str.join Str.empty ys).length = (ys.map (·.length)).sum := by
    intro ys
    induction ys with
    | nil => rfl
    | cons x r ih =>
      cases r with
      | nil => simp [Str.join]
      | cons z r =>
        show (x ++ Str.empty ++ Str.join Str.empty (z :: r)).length = _
        rw [PySem.Str.length_append, PySem.Str.length_append, ih]
        simp only [List.map_cons, List.sum_cons]
        show x.length + 0 + _ = _
        omega
  intro ys
  rw [TL.join_eq, go]
theorem sum_le {l : List Nat} {c : Nat} (h : ∀ x ∈ l, x ≤ c) : l.sum ≤ l.length * c := by
  induction l with
  | nil => simp
  | cons a l ih =>
    have h1 := h a List.mem_cons_self
    have h2 := ih fun x hx => h x (List.mem_cons_of_mem _ hx)
    rw [List.sum_cons, List.length_cons, Nat.succ_mul]
    omega
theorem atI_pick {α : Type} {l : List α} {d : Int} (h0 : 0 ≤ d) (h1 : d < (l.length : Int)) : ∃ c, atI l d = some c ∧ c ∈ l := by
  obtain ⟨j, rfl⟩ := Int.eq_ofNat_of_zero_le h0
  have hj : j < l.length := by omega
  exact ⟨l[j], atI_nat (List.getElem?_eq_getElem hj), List.getElem_mem hj⟩
theorem Kept.over {st D : Addr} {H H' : Hp} {o : HO} (h : H D = none) (k : Kept st H H') : Kept st H (upd H' D o) := fun b u n e => by
  rw [upd_ne (ne_of_none e h)]
  exact k b u n e
theorem yes_ {F G : Hp → Prop} {σ : L2.St} {H : Hp} (h : F H) : tYes σ H (fun b H3 => if b = true then F H3 else G H3) := L2.iteT (B := G H) h
/-! ### comprehensions with two walks -/
/-- what the inner walk asks -/
def InL (Nx : Hp → Prop) (g1 : TG) (tt1 : TT) (te : TE) (D : Addr) (vs1 : List Nat) (σ2 : L2.St) : It → Hp → Prop := fun J1 H4 => ∃ W1 : Nat → Nat → Hp → Prop, (∃ m, W1 0 m H4) ∧ ∀ j k H, W1 j k H →
  (J1.stop j H ∧ Nx H) ∨ (J1.go j H ∧ ∃ Nx1 : Hp → Prop, (∀ H', Nx1 H' → ∃ k', k' < k ∧ W1 (j + 1) k' H') ∧ ∀ x H', J1.yld j H x H' → g1 x (wipe σ2 vs1) H' fun σ3 H5 => wipe σ3 vs1 = wipe σ2 vs1 ∧ tt1 σ3 H5 fun b H6 =>
    if b = true then te σ3 H6 fun y H7 => ∃ acc, H7 D = some (.lst acc) ∧ acc.length < sizeLine ∧ Nx1 (upd H7 D (.lst (acc ++ [y]))) else Nx1 H6)
theorem in_it {J : It} {n : Nat} {G : Hp → Prop} {Y : Nat → Hp → V → Hp → Prop} (w : Walk J n G Y) {g : TG} {tt : TT} {te : TE} {vs : List Nat} {σ : L2.St} {H1 : Hp} {D : Addr} {Nx : Hp → Prop} (Pv : Nat → Hp → Prop)
    (h0 : Pv 0 H1) (hG : ∀ i H, i ≤ n → Pv i H → G H)
    (hs : ∀ i x H H', i < n → Pv i H → Y i H x H' → g x (wipe σ vs) H' fun σ2 H2 => wipe σ2 vs = wipe σ vs ∧ tt σ2 H2 fun b H3 =>
      if b = true then te σ2 H3 fun y H4 => ∃ acc, H4 D = some (.lst acc) ∧ acc.length < sizeLine ∧ Pv (i + 1) (upd H4 D (.lst (acc ++ [y]))) else Pv (i + 1) H3)
    (hd : ∀ H, Pv n H → Nx H) : InL Nx g tt te D vs σ J H1 := by
  refine ⟨fun i m H => m = n - i ∧ i ≤ n ∧ Pv i H, ⟨n, rfl, Nat.zero_le _, h0⟩, ?_⟩
  rintro i m H ⟨rfl, hi, p⟩
  have q := hG i H hi p
  rcases Nat.lt_or_ge i n with hlt | hge
  · exact .inr ⟨w.goes i H hlt q, Pv (i + 1), fun H' p' => ⟨n - (i + 1), by omega, rfl, hlt, p'⟩, fun x H' y => hs i x H H' hlt p (w.yields i H x H' hlt q y)⟩
  · obtain rfl : i = n := Nat.le_antisymm hi hge
    exact .inl ⟨w.stops H q, hd H p⟩
theorem lc2_it {J : It} {n : Nat} {G : Hp → Prop} {Y : Nat → Hp → V → Hp → Prop} (w : Walk J n G Y) {g : TG} {tt : TT} {wi1 : TI} {g1 : TG} {tt1 : TT} {te : TE} {vs vs1 : List Nat} {σ : L2.St} {H1 : Hp} {D : Addr} {Qd : Hp → Prop}
    (Pv : Nat → Hp → Prop) (h0 : Pv 0 (upd H1 D (.lst []))) (hG : ∀ i H, i ≤ n → Pv i H → G H)
    (hs : ∀ i x H H', i < n → Pv i H → Y i H x H' → g x (wipe σ vs) H' fun σ2 H2 => wipe σ2 vs = wipe σ vs ∧ tt σ2 H2 fun b H3 =>
      if b = true then wi1 σ2 H3 (InL (Pv (i + 1)) g1 tt1 te D vs1 σ2) else Pv (i + 1) H3)
    (hd : ∀ H, Pv n H → Qd H) :
    ∃ W : Nat → Nat → Hp → Prop, (∃ m, W 0 m (upd H1 D (.lst []))) ∧ ∀ i m H, W i m H →
      (J.stop i H ∧ Qd H) ∨ (J.go i H ∧ ∃ Nx : Hp → Prop, (∀ H', Nx H' → ∃ m', m' < m ∧ W (i + 1) m' H') ∧ ∀ x H', J.yld i H x H' → g x (wipe σ vs) H' fun σ2 H2 => wipe σ2 vs = wipe σ vs ∧ tt σ2 H2 fun b H3 =>
        if b = true then wi1 σ2 H3 (InL Nx g1 tt1 te D vs1 σ2) else Nx H3) := by
  refine ⟨fun i m H => m = n - i ∧ i ≤ n ∧ Pv i H, ⟨n, rfl, Nat.zero_le _, h0⟩, ?_⟩
  rintro i m H ⟨rfl, hi, p⟩
  have q := hG i H hi p
  rcases Nat.lt_or_ge i n with hlt | hge
  · exact .inr ⟨w.goes i H hlt q, Pv (i + 1), fun H' p' => ⟨n - (i + 1), by omega, rfl, hlt, p'⟩, fun x H' y => hs i x H H' hlt p (w.yields i H x H' hlt q y)⟩
  · obtain rfl : i = n := Nat.le_antisymm hi hge
    exact .inl ⟨w.stops H q, hd H p⟩
/-! ### languages -/
structure Lg where
  sorts : Nat
  rels : List (Str × List Nat)
def intsV (l : List Nat) : List V := l.map fun n : Nat => V.int (n : Int)
structure LgOk (L : Lg) : Prop where
  lo : 1 ≤ L.sorts
  hi : L.sorts ≤ 4
  few : L.rels.length ≤ 16
  pl : ∀ r ∈ L.rels, 1 ≤ r.2.length ∧ r.2.length ≤ 4 ∧ ∀ s ∈ r.2, s < L.sorts
/-- the language L stands at t -/
def LangAt (K : PySem.W.Frag) (H : Hp) (t : Addr) (L : Lg) : Prop := ∃ (rt : Addr) (rs : List (Addr × Addr)),
  SqT K H t [.int (L.sorts : Int), .ref rt] ∧ SqT K H rt (rs.map fun p => .ref p.1) ∧ rs.length = L.rels.length ∧
  ∀ (i : Nat) (p : Addr × Addr) (r : Str × List Nat), rs[i]? = some p → L.rels[i]? = some r → SqT K H p.1 [.str r.1, .ref p.2] ∧ SqT K H p.2 (intsV r.2)
theorem LangAt.keep {K : PySem.W.Frag} {H H' : Hp} {t : Addr} {L : Lg} (hT : ∀ a xs, SqT K H a xs → SqT K H' a xs) (h : LangAt K H t L) : LangAt K H' t L := by
  obtain ⟨rt, rs, h1, h2, h3, h4⟩ := h
  exact ⟨rt, rs, hT _ _ h1, hT _ _ h2, h3, fun i p r e1 e2 => ⟨hT _ _ (h4 i p r e1 e2).1, hT _ _ (h4 i p r e1 e2).2⟩⟩
theorem LangAt.same {K : PySem.W.Frag} {H H' : Hp} {t : Addr} {L : Lg} (e : Same H H') (h : LangAt K H t L) : LangAt K H' t L := h.keep fun _ _ q => e.seqT q
end XT

/-! draws out of a state that is a list: what holds of it, comprehensions of draws -/
namespace XT
open PySem PySem.Spec PyProof.Rows L2
theorem _root_.L2.Same.over {D : Addr} {H H' : Hp} {o : HO} (h : H D = none) (k : Same H H') : Same H (upd H' D o) := fun b u e => by
  rw [upd_ne (ne_of_none e h)]
  exact k b u e
/-- tuples stay -/
def Tups (H H' : Hp) : Prop := ∀ (K : PySem.W.Frag) (a : Addr) (xs : List V), SqT K H a xs → SqT K H' a xs
theorem Tups.refl (H : Hp) : Tups H H := fun _ _ _ h => h
theorem Tups.trans {H H1 H2 : Hp} (a : Tups H H1) (b : Tups H1 H2) : Tups H H2 := fun K c xs h => b K c xs (a K c xs h)
theorem Tups.same {H H' : Hp} (e : Same H H') : Tups H H' := fun _ _ _ h => e.seqT h
theorem Tups.lst {H : Hp} {D : Addr} {xs : List V} {o : HO} (e : H D = some (.lst xs)) : Tups H (upd H D o) := fun K a zs h =>
  Kept.seqT (st := D) Kept.own e h
theorem Tups.new {H : Hp} {D : Addr} {o : HO} (e : H D = none) : Tups H (upd H D o) := Tups.same (same_new e)
/-- S holds of the heap while the list at st is a state of draws -/
structure Drw (st : Addr) (S : Hp → Prop) : Prop where
  lst : ∀ H, S H → ∃ xs, H st = some (.lst xs)
  fresh : ∀ H D, S H → H D = none → D ≠ st ∧ ∀ H' o, S H' → S (upd H' D o)
theorem Drw.new {st : Addr} {S : Hp → Prop} (W : Drw st S) {H : Hp} {D : Addr} {o : HO} (s : S H) (h : H D = none) : S (upd H D o) := (W.fresh H D s h).2 H o s
theorem Drw.seqT {st : Addr} {S : Hp → Prop} (W : Drw st S) {K : PySem.W.Frag} {H H' : Hp} {a : Addr} {xs : List V} (s : S H) (k : Kept st H H') (h : SqT K H a xs) : SqT K H' a xs := by
  obtain ⟨ys, e⟩ := W.lst H s
  exact k.seqT e h
theorem Drw.lang {st : Addr} {S : Hp → Prop} (W : Drw st S) {K : PySem.W.Frag} {H H' : Hp} {t : Addr} {L : Lg} (s : S H) (k : Kept st H H') (h : LangAt K H t L) : LangAt K H' t L := h.keep fun _ _ q => W.seqT s k q
theorem Drw.tups {st : Addr} {S : Hp → Prop} (W : Drw st S) {H H' : Hp} (s : S H) (k : Kept st H H') : Tups H H' := fun _ _ _ h => W.seqT s k h
/-- [e for k in range(n)], e a draw -/
theorem lc_draw {st : Addr} {S : Hp → Prop} (W : Drw st S) {n iv : Nat} {te : TE} {vs : List Nat} {σ : L2.St} {H1 : Hp} {D : Addr} {Qd : Hp → Prop} (P : Hp → V → Prop)
    (mono : ∀ H H' v, Tups H H' → P H v → P H' v) (hn : n ≤ 1000) (h1 : S H1) (nD : H1 D = none) (hw : ∀ x, wipe ((wipe σ vs).set iv x) vs = wipe σ vs)
    (hte : ∀ (i : Nat) (H3 : Hp), i < n → S H3 → Kept st H1 H3 → ∀ Q' : VK, (∀ y H4, P H4 y → Kept st H3 H4 → S H4 → Q' y H4) → te ((wipe σ vs).set iv (some (.int (0 + (i : Nat))))) H3 Q')
    (hd : ∀ (H' : Hp) (xs : List V), xs.length = n → (∀ v ∈ xs, P H' v) → H' D = some (.lst xs) → Kept st H1 H' → S H' → Qd H') :
    ∃ W : Nat → Nat → Hp → Prop, (∃ m, W 0 m (upd H1 D (.lst []))) ∧ ∀ i m H, W i m H →
      ((Itr 0 n).stop i H ∧ Qd H) ∨ ((Itr 0 n).go i H ∧ ∃ Nx : Hp → Prop, (∀ H', Nx H' → ∃ m', m' < m ∧ W (i + 1) m' H') ∧ ∀ x H', (Itr 0 n).yld i H x H' → gName iv x (wipe σ vs) H' fun σ2 H2 => wipe σ2 vs = wipe σ vs ∧ tYes σ2 H2 fun b H3 =>
        if b = true then te σ2 H3 fun y H4 => ∃ acc, H4 D = some (.lst acc) ∧ acc.length < sizeLine ∧ Nx (upd H4 D (.lst (acc ++ [y]))) else Nx H3) := by
  have nst := (W.fresh H1 D h1 nD).1
  have put := (W.fresh H1 D h1 nD).2
  refine lc_range (fun i H' => ∃ xs : List V, H' D = some (.lst xs) ∧ xs.length = i ∧ (∀ v ∈ xs, P H' v) ∧ Kept st H1 H' ∧ S H') ⟨[], upd_same, rfl, by simp, Kept.new nD, W.new h1 nD⟩ ?_ ?_
  · rintro i H3 hi ⟨xs, f1, f2, f3, f4, f5⟩
    refine ⟨hw _, yes_ ?_⟩
    refine hte i H3 hi f5 f4 _ fun y H4 py k4 s4 => ?_
    have eD := k4 _ _ nst f1
    refine ⟨xs, eD, small1000 (by omega), xs ++ [y], upd_same, by simp [f2], fun v hv => ?_, Kept.over nD (f4.trans k4), put _ _ s4⟩
    refine mono _ _ v (Tups.lst eD) ?_
    rcases List.mem_append.mp hv with hv | hv
    · exact mono _ _ v (W.tups f5 k4) (f3 v hv)
    · rw [List.mem_singleton.mp hv]
      exact py
  · rintro H' ⟨xs, f1, f2, f3, f4, f5⟩
    exact hd H' xs f2 f3 f1 f4 f5
end XT

/-! the draws of the family «take» -/
namespace XT
open PySem PySem.Spec PyProof.Rows L2
/-- the state of the draws at st, its cells at c -/
def StAt (st c : Addr) (ns : List Int) (H : Hp) : Prop := ∃ (a i k sd n : Int),
  H st = some (.lst [.int a, .int i, .int k, .int sd, .ref c, .int n]) ∧ H c = some (.lst (ns.map V.int)) ∧ 0 ≤ i ∧ i ≤ ns.length ∧ c ≠ st
theorem drw (st c : Addr) (ns : List Int) : Drw st (StAt st c ns) where
  lst := fun H ⟨a, i, k, sd, n, e, _⟩ => ⟨_, e⟩
  fresh := fun H D ⟨a, i, k, sd, n, e1, e2, _⟩ hD => ⟨(ne_of_none e1 hD).symm, fun H' o ⟨a', i', k', sd', n', f1, f2, r⟩ =>
    ⟨a', i', k', sd', n', by rw [upd_ne (ne_of_none e1 hD)]; exact f1, by rw [upd_ne (ne_of_none e2 hD)]; exact f2, r⟩⟩
/-! texts of one sign -/
def One (v : V) : Prop := ∃ c : Nat, v = .str ⟨#[c]⟩
theorem one_len (c : Nat) : (⟨#[c]⟩ : Str).length = 1 := rfl
theorem ones_strs : ∀ {xs : List V}, (∀ v ∈ xs, One v) → ∃ ys : List Str, xs = ys.map V.str ∧ ∀ y ∈ ys, y.length ≤ 1
  | [], _ => ⟨[], rfl, by simp⟩
  | x :: xs, h => by
    obtain ⟨c, rfl⟩ := h x List.mem_cons_self
    obtain ⟨ys, rfl, h2⟩ := ones_strs fun v hv => h v (List.mem_cons_of_mem _ hv)
    refine ⟨⟨#[c]⟩ :: ys, rfl, fun y hy => ?_⟩
    rcases List.mem_cons.mp hy with rfl | hy
    · exact Nat.le_refl 1
    · exact h2 y hy
theorem ones_signs (z : Str) : ∀ v ∈ signsV z, One v := fun v hv => by
  obtain ⟨c, _, rfl⟩ := List.mem_map.mp hv
  exact ⟨c, rfl⟩
theorem empty_eq : (Str.ofString "") = Str.empty := by decide
theorem word_len {ys : List Str} {n : Nat} (hn : ys.length ≤ n) (h : ∀ y ∈ ys, y.length ≤ 1) : (Txt.join Str.empty ys).length ≤ n := by
  rw [join_len]
  have z := sum_le (l := ys.map (·.length)) (c := 1) fun x hx => by
    obtain ⟨y, hy, rfl⟩ := List.mem_map.mp hx
    exact h y hy
  rw [List.length_map] at z
  omega
theorem word_sum {ys : List Str} {n : Nat} (hn : ys.length ≤ n) (h : ∀ y ∈ ys, y.length ≤ 1) (h2 : n ≤ 1000) : (ys.map (·.length)).sum + ys.length * (Str.empty).length ≤ 16777216 := by
  have z := sum_le (l := ys.map (·.length)) (c := 1) fun x hx => by
    obtain ⟨y, hy, rfl⟩ := List.mem_map.mp hx
    exact h y hy
  rw [List.length_map] at z
  have e : (Str.empty).length = 0 := rfl
  rw [e]
  omega
/-- numbers of a list below a bound -/
def Nums (B : Nat) (v : V) : Prop := ∃ x : Nat, v = .int (x : Int) ∧ x < B
theorem nums_ints : ∀ {B : Nat} {xs : List V}, (∀ v ∈ xs, Nums B v) → ∃ l : List Nat, xs = intsV l ∧ ∀ x ∈ l, x < B
  | _, [], _ => ⟨[], rfl, by simp⟩
  | B, x :: xs, h => by
    obtain ⟨n, rfl, hn⟩ := h x List.mem_cons_self
    obtain ⟨l, rfl, h2⟩ := nums_ints (B := B) fun v hv => h v (List.mem_cons_of_mem _ hv)
    refine ⟨n :: l, rfl, fun y hy => ?_⟩
    rcases List.mem_cons.mp hy with rfl | hy
    · exact hn
    · exact h2 y hy
theorem seqIx {d : Int} {n : Nat} (h0 : 0 ≤ d) (h1 : d < (n : Int)) : seqIndex? d n = some d.toNat := by
  unfold seqIndex?
  simp
  omega
end XT

/-! max(xs, default=d) of a list of ints -/
namespace XT
open PySem PySem.Spec PyProof.Rows L2
abbrev dfl (d : Value) : List (Str × Value) := [(Str.ofString "default", d)]
theorem args_max_dfl (a d : Value) : argsOk "max" ⟨[a], dfl d⟩ := by unfold argsOk; kernel_rfl
theorem max_loop_name : (toString "max" ++ toString ".loop" : String) = "max.loop" := by decide
section
variable {prog : Program} {w : World} {A : Around} {R : Result → Shared → Prop} {I S : Addr} {fp wr : List Addr} {n : Nat} {St : Nat → Heap → Prop}
abbrev listObj (xs : Array Value) (c : Nat) : Obj := { cls := .type "list", dict := none, data := .seq xs c, slots := #[] }
theorem mxd_loop (kf : Nat → Int) (d : Value) (W : Walks prog w A.in1 I fp wr n (fun i v => ∃ t, v = .int (kf i) t) St) (hSf : S ∉ fp) :
    ∀ (k j i : Nat) (s : Shared) (tb : Tok) (c : Nat), n - (j + 1) = k → j + 1 ≤ n → i ≤ j → (∀ j', j' ≤ j → kf j' ≤ kf i) → St (j + 1) s.heap → s.heap.get? S = some (listObj #[.int (kf i) tb, .int (kf i) tb] c) →
    (∀ i h' tk t, i < n → (∀ j, j < n → kf j ≤ kf i) → (∀ b o, b ∉ wr → b ≠ S → s.heap.get? b = some o → h'.get? b = some o) → R (.ok (.ret (.int (kf i) t))) { s with heap := h', toks := tk }) →
    codeAny (model prog w) A (.builtin "max.loop" ⟨[.ref I, .none, .ref S], dfl d⟩) R s := by
  have hSw : S ∉ wr := fun h => hSf (W.sub _ h)
  intro k
  induction k with
  | zero =>
    intro j i s tb c hk hj hij hb hst hS hR
    have hin : j + 1 = n := by omega
    refine codeAny_builtin F.entry_max_loop ?_
    rw [Around.under_plainId F.plain_max_loop _]
    show wpAny _ A.in1 (seqItems? (.ref S) >>= _) _ _ s
    refine wpAny_bind (wpAny_seqItems hS rfl ?_)
    show wpAny _ A.in1 (tryCatch (pyNext (.ref I)) _ >>= _) _ _ s
    refine wpAny_bind (wpAny_tryCatch (W.done s _ _ (hin ▸ hst) fun h' tk hk' => ?_))
    have hS' := hk' S _ hSw hS
    show wpAny _ A.in1 (updateSeq S (fun _ => #[]) >>= _) _ _ _
    refine wpAny_bind ?_
    refine wpAny_updateSeq hS' rfl (wpAny_bind (wpAny_letGo (wpAny_pure ?_)))
    exact hR i _ tk tb (by omega) (fun j' h => hb j' (by omega)) fun b o hbw hbS e => (Heap.get?_update_other _ _ (Ne.symm hbS)).trans (hk' b o hbw e)
  | succ k ih =>
    intro j i s tb c hk hj hij hb hst hS hR
    have hlt : j + 1 < n := by omega
    refine codeAny_builtin F.entry_max_loop ?_
    rw [Around.under_plainId F.plain_max_loop _]
    show wpAny _ A.in1 (seqItems? (.ref S) >>= _) _ _ s
    refine wpAny_bind (wpAny_seqItems hS rfl ?_)
    show wpAny _ A.in1 (tryCatch (pyNext (.ref I)) _ >>= _) _ _ s
    refine wpAny_bind (wpAny_tryCatch (W.item (j + 1) s _ _ hlt hst fun v h' tk hP hst' hk' => ?_))
    obtain ⟨tv, rfl⟩ := hP
    have hS' := hk' S _ hSw hS
    show wpAny _ A.in1 (tryCatch (holding [.int (kf (j + 1)) tv, .int (kf (j + 1)) tv] (richCompare .Gt (.int (kf (j + 1)) tv) (.int (kf i) tb) >>= _)) _ >>= _) _ _ _
    refine wpAny_bind (wpAny_tryCatch (wpAny_holding (wpAny_bind (CmpOf.ints_gt (prog := prog) (w := w) (A := A.in1) (P := fun i v => ∃ t, v = .int (kf i) t) kf (fun i v h => h) (j + 1) i _ _ _ _ _ ⟨tv, rfl⟩ ⟨tb, rfl⟩ ?_))))
    refine wpAny_bind (wpAny_holding (wpAny_truthy_bool ?_))
    refine wpAny_bind (wpAny_letGo (wpAny_pure ?_))
    by_cases hc : kf (j + 1) > kf i
    · simp only [hc, decide_true, if_true]
      refine wpAny_bind ?_
      refine wpAny_updateSeq hS' rfl (wpAny_bind (wpAny_letGo ?_))
      rw [max_loop_name]
      refine wpAny_pure ⟨plainId_quiet F.plain_max_loop _, ih (j + 1) (j + 1) _ tv _ (by omega) hlt (Nat.le_refl _) (fun j' h => ?_) (W.frame _ _ _ hst' fun b hbf o e => ?_) (Heap.get?_update_self _ hS' rfl) fun i' h'' tk'' t' h1 h2 hk'' => ?_⟩
      · rcases Nat.lt_or_ge j' (j + 1) with h3 | h3
        · have := hb j' (by omega)
          omega
        · rw [show j' = j + 1 by omega]
          omega
      · exact (Heap.get?_update_other _ _ (fun h : S = b => hSf (by rw [h]; exact hbf))).trans e
      · exact hR i' h'' tk'' t' h1 h2 fun b o hbw hbS e => hk'' b o hbw hbS ((Heap.get?_update_other _ _ (Ne.symm hbS)).trans (hk' b o hbw e))
    · simp only [hc, decide_false, Bool.false_eq_true, if_false]
      refine wpAny_bind (wpAny_letGo ?_)
      rw [max_loop_name]
      refine wpAny_pure ⟨plainId_quiet F.plain_max_loop _, ih (j + 1) i _ tb c (by omega) hlt (by omega) (fun j' h => ?_) hst' hS' fun i' h'' tk'' t' h1 h2 hk'' => ?_⟩
      · rcases Nat.lt_or_ge j' (j + 1) with h3 | h3
        · exact hb j' (by omega)
        · rw [show j' = j + 1 by omega]
          omega
      · exact hR i' h'' tk'' t' h1 h2 fun b o hbw hbS e => hk'' b o hbw hbS (hk' b o hbw e)
theorem mxd_first (kf : Nat → Int) (d : Value) (W : Walks prog w A.in1 I fp wr n (fun i v => ∃ t, v = .int (kf i) t) St) (hSf : S ∉ fp) {s : Shared} {c : Nat} (hst : St 0 s.heap) (hS : s.heap.get? S = some (listObj #[] c))
    (h0 : n = 0 → ∀ h' tk, (∀ b o, b ∉ wr → b ≠ S → s.heap.get? b = some o → h'.get? b = some o) → R (.ok (.ret d)) { s with heap := h', toks := tk })
    (hR : ∀ i h' tk t, i < n → (∀ j, j < n → kf j ≤ kf i) → (∀ b o, b ∉ wr → b ≠ S → s.heap.get? b = some o → h'.get? b = some o) → R (.ok (.ret (.int (kf i) t))) { s with heap := h', toks := tk }) :
    codeAny (model prog w) A (.builtin "max.loop" ⟨[.ref I, .none, .ref S], dfl d⟩) R s := by
  have hSw : S ∉ wr := fun h => hSf (W.sub _ h)
  refine codeAny_builtin F.entry_max_loop ?_
  rw [Around.under_plainId F.plain_max_loop _]
  show wpAny _ A.in1 (seqItems? (.ref S) >>= _) _ _ s
  refine wpAny_bind (wpAny_seqItems hS rfl ?_)
  show wpAny _ A.in1 (tryCatch (pyNext (.ref I)) _ >>= _) _ _ s
  rcases Nat.eq_zero_or_pos n with hn | hn
  · subst hn
    refine wpAny_bind (wpAny_tryCatch (W.done s _ _ hst fun h' tk hk' => ?_))
    show wpAny _ A.in1 (rule _ >>= _) _ _ _
    refine wpAny_bind (wpAny_rule (wpAny_pure ?_))
    exact h0 rfl h' tk fun b o hbw _ e => hk' b o hbw e
  · refine wpAny_bind (wpAny_tryCatch (W.item 0 s _ _ hn hst fun v h' tk hP hst' hk' => ?_))
    obtain ⟨tv, rfl⟩ := hP
    have hS' := hk' S _ hSw hS
    show wpAny _ A.in1 (updateSeq S (fun _ => #[.int (kf 0) tv, .int (kf 0) tv]) >>= _) _ _ _
    refine wpAny_bind ?_
    refine wpAny_updateSeq hS' rfl ?_
    rw [max_loop_name]
    refine wpAny_pure ⟨plainId_quiet F.plain_max_loop _, mxd_loop kf d W hSf _ 0 0 _ tv _ rfl hn (Nat.le_refl _) (fun j' h => ?_) (W.frame _ _ _ hst' fun b hbf o e => ?_) (Heap.get?_update_self _ hS' rfl) fun i' h'' tk'' t' h1 h2 hk'' => ?_⟩
    · rw [show j' = 0 by omega]
      omega
    · exact (Heap.get?_update_other _ _ (fun h : S = b => hSf (by rw [h]; exact hbf))).trans e
    · exact hR i' h'' tk'' t' h1 h2 fun b o hbw hbS e => hk'' b o hbw hbS ((Heap.get?_update_other _ _ (Ne.symm hbS)).trans (hk' b o hbw e))
end
section
variable {prog : Program} {w : World} {A : Around} {E : Value → Shared → Prop} {s : Shared}
theorem call_max_dfl {l : Addr} {its : List Value} {ns : List Int} {d : Value} {Q : Value → Shared → Prop} (hh : A.handled = none) (hl : s.heap.IsList l its.toArray) (hi : IntsAre its ns)
    (h0 : ns = [] → ∀ h' tk, (∀ b o, s.heap.get? b = some o → h'.get? b = some o) → Q d { s with heap := h', toks := tk })
    (h : ∀ h' tk M t', (∀ b o, s.heap.get? b = some o → h'.get? b = some o) → M ∈ ns → (∀ a, a ∈ ns → a ≤ M) → Q (.int M t') { s with heap := h', toks := tk }) :
    wpAny (model prog w) A (call (.builtin "max") [.ref l] (dfl d)) Q E s := by
  obtain ⟨xs, e⟩ := hi.allInts.items
  have hn : numsOf (intItems xs).toList = ns := by rw [← e]; exact hi.numsOf
  rw [nums_intItems] at hn
  subst hn
  rw [e] at hl
  have hlt : l < s.heap.objs.size := by obtain ⟨_, e, _⟩ := hl; exact Heap.lt_size e
  refine kmk_tree F.kind_max F.plain_max F.entry_max (args_max_dfl _ _) ?_
  show wpAny _ A.in1 (Builtin.Builtins.bindParams "max" ["key", "default"] 0 ⟨[], dfl d⟩ >>= _) _ _ s
  refine wpAny_bind (wpAny_of_eq (show Builtin.Builtins.bindParams "max" ["key", "default"] 0 ⟨[], dfl d⟩ = pure [none, some d] from rfl) ?_)
  refine wpAny_bind (wpAny_pure ?_)
  refine wpAny_bind (wpAny_pyIter_list hl ?_)
  refine wpAny_bind (wpAny_newList ?_ (Nat.zero_le _))
  rw [max_loop_name]
  have hI : (s.heap.push { cls := .type "list_iterator", data := .fields #[.ref l, .int 0 0] }).get? s.heap.objs.size = some { cls := .type "list_iterator", data := .fields #[.ref l, .int 0 0] } := Heap.get?_push_size _ rfl
  have hz : (s.heap.push { cls := .type "list_iterator", data := .fields #[.ref l, .int 0 0] }).objs.size = s.heap.objs.size + 1 := Heap.size_push ..
  have sz : (intItems xs).size = xs.size := by simp [intItems]
  have hP : ∀ (i : Nat) (v : Value), (intItems xs)[i]? = some v → ∃ t, v = .int (numAt xs i) t := fun i v => intItems_at
  have W := Walks.list (prog := prog) (w := w) (A := A.in1) hh s.heap.objs.size l (Nat.ne_of_lt hlt) (intItems xs)
  refine wpAny_pure ⟨plainId_quiet F.plain_max_loop _, mxd_first (n := (intItems xs).size) (S := (s.heap.push { cls := .type "list_iterator", data := .fields #[.ref l, .int 0 0] }).objs.size) (I := s.heap.objs.size) (numAt xs) d ⟨W.sub, W.frame, fun i s Q E hi st hQ => W.item i s Q E hi st fun v h' tk p => hQ v h' tk (hP i v p), W.done, W.self⟩ ?_ ?_ (Heap.get?_push_size _ rfl) (fun hn h' tk hk => ?_) fun i h' tk t hin hb hk => ?_⟩
  · rw [hz]
    intro hm
    rcases List.mem_cons.mp hm with e1 | hm
    · exact Nat.succ_ne_self _ e1
    · rw [← List.mem_singleton.mp hm] at hlt
      exact Nat.not_succ_lt_self hlt
  · refine W.frame _ _ _ (?_ : _ ∧ _) fun b _ o e => Heap.get?_push_of_some _ e
    exact ⟨⟨_, hI, rfl, rfl⟩, hl.push _⟩
  · have hold : ∀ b o, s.heap.get? b = some o → h'.get? b = some o := fun b o e => hk b o (fun hm => Nat.ne_of_lt (Heap.lt_size e) (List.mem_singleton.mp hm)) (by rw [hz]; exact Nat.ne_of_lt (Nat.lt_succ_of_lt (Heap.lt_size e))) (Heap.get?_push_of_some _ (Heap.get?_push_of_some _ e))
    refine h0 ?_ h' tk hold
    rw [sz] at hn
    have : xs = #[] := Array.eq_empty_of_size_eq_zero hn
    rw [this]
    rfl
  · have hold : ∀ b o, s.heap.get? b = some o → h'.get? b = some o := fun b o e => hk b o (fun hm => Nat.ne_of_lt (Heap.lt_size e) (List.mem_singleton.mp hm)) (by rw [hz]; exact Nat.ne_of_lt (Nat.lt_succ_of_lt (Heap.lt_size e))) (Heap.get?_push_of_some _ (Heap.get?_push_of_some _ e))
    rw [sz] at hin hb
    refine h h' tk _ t hold ?_ fun a ha => ?_
    · rw [numAt_eq]; exact PySem.getD_mem (by rw [List.length_map, Array.length_toList]; omega)
    · obtain ⟨j, hj, rfl⟩ := mem_getD ha
      rw [List.length_map, Array.length_toList] at hj
      rw [← numAt_eq]; exact hb j (by omega)
end
section
variable {X : Cx}
def rMaxDef (K : PySem.W.Frag) : List V → List V → Hp → VK → Prop := fun vs zs H Q => ∃ (a : Addr) (ns : List Int) (d : V), vs = [V.ref a] ∧ zs = [d] ∧ SqL K H a (ns.map V.int) ∧ (ns = [] → Q d H) ∧ ∀ m, m ∈ ns → (∀ y, y ∈ ns → y ≤ m) → Q (.int m) H
theorem cr_maxDef (hc : X.calm = true) : CallRK X (.builtin "max") [Str.ofString "default"] (rMaxDef X.K) := by
  intro pins s σ H vs zs us ws Q I r rz h
  obtain ⟨a, ns, d, rfl, rfl, hs, q0, q⟩ := h
  obtain ⟨its, rv, hl, _⟩ := I.list hs
  obtain ⟨wd, rfl, rd⟩ := vals1 rz
  rw [Vals.ref1 r]
  exact call_max_dfl (I.ok.hd hc) hl.isList rv.ints (fun e h' tk hk => ⟨d, H, I.kept hk, rd, q0 e⟩) fun h' tk m t' hk h1 h2 => ⟨.int _, H, I.kept hk, ⟨_, rfl⟩, q m h1 h2⟩
end
end XT

/-! the draws of the family «box», relations in a row -/
namespace XT
open PySem PySem.Spec PyProof.Rows L2
/-- the box at bx, its numbers at c -/
def BoxAt (bx c : Addr) (ns : List Int) (H : Hp) : Prop := ∃ (l d a dr sd : Int),
  H bx = some (.lst [.int l, .int d, .int a, .int dr, .int sd, .ref c]) ∧ H c = some (.lst (ns.map V.int)) ∧ 0 ≤ l ∧ 0 ≤ a ∧ a ≤ ns.length ∧ c ≠ bx
theorem drwB (bx c : Addr) (ns : List Int) : Drw bx (BoxAt bx c ns) where
  lst := fun H ⟨a, i, k, sd, n, e, _⟩ => ⟨_, e⟩
  fresh := fun H D ⟨a, i, k, sd, n, e1, e2, _⟩ hD => ⟨(ne_of_none e1 hD).symm, fun H' o ⟨a', i', k', sd', n', f1, f2, r⟩ =>
    ⟨a', i', k', sd', n', by rw [upd_ne (ne_of_none e1 hD)]; exact f1, by rw [upd_ne (ne_of_none e2 hD)]; exact f2, r⟩⟩
theorem BoxAt.same {bx c : Addr} {ns : List Int} {H H' : Hp} (e : Same H H') (h : BoxAt bx c ns H) : BoxAt bx c ns H' := by
  obtain ⟨x1, x2, x3, x4, x5, e1, e2, r⟩ := h
  exact ⟨x1, x2, x3, x4, x5, e _ _ e1, e _ _ e2, r⟩
abbrev RP := (Addr × Addr) × (Str × List Nat)
def RelOne (K : PySem.W.Frag) (H : Hp) (q : RP) : Prop := SqT K H q.1.1 [.str q.2.1, .ref q.1.2] ∧ SqT K H q.1.2 (intsV q.2.2)
def relV (ps : List RP) : List V := ps.map fun q => V.ref q.1.1
def RelsAt (K : PySem.W.Frag) (H : Hp) (rt : Addr) (ps : List RP) : Prop := SqT K H rt (relV ps) ∧ ∀ q ∈ ps, RelOne K H q
def RelOk (q : RP) : Prop := 1 ≤ q.2.1.length ∧ q.2.1.length ≤ 8 ∧ 1 ≤ q.2.2.length ∧ q.2.2.length ≤ 4
theorem RelOne.tups {K : PySem.W.Frag} {H H' : Hp} {q : RP} (e : Tups H H') (h : RelOne K H q) : RelOne K H' q := ⟨e _ _ _ h.1, e _ _ _ h.2⟩
theorem RelsAt.tups {K : PySem.W.Frag} {H H' : Hp} {rt : Addr} {ps : List RP} (e : Tups H H') (h : RelsAt K H rt ps) : RelsAt K H' rt ps := ⟨e _ _ _ h.1, fun q hq => (h.2 q hq).tups e⟩
theorem relV_get {ps : List RP} {i : Nat} {v : V} (h : (relV ps)[i]? = some v) : ∃ q, ps[i]? = some q ∧ v = .ref q.1.1 := by
  unfold relV at h
  rw [List.getElem?_map] at h
  obtain ⟨q, hq, rfl⟩ := Option.map_eq_some_iff.mp h
  exact ⟨q, hq, rfl⟩
theorem relV_len (ps : List RP) : (relV ps).length = ps.length := List.length_map _
/-! slices of tuples and their sums, whichever tuple comes -/
theorem slA_any {K : PySem.W.Frag} {a : Addr} {xs : List V} {lo hi : Option Int} {H : Hp} {Q : VK} (h : SqT K H a xs) (q : ∀ p H', Same H H' → SqT K H' p (cutV xs lo hi) → Q (.ref p) H') : rSlA K (.ref a) lo hi H Q := by
  refine ⟨a, xs, rfl, h, fun w => q a H (Same.refl H) ?_, fun _ p np => q p _ (same_new np) (.inl (.inl upd_same))⟩
  unfold cutV
  rw [w.1, w.2, Nat.sub_zero, List.drop_zero, List.take_length]
  exact h
theorem slA_end {K : PySem.W.Frag} {a : Addr} {xs : List V} {lo : Option Int} {σ : L2.St} {H : Hp} {Q : VK} (h : SqT K H a xs) (q : ∀ p H', Same H H' → SqT K H' p (cutV xs lo none) → Q (.ref p) H') : tNoPart σ H (fun u H3 => rSlA K (.ref a) lo u H3 Q) := slA_any h q
theorem catA_any {K : PySem.W.Frag} {a b : Addr} {xs ys : List V} {H : Hp} {Q : VK} (ha : SqT K H a xs) (hb : SqT K H b ys) (hl : xs.length + ys.length ≤ sizeLine) (q : ∀ p H', Same H H' → SqT K H' p (xs ++ ys) → Q (.ref p) H') : rCatA K (.ref a) (.ref b) H Q := by
  refine ⟨a, b, xs, ys, rfl, rfl, ha, hb, hl, fun e => q b H (Same.refl H) ?_, fun _ e => q a H (Same.refl H) ?_, fun _ _ p np => q p _ (same_new np) (.inl (.inl upd_same))⟩
  · rw [e]
    exact hb
  · rw [e, List.append_nil]
    exact ha
theorem cutV_take {xs : List V} {j : Nat} (h : j ≤ xs.length) : cutV xs none (some (j : Int)) = xs.take j := by
  unfold cutV
  rw [HT.sIx_nat, HT.sIx_none, Nat.sub_zero, List.drop_zero, Nat.min_eq_left h]
theorem cutV_drop {xs : List V} {j : Nat} (h : j ≤ xs.length) : cutV xs (some (j : Int)) none = xs.drop j := by
  unfold cutV
  rw [HT.sIx_nat, HT.sIx_none, Nat.min_eq_left h, ← List.length_drop, List.take_length]
/-! what the law reckons -/
def hasW (ps : List RP) (n : Nat) : Bool := ps.any fun q => decide (q.2.2.length = n)
def widthOf (ps : List RP) : Nat := if hasW ps 4 then 4 else if hasW ps 3 then 3 else if hasW ps 2 then 2 else 1
theorem hasW_iff {ps : List RP} {n : Nat} : hasW ps n = true ↔ ∃ q ∈ ps, q.2.2.length = n := by
  unfold hasW
  rw [List.any_eq_true]
  constructor
  · rintro ⟨q, h, e⟩
    exact ⟨q, h, of_decide_eq_true e⟩
  · rintro ⟨q, h, e⟩
    exact ⟨q, h, decide_eq_true e⟩
def lensV (ps : List RP) : List Int := ps.map fun q => (q.2.2.length : Int)
theorem width_max {ps : List RP} (hok : ∀ q ∈ ps, RelOk q) {m : Int} (hm : m ∈ lensV ps) (hb : ∀ y, y ∈ lensV ps → y ≤ m) : m = (widthOf ps : Nat) := by
  obtain ⟨q, hq, rfl⟩ := List.mem_map.mp hm
  have le : ∀ p ∈ ps, p.2.2.length ≤ q.2.2.length := fun p hp => by
    have := hb _ (List.mem_map.mpr ⟨p, hp, rfl⟩)
    omega
  obtain ⟨_, _, h1, h4⟩ := hok q hq
  have no : ∀ n, q.2.2.length < n → hasW ps n = false := fun n h => by
    cases e : hasW ps n with
    | false => rfl
    | true =>
      obtain ⟨p, hp, ep⟩ := hasW_iff.mp e
      have := le p hp
      omega
  have yes : hasW ps q.2.2.length = true := hasW_iff.mpr ⟨q, hq, rfl⟩
  unfold widthOf
  have cs : q.2.2.length = 1 ∨ q.2.2.length = 2 ∨ q.2.2.length = 3 ∨ q.2.2.length = 4 := by omega
  rcases cs with e | e | e | e
  · rw [no 4 (by omega), no 3 (by omega), no 2 (by omega), e]
    rfl
  · rw [e] at yes
    rw [no 4 (by omega), no 3 (by omega), yes, e]
    rfl
  · rw [e] at yes
    rw [no 4 (by omega), yes, e]
    rfl
  · rw [e] at yes
    rw [yes, e]
    rfl
theorem width_none : widthOf [] = 1 := rfl
/-- where the name stands -/
def isAt (ps : List RP) (z : Str) (k : Nat) : Bool := match ps[k]? with
  | some q => decide (q.2.1 = z)
  | none => false
def foundAt (ps : List RP) (z : Str) : List Nat := (List.range ps.length).filter (isAt ps z)
def placeD (ps : List RP) (z : Str) : PyData := match foundAt ps z with
  | [] => .none
  | k :: _ => .int (k : Nat)
def placeV (ps : List RP) (z : Str) : V := match foundAt ps z with
  | [] => .non
  | k :: _ => .int (k : Nat)
theorem place_dp {K : PySem.W.Frag} {H : Hp} (ps : List RP) (z : Str) : Dp K H (placeV ps z) (placeD ps z) := by
  unfold placeV placeD
  split <;> rename_i e
  · exact .non
  · exact .int _
theorem place_first {ps : List RP} {z : Str} {i : Nat} {q : RP} (h : ps[i]? = some q) (e : q.2.1 = z) (no : ∀ j, j < i → isAt ps z j = false) : placeV ps z = .int (i : Nat) := by
  have hi : i < ps.length := (List.getElem?_eq_some_iff.mp h).1
  have yes : isAt ps z i = true := by
    unfold isAt
    rw [h]
    exact decide_eq_true e
  have hf : (foundAt ps z).head? = some i := by
    unfold foundAt
    rw [List.head?_filter, List.find?_range_eq_some]
    exact ⟨yes, List.mem_range.mpr hi, fun j hj => by rw [no j hj]; rfl⟩
  unfold placeV
  cases ef : foundAt ps z with
  | nil => rw [ef] at hf; cases hf
  | cons k l =>
    rw [ef] at hf
    cases (show some k = some i from hf)
    rfl
theorem place_none {ps : List RP} {z : Str} (no : ∀ j, j < ps.length → isAt ps z j = false) : placeV ps z = .non := by
  have hf : foundAt ps z = [] := by
    unfold foundAt
    rw [List.filter_eq_nil_iff]
    intro j hj e
    rw [no j (List.mem_range.mp hj)] at e
    cases e
  unfold placeV
  rw [hf]
/-! texts -/
def Wd (v : V) : Prop := ∃ z : Str, v = .str z ∧ 1 ≤ z.length ∧ z.length ≤ 8
theorem wds : ∀ {xs : List V}, (∀ v ∈ xs, Wd v) → ∃ l : List Str, xs = l.map V.str ∧ ∀ x ∈ l, 1 ≤ x.length ∧ x.length ≤ 8
  | [], _ => ⟨[], rfl, by simp⟩
  | x :: xs, h => by
    obtain ⟨n, rfl, hn⟩ := h x List.mem_cons_self
    obtain ⟨l, rfl, h2⟩ := wds fun v hv => h v (List.mem_cons_of_mem _ hv)
    refine ⟨n :: l, rfl, fun y hy => ?_⟩
    rcases List.mem_cons.mp hy with rfl | hy
    · exact hn
    · exact h2 y hy
theorem word_lenE {ys : List Str} {n : Nat} (hn : ys.length = n) (h : ∀ y ∈ ys, y.length = 1) : (Txt.join Str.empty ys).length = n := by
  rw [join_len]
  subst hn
  induction ys with
  | nil => rfl
  | cons y ys ih =>
    rw [List.map_cons, List.sum_cons, ih fun z hz => h z (List.mem_cons_of_mem _ hz), h y List.mem_cons_self, List.length_cons]
    omega
theorem ones_strs1 : ∀ {xs : List V}, (∀ v ∈ xs, One v) → ∃ ys : List Str, xs = ys.map V.str ∧ ∀ y ∈ ys, y.length = 1
  | [], _ => ⟨[], rfl, by simp⟩
  | x :: xs, h => by
    obtain ⟨c, rfl⟩ := h x List.mem_cons_self
    obtain ⟨ys, rfl, h2⟩ := ones_strs1 fun v hv => h v (List.mem_cons_of_mem _ hv)
    refine ⟨⟨#[c]⟩ :: ys, rfl, fun y hy => ?_⟩
    rcases List.mem_cons.mp hy with rfl | hy
    · rfl
    · exact h2 y hy
theorem cutS_take7 (z : Str) : (cutS z none (some 7)).length ≤ 7 := by
  show (((z.cps.toList.drop (HT.sIx z.length 0 none)).take (HT.sIx z.length z.length (some 7) - HT.sIx z.length 0 none)).toArray).size ≤ 7
  rw [List.size_toArray, List.length_take]
  have : HT.sIx z.length z.length (some 7) ≤ 7 := by
    unfold HT.sIx
    simp
    omega
  omega
theorem flat_strs (l : List Str) : (l.map V.str).all flatV = true := by
  rw [List.all_eq_true]
  intro v hv
  obtain ⟨z, _, rfl⟩ := List.mem_map.mp hv
  rfl
end XT

/-! sorted of data: lists, tuples, sets of tuples of ints -/
namespace XT
open PySem PySem.Spec PyProof.Rows L2 PySem.W
mutual
theorem reads_old {h : Heap} : ∀ {v : Value} {d : PyData} {as : List Addr}, Reads h v d as → ∀ a ∈ as, ∃ o, h.get? a = some o
  | _, _, _, .none, a, ha => by cases ha
  | _, _, _, .bool _, a, ha => by cases ha
  | _, _, _, .int _ _, a, ha => by cases ha
  | _, _, _, .str _ _, a, ha => by cases ha
  | _, _, _, .list h1 h2 h3 h4, a, ha => by
    rcases List.mem_cons.mp ha with rfl | ha
    · exact ⟨_, h1⟩
    · exact readsAll_old h4 a ha
  | _, _, _, .tuple h1 h2 h3 h4, a, ha => readsAll_old h4 a ha
  | _, _, _, .dict h1 h2 h3 h4 h5, a, ha => by
    rcases List.mem_append.mp ha with ha | ha
    · rcases List.mem_cons.mp ha with rfl | ha
      · exact ⟨_, h1⟩
      · exact readsAll_old h4 a ha
    · exact readsAll_old h5 a ha
theorem readsAll_old {h : Heap} : ∀ {vs : List Value} {ds : List PyData} {as : List Addr}, ReadsAll h vs ds as → ∀ a ∈ as, ∃ o, h.get? a = some o
  | _, _, _, .nil, a, ha => by cases ha
  | _, _, _, .cons h1 h2, a, ha => by
    rcases List.mem_append.mp ha with ha | ha
    · exact reads_old h1 a ha
    · exact readsAll_old h2 a ha
end
theorem perm_map_inv {α β : Type} {f : α → β} {k l' : List β} (p : l'.Perm k) : ∀ l : List α, k = l.map f → ∃ m : List α, m.Perm l ∧ l' = m.map f := by
  induction p with
  | nil =>
    intro l e
    have : l = [] := List.map_eq_nil_iff.mp e.symm
    subst this
    exact ⟨[], .refl _, rfl⟩
  | cons x _ ih =>
    intro l e
    cases l with
    | nil => cases e
    | cons a l =>
      injection e with e1 e2
      obtain ⟨m, pm, em⟩ := ih l e2
      exact ⟨a :: m, pm.cons a, by rw [List.map_cons, ← em, e1]⟩
  | swap x y t =>
    intro l e
    match l, e with
    | a :: b :: l, e =>
      injection e with e1 e2
      injection e2 with e2 e3
      exact ⟨b :: a :: l, .swap _ _ _, by rw [List.map_cons, List.map_cons, ← e1, ← e2, ← e3]⟩
  | trans _ _ ih1 ih2 =>
    intro l e
    obtain ⟨m, pm, em⟩ := ih2 l e
    obtain ⟨m2, pm2, em2⟩ := ih1 m em
    exact ⟨m2, pm2.trans pm, em2⟩
theorem each_perm {β : Type} {R : Value → β → Prop} {vs : List Value} {bs : List β} (e : EachIs R vs bs) : ∀ b ∈ bs, ∃ v, R v b := by
  induction e with
  | nil => intro b hb; cases hb
  | cons h _ ih =>
    intro b hb
    rcases List.mem_cons.mp hb with rfl | hb
    · exact ⟨_, h⟩
    · exact ih b hb
theorem AllAlike.perm {β : Type} {enc : β → PyData} {bs bs' : List β} (p : bs'.Perm bs) (h : AllAlike (bs.map enc)) : AllAlike (bs'.map enc) := fun d hd d' hd' =>
  h d ((p.map enc).mem_iff.mp hd) d' ((p.map enc).mem_iff.mp hd')
theorem Sortable.perm {β : Type} {enc : β → PyData} {bs bs' : List β} (p : bs'.Perm bs) (h : Sortable (bs.map enc)) : Sortable (bs'.map enc) := by
  rcases h with h | h
  · exact .inl fun d hd => h d ((p.map enc).mem_iff.mp hd)
  · exact .inr fun d hd => h d ((p.map enc).mem_iff.mp hd)
section
variable {P : Program} {w : World} {A : Around} {E : Value → Shared → Prop} {s : Shared} {β : Type} {bs : List β} {enc : β → PyData} {R : Value → β → Prop}
/-- sorted of what is gathered -/
theorem sorted_from {x : Value} {Q : Value → Shared → Prop} (C : List β → Prop) (hC : ∀ bs', C bs' → bs'.Perm bs)
    (hcol : ∀ Q' : List Value → Shared → Prop, (∀ s1 vs bs', (∀ b o, s.heap.get? b = some o → s1.heap.get? b = some o) → s.heap.objs.size ≤ s1.heap.objs.size → s1.gens = s.gens → s1.os = s.os → C bs' → EachIs R vs bs' → Q' vs s1) → wpAny (model P w) A.in1 (collect x) Q' E s)
    (hread : ∀ v b, R v b → ∃ as, Reads s.heap v (enc b) as) (hal : AllAlike (bs.map enc)) (hk : Sortable (bs.map enc)) (hL : bs.length ≤ sizeLine) (hu : ∀ b, b ∈ bs → A.units + 2 + (enc b).depth < cLine)
    (hQ : ∀ s' p (out : Array Value) (c : Nat) bs', (∀ b o, s.heap.get? b = some o → s'.heap.get? b = some o) → s'.gens = s.gens → s'.os = s.os → s.heap.objs.size ≤ p → s'.heap.get? p = some (seqObj "list" out c) → C bs' →
      EachIs R out.toList (bs'.mergeSort (dataLe false enc)) → Q (.ref p) s') :
    wpAny (model P w) A (call (.builtin "sorted") [x]) Q E s := by
  refine Calls.call_function_entry kind_sorted plain_sorted entry_sorted (args_sorted1 _) ?_
  unfold Builtin.«sorted»
  refine wpAny_bind (m := checkCount "sorted" 1 1 _) (wpAny_pure ?_)
  refine wpAny_bind (hcol _ fun s1 vs bs' k1 hz g1 o1 hc e => ?_)
  have pm := hC bs' hc
  have hlb : bs'.length ≤ sizeLine := by rw [pm.length_eq]; exact hL
  have hlv : vs.length ≤ sizeLine := by rw [e.length]; exact hlb
  refine wpAny_bind (wpAny_newList ?_ hlv)
  have hoL : (s1.heap.push (seqObj "list" vs.toArray 0)).get? s1.heap.objs.size = some (seqObj "list" vs.toArray 0) := Heap.get?_push_size _ rfl
  have keep : ∀ b o, s.heap.get? b = some o → (s1.heap.push (seqObj "list" vs.toArray 0)).get? b = some o := fun b o q => Heap.get?_push_of_some _ (k1 b o q)
  have er : EachIs (fun v b => ∃ as, Reads (s1.heap.push (seqObj "list" vs.toArray 0)) v (enc b) as ∧ s1.heap.objs.size ∉ as) vs bs' := e.mono fun v b r => by
    obtain ⟨as, q⟩ := hread v b r
    refine ⟨as, PyProof.Rows.Reads.keeps keep q, fun hm => ?_⟩
    obtain ⟨o, ho⟩ := reads_old q _ hm
    exact absurd (Nat.lt_of_lt_of_le (Heap.lt_size ho) hz) (Nat.lt_irrefl _)
  refine wpAny_bind (wpAny_holding (list_sort_data (s := { s1 with heap := s1.heap.push (seqObj "list" vs.toArray 0) }) (R := R) hoL e er (AllAlike.perm pm hal) (Sortable.perm pm hk) hlb (fun b hb => ?_) fun out hlen hout => ?_))
  · have := hu b (pm.mem_iff.mp hb)
    show A.units + 1 + 1 + (enc b).depth < cLine
    omega
  · obtain ⟨c, hc2⟩ := sortedHeap_at (vs := vs) (out := List.toArray out) hoL
    refine wpAny_pure ⟨_, rfl, hQ _ s1.heap.objs.size (List.toArray out) c bs' (fun b u q => ?_) g1 o1 hz hc2 hc (by simpa using hout)⟩
    have q2 := k1 b u q
    have hlt := Heap.lt_size q2
    show (sortedHeap (s1.heap.push (seqObj "list" vs.toArray 0)) s1.heap.objs.size vs (List.toArray out)).get? b = some u
    rw [sortedHeap_old (Nat.ne_of_lt hlt) (by rw [size_push']; exact Nat.lt_succ_of_lt hlt)]
    exact Heap.get?_push_of_some _ q2
end
theorem each_vals {h : Heap} : ∀ {out : List Value} {l : List (V × PyData)}, EachIs (fun v b => RelV b.1 v ∧ ∃ as, Reads h v b.2 as) out l → Vals (l.map (·.1)) out
  | _, _, .nil => .nil
  | _, _, .cons h t => .cons h.1 (each_vals t)
section
variable {X : Cx}
theorem vals_each {pins : List (Addr × Obj)} {σ : L2.St} {H : Hp} {s : Shared} (I : Inv X pins σ H s) : ∀ {bs : List (V × PyData)} {us : List Value}, Vals (bs.map (·.1)) us → (∀ b ∈ bs, Dp X.K H b.1 b.2) →
    EachIs (fun v b => RelV b.1 v ∧ ∃ as, Reads s.heap v b.2 as) us bs
  | [], _, .nil, _ => .nil
  | b :: bs, _, .cons r t, h => .cons ⟨r, Dp.reads I b.2 b.1 _ (h b List.mem_cons_self) r⟩ (vals_each I t fun c hc => h c (List.mem_cons_of_mem _ hc))
/-- sorted(xs) of a list of data -/
def rSortedD (K : PySem.W.Frag) : List V → Hp → VK → Prop := fun vs H Q => ∃ (a : Addr) (bs : List (V × PyData)), vs = [V.ref a] ∧ SqL K H a (bs.map (·.1)) ∧ (∀ b ∈ bs, Dp K H b.1 b.2) ∧ AllAlike (bs.map (·.2)) ∧ Sortable (bs.map (·.2)) ∧ (∀ b ∈ bs, b.2.depth ≤ 50) ∧
  ∀ p, H p = none → Q (.ref p) (upd H p (.lst ((bs.mergeSort (dataLe false (·.2))).map (·.1))))
theorem cr_sortedD (hu : X.A.units + 64 < cLine) : CallR X (.builtin "sorted") (rSortedD X.K) := by
  intro pins s σ H vs us Q I r h
  obtain ⟨a, bs, rfl, hs, hd, hal, hk, hdep, q⟩ := h
  obtain ⟨its, rv, hl, hz⟩ := I.list hs
  rw [List.length_map] at hz
  rw [Vals.ref1 r]
  have e0 := vals_each I rv hd
  refine sorted_from (R := fun v b => RelV b.1 v ∧ ∃ as, Reads s.heap v b.2 as) (bs := bs) (enc := fun b => b.2) (fun bs' => bs' = bs) (fun bs' e => by rw [e]) (fun Q' k => ?_) (fun v b r => r.2) hal hk hz (fun b hb => by have := hdep b hb; omega) fun s' p out c bs' k g o hp hg hc he => ?_
  · refine collect_list hl.isList (k _ its bs (fun b o q => ?_) ?_ rfl rfl rfl e0) (by rw [e0.length]; exact hz)
    · have hlt : b < s.heap.objs.size := Heap.lt_size q
      show ((s.heap.push (seqObj "list" #[] 0)).update s.heap.objs.size (Obj.mapSeq (· ++ its.toArray))).get? b = some o
      rw [Heap.get?_update_ne _ _ _ _ (Nat.ne_of_lt hlt)]
      exact Heap.get?_push_of_some _ q
    · show s.heap.objs.size ≤ ((s.heap.push (seqObj "list" #[] 0)).update s.heap.objs.size (Obj.mapSeq (· ++ its.toArray))).objs.size
      rw [Heap.size_update, size_push']
      exact Nat.le_succ _
  · subst hc
    have hn : H p = none := I.hok.fresh hp
    have hv := each_vals he
    have hlen : ((bs'.mergeSort (dataLe false fun b => b.2)).map (·.1)).length ≤ sizeLine := by rw [List.length_map, List.length_mergeSort]; exact hz
    have J : Inv X pins σ (upd H p (.lst ((bs'.mergeSort (dataLe false fun b => b.2)).map (·.1)))) { s with heap := s'.heap, gens := s'.gens, drawn := s'.drawn, toks := s'.toks } :=
      I.call (ch := []) (Un.laid k hp hn) (I.hok.laid k hp ⟨hlen, out.toList, c, hv, hg⟩) (by rw [g]; exact I.bare) (fun _ z => nomatch z)
    have e : s' = { s with heap := s'.heap, gens := s'.gens, drawn := s'.drawn, toks := s'.toks } := by
      cases s'
      cases s
      cases o
      rfl
    rw [e]
    exact ⟨.ref p, _, J, rfl, q p hn⟩
end
end XT
namespace XT
open PySem PySem.Spec PyProof.Rows L2 PySem.W
/-- an address of a tuple of ints, as data -/
def tupD (q : Addr × List Int) : V × PyData := (V.ref q.1, .tuple (q.2.map .int))
theorem tupD_le (p q : Addr × List Int) : dataLe false (fun b : V × PyData => b.2) (tupD p) (tupD q) = decide (p.2 ≤ q.2) := by
  show (!dataLt (.tuple (q.2.map .int)) (.tuple (p.2.map .int))) = _
  rw [dataLt_tuple]
  show (!rowLt (q.2.map .int) (p.2.map .int)) = _
  rw [dataLt_ints]
  by_cases h : q.2 < p.2
  · have h' : ¬ p.2 ≤ q.2 := fun r => List.not_lt.mpr r h
    simp [h, h']
  · have h' : p.2 ≤ q.2 := List.not_lt.mp h
    simp [h, h']
theorem tupD_dpAll {K : PySem.W.Frag} {H : Hp} : ∀ (l : List Int), DpAll K H (l.map V.int) (l.map .int)
  | [] => .nil
  | _ :: l => .cons (.int _) (tupD_dpAll l)
theorem tupD_dp {K : PySem.W.Frag} {H : Hp} {q : Addr × List Int} (h : SqT K H q.1 (q.2.map V.int)) : Dp K H (tupD q).1 (tupD q).2 := .tup h (tupD_dpAll _)
theorem tupD_depth (q : Addr × List Int) : (tupD q).2.depth ≤ 50 := by
  show (PyData.tuple (q.2.map .int)).depth ≤ 50
  rw [PyData.depth, depth_ints]
  decide
theorem tupD_alike (L : List (Addr × List Int)) : AllAlike ((L.map tupD).map (·.2)) := by
  intro d hd d' hd'
  rw [List.map_map] at hd hd'
  obtain ⟨b, _, rfl⟩ := List.mem_map.mp hd
  obtain ⟨b', _, rfl⟩ := List.mem_map.mp hd'
  show alike (.tuple (b.2.map .int)) (.tuple (b'.2.map .int)) = true
  rw [alike, alike_ints]
theorem tupD_sortable {L : List (Addr × List Int)} (h : ∀ p ∈ L, p.2 ≠ []) : Sortable ((L.map tupD).map (·.2)) := by
  refine .inl fun d hd => ?_
  rw [List.map_map] at hd
  obtain ⟨b, hb, rfl⟩ := List.mem_map.mp hd
  match hb2 : b.2, h b hb with
  | [], e => exact absurd rfl e
  | x :: r, _ => exact ⟨.int x, r.map .int, by show PyData.tuple (b.2.map .int) = _; rw [hb2]; rfl⟩
theorem sorted_rows (L : List (Addr × List Int)) : ∃ L' : List (Addr × List Int), L'.Perm L ∧ L'.Pairwise (fun q r => q.2 ≤ r.2) ∧ (L.map tupD).mergeSort (dataLe false (·.2)) = L'.map tupD := by
  have T := sortLe_total (listOrd itemOrd) false fun b : V × PyData => keyToks b.2
  have pm := List.mergeSort_perm (L.map tupD) (dataLe false fun b : V × PyData => b.2)
  obtain ⟨L', p1, e⟩ := perm_map_inv pm L rfl
  refine ⟨L', p1, ?_, e⟩
  have pw := List.pairwise_mergeSort (le := dataLe false fun b : V × PyData => b.2) T.trans (fun a b => by rw [Bool.or_eq_true]; exact T.total a b) (L.map tupD)
  rw [e, List.pairwise_map] at pw
  exact pw.imp fun {a b} h => by
    rw [tupD_le] at h
    exact of_decide_eq_true h
section
variable {X : Cx}
/-- sorted(set) of tuples of ints, none empty -/
def rSortedTD (K : PySem.W.Frag) (P : Program) (w : World) : List V → Hp → VK → Prop := fun vs H Q => ∃ (a : Addr) (L : List (Addr × List Int)), vs = [V.ref a] ∧ H a = some (SetTO P w a L) ∧ (∀ p ∈ L, SqT K H p.1 (p.2.map V.int)) ∧ (∀ p ∈ L, p.2 ≠ []) ∧
  ∀ (L' : List (Addr × List Int)) (p : Addr), L'.Perm L → L'.Pairwise (fun q r => q.2 ≤ r.2) → (L'.map (·.2)).Nodup → L'.length < 64 → H p = none → Q (.ref p) (upd H p (.lst (L'.map fun q => V.ref q.1)))
theorem each_refs {R : Value → Addr × List Int → Prop} (hR : ∀ v q, R v q → v = Value.ref q.1) : ∀ {out : List Value} {l : List (Addr × List Int)}, EachIs R out l → Vals (l.map fun q => V.ref q.1) out
  | _, _, .nil => .nil
  | _, _, .cons h t => .cons (by rw [hR _ _ h]; rfl) (each_refs hR t)
theorem refs_each {R : Value → Addr × List Int → Prop} : ∀ {l : List (Addr × List Int)}, (∀ q ∈ l, R (Value.ref q.1) q) → EachIs R (l.map fun q => Value.ref q.1) l
  | [], _ => .nil
  | q :: l, h => .cons (h q List.mem_cons_self) (refs_each fun r hr => h r (List.mem_cons_of_mem _ hr))
theorem cr_sortedTD (hc : X.calm = true) (hu : X.A.units + 64 < cLine) : CallR X (.builtin "sorted") (rSortedTD X.K X.prog X.w) := by
  intro pins s σ H vs us Q I r h
  obtain ⟨a, L, rfl, ha, hk, hne, q⟩ := h
  have R0 : SetT0 X.prog X.w s.heap a L := (I.hok a _ ha).1
  obtain ⟨es, ep, t, R⟩ := R0.full fun p hp => I.isT (hk p hp)
  rw [Vals.ref1 r]
  obtain ⟨o, ho, hex, hd⟩ := R.ob
  have hsz := R.size
  have hfew := R.few
  have hes : es.toList.map (·.2) = L.map fun q => Value.ref q.1 := by
    rw [R.rows]
    unfold L2.rowsOf
    rw [List.map_map] <;> rfl
  have al : AllAlike (L.map fun q => (tupD q).2) := by
    have z := tupD_alike L
    rwa [List.map_map] at z
  have so : Sortable (L.map fun q => (tupD q).2) := by
    have z := tupD_sortable hne
    rwa [List.map_map] at z
  have hread : ∀ q ∈ L, ∃ as, Reads s.heap (Value.ref q.1) (tupD q).2 as := fun q hq => Dp.reads I _ _ _ (tupD_dp (hk q hq)) rfl
  refine sorted_from (R := fun v q => q ∈ L ∧ v = Value.ref q.1) (bs := L) (enc := fun q => (tupD q).2) (fun L1 => L1.Perm L) (fun _ p => p) (fun Q' k => ?_) (fun v b r => by rw [r.2]; exact hread b r.1) al so (by rw [sizeLine_eq]; omega)
    (fun b hb => by have := tupD_depth b; omega) fun s' p out c L1 k g oo hp hg pm he => ?_
  · refine collect_set (A := X.A.in1) (I.ok.hd hc) ⟨o, ho, hex.1, hd⟩ R.fits (by unfold scanBound; omega) R.tab.ris R.led fun s1 vs k1 hz g1 o1 pm => ?_
    rw [hes] at pm
    obtain ⟨L1, p1, rfl⟩ := perm_map_inv pm L rfl
    exact k s1 _ L1 k1 hz g1 o1 p1 (refs_each fun q hq => ⟨p1.mem_iff.mp hq, rfl⟩)
  · have T := sortLe_total (listOrd itemOrd) false fun q : Addr × List Int => keyToks (tupD q).2
    have pm2 := (List.mergeSort_perm L1 (dataLe false fun q : Addr × List Int => (tupD q).2)).trans pm
    have pw := (List.pairwise_mergeSort (le := dataLe false fun q : Addr × List Int => (tupD q).2) T.trans (fun a b => by rw [Bool.or_eq_true]; exact T.total a b) L1).imp fun {x y} (h : dataLe false (fun q : Addr × List Int => (tupD q).2) x y = true) => by
      have z : dataLe false (fun b : V × PyData => b.2) (tupD x) (tupD y) = true := h
      rw [tupD_le] at z
      exact of_decide_eq_true z
    generalize L1.mergeSort (dataLe false fun q : Addr × List Int => (tupD q).2) = L' at pm2 pw he
    have hf : L'.length < 64 := by rw [pm2.length_eq]; exact hfew
    have hlen : (L'.map fun q => V.ref q.1).length ≤ sizeLine := by rw [List.length_map, sizeLine_eq]; omega
    have hn : H p = none := I.hok.fresh hp
    have hv : Vals (L'.map fun q => V.ref q.1) out.toList := each_refs (fun v q z => z.2) he
    have J : Inv X pins σ (upd H p (.lst (L'.map fun q => V.ref q.1))) { s with heap := s'.heap, gens := s'.gens, drawn := s'.drawn, toks := s'.toks } :=
      I.call (ch := []) (Un.laid k hp hn) (I.hok.laid k hp ⟨hlen, out.toList, c, hv, hg⟩) (by rw [g]; exact I.bare) (fun _ z => nomatch z)
    have e : s' = { s with heap := s'.heap, gens := s'.gens, drawn := s'.drawn, toks := s'.toks } := by
      cases s'
      cases s
      cases oo
      rfl
    rw [e]
    exact ⟨.ref p, _, J, rfl, q L' p pm2 pw ((pm2.map (·.2)).nodup_iff.mpr R.nd) hf hn⟩
end
end XT
namespace XT
open PySem PySem.Spec PyProof.Rows L2 PySem.W
/-! rows of ints as data -/
def rowD (r : List Int) : PyData := .tuple (r.map .int)
theorem eqvAll_ints : ∀ a b : List Int, PyData.eqvAll (a.map .int) (b.map .int) = decide (a = b)
  | [], [] => by simp [PyData.eqvAll]
  | [], _ :: _ => by simp [PyData.eqvAll]
  | _ :: _, [] => by simp [PyData.eqvAll]
  | x :: a, y :: b => by
    rw [List.map_cons, List.map_cons, PyData.eqvAll, eqvAll_ints a b]
    by_cases h1 : x = y <;> by_cases h2 : a = b <;> simp [PyData.eqv, h1, h2]
theorem eqv_rows (a b : List Int) : PyData.eqv (rowD a) (rowD b) = decide (a = b) := by
  unfold rowD
  rw [PyData.eqv, eqvAll_ints]
theorem canLay_ints : ∀ a : List Int, PyData.canLayAll0 (a.map .int) = true
  | [] => rfl
  | x :: a => by
    rw [List.map_cons, PyData.canLayAll0, canLay_ints a]
    rfl
theorem shaped_row (r : List Int) : SeqAt.shaped (rowD r) = true := by
  unfold SeqAt.shaped rowD
  rw [PyData.canLay0, canLay_ints, PyData.depth, depth_ints]
  rfl
theorem canLay_rows : ∀ l : List (List Int), PyData.canLayAll0 (l.map rowD) = true
  | [] => rfl
  | r :: l => by
    rw [List.map_cons, PyData.canLayAll0, canLay_rows l]
    unfold rowD
    rw [PyData.canLay0, canLay_ints]
    rfl
theorem depth_rows : ∀ l : List (List Int), PyData.depthAll (l.map rowD) ≤ 1
  | [] => by simp [PyData.depthAll]
  | r :: l => by
    have h := depth_rows l
    rw [List.map_cons, PyData.depthAll]
    unfold rowD at *
    rw [PyData.depth, depth_ints]
    omega
theorem shaped_rows (l : List (List Int)) : SeqAt.shaped (.list (l.map rowD)) = true := by
  unfold SeqAt.shaped
  rw [PyData.canLay0, canLay_rows, Bool.true_and, PyData.depth]
  have := depth_rows l
  exact decide_eq_true (by omega)
theorem any_rows (l : List (List Int)) (r : List Int) : ((l.map rowD).any fun z => PyData.eqv z (rowD r)) = l.contains r := by
  rw [List.any_map]
  induction l with
  | nil => rfl
  | cons a l ih =>
    rw [List.any_cons, List.contains_cons, ih]
    congr 1
    show PyData.eqv (rowD a) (rowD r) = (r == a)
    rw [eqv_rows]
    by_cases h : a = r
    · subst h
      simp
    · have h2 : (r == a) = false := beq_eq_false_iff_ne.mpr fun e => h e.symm
      rw [h2, decide_eq_false h]
end XT

/-! set(xs) of a list of tuples of ints, few of them unlike -/
namespace XT
open PySem PySem.Spec PyProof.Rows L2
abbrev set0 (w : World) : Obj := { cls := .type "set", dict := none, data := .set #[] 0 (.fresh 0 0 (!w.params.followText "set-order")) }
abbrev lit0 (l : Addr) : Obj := { cls := .type "list_iterator", data := .fields #[.ref l, .int 0 0] }
section
variable {P : Program} {w : World} {A : Around} {E : Value → Shared → Prop} {s : Shared}
/-- the loop that puts the items into the set -/
theorem put_all {I S : Addr} {fp wr : List Addr} {G : Array GenState → Array GenState → Prop} {n : Nat} {Pv : Nat → Value → Prop} {St : Nat → Shared → Prop} {R : Result → Shared → Prop}
    (W : WalksS P w A.in1 I fp wr G n Pv St) (hSf : S ∉ fp) (ks : List (Addr × List Int)) (hfew : ∀ L : List (Addr × List Int), (L.map (·.2)).Nodup → (∀ p ∈ L, p ∈ ks) → L.length + 1 < 64) (hval : ∀ i v, Pv i v → ∃ p, ks[i]? = some p ∧ v = .ref p.1)
    (h0 : Heap) (hk : ∀ p ∈ ks, IsT P w h0 p.2 p.1) (hnew : ∀ b, b ∈ S :: wr → h0.get? b = none) (hu : A.in1.units < cLine) (left i : Nat) (hleft : n - i = left) (hi : i ≤ n) (s : Shared) (hst : St i s) (hkp : ∀ b o, h0.get? b = some o → s.heap.get? b = some o)
    {L : List (Addr × List Int)} {es : Array (Int × Value)} {ep : Nat} {t : SetTable} (hS : SetTR P w s.heap S L es ep t) (g : Got ks i L)
    (hR : ∀ s' L es ep t, Moved (S :: wr) G s s' → SetTR P w s'.heap S L es ep t → Got ks n L → (∀ b o, h0.get? b = some o → s'.heap.get? b = some o) → R (.ok (.ret .none)) s') :
    codeAny (model P w) A (.builtin "set.update.loop" ⟨[.ref S, .ref I], []⟩) R s := by
  induction left generalizing i s L es ep t with
  | zero =>
    obtain rfl : i = n := by omega
    refine codeAny_builtin F.entry_set_update_loop ?_
    rw [Around.under_plainId F.plain_set_update_loop _]
    refine wpAny_bind (m := pyNext (.ref I)) (W.done s _ _ hst fun s' hm => ?_)
    have kp : ∀ b o, h0.get? b = some o → s'.heap.get? b = some o := fun b o e => hm.heap b o (fun hb => by rw [hnew b (List.mem_cons_of_mem _ hb)] at e; cases e) (hkp b o e)
    refine wpAny_pure (hR s' L es ep t (hm.mono fun b hb => List.mem_cons_of_mem _ hb) (hS.keep (fun o e => hm.heap S o (fun h => hSf (W.sub _ h)) e) fun p hp => isT_keep (hk p (List.mem_of_mem_take (g.sub p hp))) kp) g kp)
  | succ left ih =>
    have hlt : i < n := by omega
    refine codeAny_builtin F.entry_set_update_loop ?_
    rw [Around.under_plainId F.plain_set_update_loop _]
    refine wpAny_bind (m := pyNext (.ref I)) (W.item i s _ _ hlt hst fun v s' hP hst' hm => ?_)
    obtain ⟨p, hp, rfl⟩ := hval i v hP
    have kp : ∀ b o, h0.get? b = some o → s'.heap.get? b = some o := fun b o e => hm.heap b o (fun hb => by rw [hnew b (List.mem_cons_of_mem _ hb)] at e; cases e) (hkp b o e)
    have inK : ∀ q ∈ L, q ∈ ks := fun q hq => List.mem_of_mem_take (g.sub q hq)
    have hS' : SetTR P w s'.heap S L es ep t := hS.keep (fun o e => hm.heap S o (fun h => hSf (W.sub _ h)) e) fun q hq => isT_keep (hk q (inK q hq)) kp
    have hx : IsT P w s'.heap p.2 p.1 := isT_keep (hk p (List.mem_of_getElem? hp)) kp
    refine wpAny_bind (m := holding [Value.ref p.1] (setAdd S (.ref p.1))) (wpAny_holding ?_)
    unfold setAdd
    refine wpAny_holding (wpAny_bind (wpAny_pyHash_tuple hu hx ?_))
    refine add_at (s := { s' with toks := s'.toks + (p.2.length + 1) }) hS' hx hu (hfew L hS'.nd inK) fun b h' L' es' ep' t' same hS2 c1 c2 => ?_
    have g' : Got ks (i + 1) L' := by
      by_cases c : p.2 ∈ L.map (·.2)
      · rw [c1 c]; exact g.same hp c
      · exact g.more hp (c2 c)
    have kp2 : ∀ b o, h0.get? b = some o → h'.get? b = some o := fun b o e => (same.2 b (fun z => by rw [z, hnew S List.mem_cons_self] at e; cases e)).trans (kp b o e)
    refine wpAny_pure ⟨plainId_quiet F.plain_set_update_loop _, ih (i + 1) (by omega) hlt _ (W.frame _ s' _ _ hst' (Nat.le_add_right _ _) fun b hb o e => ?_) kp2 hS2 g' fun s2 L2 es2 ep2 t2 hm2 hS3 g2 kp3 => ?_⟩
    · rw [same.2 b fun h : b = S => hSf (by rw [← h]; exact hb)]
      exact e
    · refine hR s2 L2 es2 ep2 t2 (Moved.trans W.gtrans ((hm.mono fun b hb => List.mem_cons_of_mem _ hb).then_heap (Nat.le_add_right _ _) fun b o hb e => ?_) hm2) hS3 g2 kp3
      rw [same.2 b fun h : b = S => hb (by rw [h]; exact List.mem_cons_self)]
      exact e
set_option maxHeartbeats 3200000 in
/-- set(x) of a list: what the loop does over the new set and the list's iterator -/
theorem set_by_loop {l : Addr} {items : Array Value} {Q : Value → Shared → Prop} (hl : s.heap.IsList l items) (Z : Heap → Prop)
    (hloop : codeAny (model P w) A.in1.in1 (.builtin "set.update.loop" ⟨[.ref s.heap.objs.size, .ref (s.heap.objs.size + 1)], []⟩) (fun r s' => r = .ok (.ret .none) ∧ ∃ h' tk, s' = { s with heap := h', toks := tk } ∧ Z h')
      { s with heap := (s.heap.push (set0 w)).push (lit0 l) })
    (h : ∀ h' tk, Z h' → Q (.ref s.heap.objs.size) { s with heap := h', toks := tk }) : wpAny (model P w) A (call (.type "set") [.ref l]) Q E s := by
  obtain ⟨c, tl, hmro⟩ := F.called_set.mro
  have hmade := F.called_set.made
  have hsub := F.called_set.sub
  refine wpAny_call (codeAny_of_tree ?_)
  show wpAny _ _ (callAny (.type "set") _) _ _ _
  refine wpAny_pure ⟨Code.quiet_builtin _ (by decide +kernel), codeAny_builtin F.entry_type_call ?_⟩
  rw [Around.under_plain (weight_type_call_type "set" [.ref l] []) rfl]
  have h1 := F.called_set.notType
  have h2 := F.called_set.canCreate
  have hct := F.typeCall_set_1 (.ref l)
  repeat (any_goals (first | assumption | wp_step))
  refine codeAny_mono (code_set_led1 (.ref l) (E := E) (Q₁ := fun obj s₁ => obj = .ref s.heap.objs.size ∧ s₁ = { s with heap := s.heap.push (set0 w) }) ⟨rfl, rfl⟩) fun r s₁ hr => ?_
  cases r with
  | error e => exact hr
  | ok fl =>
    cases fl with
    | ret obj =>
      obtain ⟨rfl, rfl⟩ := hr
      have hS : (s.heap.push (set0 w)).get? s.heap.objs.size = some (set0 w) := Heap.get?_push_size _ rfl
      have hT : Shared.TypeIs { s with heap := s.heap.push (set0 w) } (.ref s.heap.objs.size) "set" := ⟨_, hS, rfl⟩
      have hli := F.called_set.init.lookup
      have hbi := F.called_set.init.bind (.ref s.heap.objs.size)
      repeat (any_goals (first | assumption | wp_step))
      refine codeAny_mono (codeAny_call_builtin (R := wants (fun r s₂ => r = .none ∧ ∃ h' tk, s₂ = { s with heap := h', toks := tk } ∧ Z h') E) F.called_set.init.plain F.entry_set_init (check_set_init_1 hT ?_)) fun r₂ s₂ hr₂ => ?_
      · have hl0 := hl
        obtain ⟨ol, hol, hcl, nl, hdl⟩ := hl
        obtain ⟨ocls, odict, odata, oslots⟩ := ol
        simp only at hcl hdl
        subst hcl; subst hdl
        have hol' : (s.heap.push (set0 w)).get? l = some { cls := .type "list", dict := odict, data := .seq items nl, slots := oslots } := Heap.get?_push_of_some _ hol
        have hsls := F.sub_list_set
        have hslf := F.sub_list_frozenset
        have hne : (Value.type "list" == Value.type "dict") = false := by decide
        have hl1 : (s.heap.push (set0 w)).IsList l items := ⟨_, hol', rfl, nl, rfl⟩
        have hz1 : (s.heap.push (set0 w)).objs.size = s.heap.objs.size + 1 := Heap.size_push ..
        unfold Builtin.«set.__init__» noKeywords Builtin.Frozenset.updateFrom
        generalize hPI : pyIter = PI
        wp_walk
        subst hPI
        refine wpAny_pyIter_list hl1 ?_
        refine wpAny_bind (wpAny_runValue ?_)
        show codeAny _ _ (.builtin "set.update.loop" ⟨[.ref s.heap.objs.size, .ref (s.heap.push (set0 w)).objs.size], []⟩) _ _
        rw [hz1]
        refine codeAny_mono hloop fun r s' hr => ?_
        obtain ⟨rfl, h', tk, rfl, z⟩ := hr
        refine wpAny_pure ?_
        exact wpAny_pure ⟨rfl, h', tk, rfl, z⟩
      · cases r₂ with
        | error e => exact hr₂
        | ok fl₂ =>
          cases fl₂ with
          | ret r =>
            obtain ⟨rfl, h', tk, rfl, z⟩ := hr₂
            repeat (any_goals (first | assumption | wp_step))
            exact h _ _ z
          | _ => exact hr₂.elim
    | _ => exact hr.elim
theorem call_set_few {l : Addr} {items : Array Value} (ks : List (Addr × List Int)) {Q : Value → Shared → Prop} (hh : A.handled = none) (hl : s.heap.IsList l items) (hit : items.toList = ks.map fun p => Value.ref p.1)
    (hk : ∀ p ∈ ks, IsT P w s.heap p.2 p.1) (hfew : ∀ L : List (Addr × List Int), (L.map (·.2)).Nodup → (∀ p ∈ L, p ∈ ks) → L.length + 1 < 64) (hu : A.units + 3 < cLine)
    (h : ∀ (h' : Heap) (tk : Nat) L es ep t, SetTR P w h' s.heap.objs.size L es ep t → Got ks ks.length L → (∀ b o, s.heap.get? b = some o → h'.get? b = some o) → Q (.ref s.heap.objs.size) { s with heap := h', toks := tk }) :
    wpAny (model P w) A (call (.type "set") [.ref l]) Q E s := by
  have hisz : items.size = ks.length := by
    have q := congrArg List.length hit
    rw [Array.length_toList, List.length_map] at q
    exact q
  have hls := hl
  obtain ⟨ol, hol, _⟩ := hls
  have hlS : l < s.heap.objs.size := Heap.lt_size hol
  refine set_by_loop hl (fun h' => (∃ L es ep t, SetTR P w h' s.heap.objs.size L es ep t ∧ Got ks ks.length L) ∧ ∀ b o, s.heap.get? b = some o → h'.get? b = some o) ?_ fun h' tk ⟨⟨L, es, ep, t, R, g⟩, k⟩ => h h' tk L es ep t R g k
  have hz1 : (s.heap.push (set0 w)).objs.size = s.heap.objs.size + 1 := Heap.size_push ..
  have hneI : l ≠ s.heap.objs.size + 1 := Nat.ne_of_lt (Nat.lt_succ_of_lt hlS)
  have hval : ∀ (i : Nat) (v : Value), items[i]? = some v → ∃ p, ks[i]? = some p ∧ v = .ref p.1 := fun i v hv => by
    have q : items.toList[i]? = some v := by rw [Array.getElem?_toList]; exact hv
    rw [hit, List.getElem?_map] at q
    obtain ⟨p, hp, e⟩ := Option.map_eq_some_iff.mp q
    exact ⟨p, hp, e.symm⟩
  have none_of : ∀ b, s.heap.objs.size ≤ b → s.heap.get? b = none := fun b hb => by
    cases q : s.heap.get? b with
    | none => rfl
    | some o => exact absurd (Nat.lt_of_lt_of_le (Heap.lt_size q) hb) (Nat.lt_irrefl _)
  have hl1 : ((s.heap.push (set0 w)).push (lit0 l)).IsList l items := (hl.push _).push _
  have hit1 : ((s.heap.push (set0 w)).push (lit0 l)).get? (s.heap.objs.size + 1) = some (lit0 l) := by
    rw [← hz1]
    exact Heap.get?_push_size _ rfl
  have hset : ((s.heap.push (set0 w)).push (lit0 l)).get? s.heap.objs.size = some (set0 w) := Heap.get?_push_of_some _ (Heap.get?_push_size _ rfl)
  refine put_all (A := A.in1.in1) ((Walks.list (A := A.in1.in1.in1) (by simp [hh]) (s.heap.objs.size + 1) l hneI items).toS) ?_ ks hfew hval s.heap hk (fun b hb => none_of b ?_) (by simpa using hu) (items.size - 0) 0 rfl (Nat.zero_le _) _ ⟨⟨_, hit1, rfl, rfl⟩, hl1⟩ (fun b o e => Heap.get?_push_of_some _ (Heap.get?_push_of_some _ e)) (setTR_fresh hset) (Got.zero ks) fun s' L es ep t hm hS' g' kp => ?_
  · intro hm
    rcases List.mem_cons.mp hm with e | hm
    · exact Nat.succ_ne_self _ e.symm
    · exact Nat.ne_of_gt hlS (List.mem_singleton.mp hm)
  · rcases List.mem_cons.mp hb with rfl | hb
    · exact Nat.le_refl _
    · rw [List.mem_singleton.mp hb]
      exact Nat.le_succ _
  · obtain ⟨h', g2, d', tk', os'⟩ := s'
    have eg : g2 = s.gens := hm.gens
    have ed : d' = s.drawn := hm.drawn
    have eo : os' = s.os := hm.os
    subst eg; subst ed; subst eo
    rw [hisz] at g'
    exact ⟨rfl, h', tk', rfl, ⟨L, es, ep, t, hS', g'⟩, kp⟩
end
section
variable {X : Cx}
/-- set(xs), xs a list of tuples of ints, few of them unlike -/
def rSetOfTN (K : PySem.W.Frag) (P : Program) (w : World) : List V → Hp → VK → Prop := fun xs H Q => ∃ (l : Addr) (ks : List (Addr × List Int)), xs = [V.ref l] ∧ SqL K H l (ks.map fun p => V.ref p.1) ∧ (∀ p ∈ ks, SqT K H p.1 (p.2.map V.int)) ∧
  (∀ L : List (Addr × List Int), (L.map (·.2)).Nodup → (∀ p ∈ L, p ∈ ks) → L.length + 1 < 64) ∧
  ∀ a L, H a = none → (∀ p ∈ L, p ∈ ks) → (∀ p ∈ ks, p.2 ∈ L.map (·.2)) → Q (.ref a) (upd H a (SetTO P w a L))
theorem cr_setOfTN (hc : X.calm = true) (hu : X.A.units + 64 < cLine) : CallR X (.type "set") (rSetOfTN X.K X.prog X.w) := by
  intro pins s σ H xs us Q I r h
  obtain ⟨l, ks, rfl, hl, hk, hf, q⟩ := h
  rw [Vals.ref1 r]
  obtain ⟨its, rv, pl, hz⟩ := I.list hl
  have hn : H s.heap.objs.size = none := I.hok.fresh (Nat.le_refl _)
  refine call_set_few (P := X.prog) (w := X.w) ks (I.ok.hd hc) pl.isList (by simpa using refs_of_vals rv) (fun p hp => I.isT (hk p hp)) hf (by omega) fun h' tk L es ep t R g k => ?_
  refine ⟨.ref s.heap.objs.size, upd H s.heap.objs.size (SetTO X.prog X.w s.heap.objs.size L), I.laid (t' := tk) k (Nat.le_refl _) (setTO_new R.t0), rfl, q _ L hn (fun p hp => ?_) fun p hp => ?_⟩
  · exact List.mem_of_mem_take (g.sub p hp)
  · exact g.all p (by rw [List.take_length]; exact hp)
end
end XT

set_option maxHeartbeats 4000000
/-! tuple * int with 0 and 1; tuple.count of ints -/
namespace XT
open PySem PySem.Spec PyProof.Rows L2
theorem tuple_mul_one (l : Addr) (items : Array Value) (n : Nat) (dd : Option Addr) (sl : Array (Option Value)) (u : Tok) :
    Meets (Builtin.«tuple.__mul__» ⟨[.ref l, .int 1 u], []⟩) (fun _ R s => s.heap.get? l = some { cls := .type "tuple", dict := dd, data := .seq items n, slots := sl } ∧ R (.ok (.ret (Value.ref l))) s) :=
  .of_wp fun prog w A R s h => by
    obtain ⟨hp, g, d, tk, os⟩ := s
    obtain ⟨hl, h⟩ := h
    have f1 := AutoSeq1.idx_int
    have c1 : (items.isEmpty || (1 : Int) == 1) = true := by rw [show ((1 : Int) == 1) = true from rfl, Bool.or_true]
    wp_walk using wpAny_loadPart' hl
    repeat (first
      | (refine wpAny_ite_true (decide_eq_true c1) ?_; wp_walk using wpAny_loadPart' hl)
      | (refine wpAny_ite_false rfl ?_; wp_walk using wpAny_loadPart' hl))
    exact ⟨_, rfl, h⟩
theorem tuple_mul_zero (l : Addr) (items : Array Value) (n : Nat) (dd : Option Addr) (sl : Array (Option Value)) (u : Tok) (hi : items.isEmpty = false) :
    Meets (Builtin.«tuple.__mul__» ⟨[.ref l, .int 0 u], []⟩) (fun _ R s => s.heap.get? l = some { cls := .type "tuple", dict := dd, data := .seq items n, slots := sl } ∧
      R (.ok (.ret (Value.ref s.heap.objs.size))) { s with heap := s.heap.push { cls := Value.type "tuple", data := Data.seq #[] } }) :=
  .of_wp fun prog w A R s h => by
    obtain ⟨hp, g, d, tk, os⟩ := s
    obtain ⟨hl, h⟩ := h
    have f1 := AutoSeq1.idx_int
    have c1 : (items.isEmpty || (0 : Int) == 1) = false := by rw [hi]; rfl
    wp_walk using wpAny_loadPart' hl
    repeat (first
      | (refine wpAny_ite_false (decide_eq_false (by rw [c1]; exact Bool.false_ne_true)) ?_; wp_walk using wpAny_loadPart' hl)
      | (refine wpAny_ite_false rfl ?_; wp_walk using wpAny_loadPart' hl)
      | (refine wpAny_ite_true rfl ?_; wp_walk using wpAny_loadPart' hl))
    exact ⟨_, rfl, h⟩
section
variable {X : Cx}
/-- t * k of a tuple, k from 0 on -/
def rRepTA (K : PySem.W.Frag) : R2 := fun x y H Q => ∃ (l : Addr) (k : Nat) (xs : List V), x = .ref l ∧ y = .int (k : Int) ∧ SqT K H l xs ∧ xs ≠ [] ∧ k ≤ 1000 ∧ xs.length ≤ 1000 ∧ ∀ p H', Same H H' → SqT K H' p (List.replicate k xs).flatten → Q (.ref p) H'
theorem op_repTA : OpR X (binaryOp .Mult) (rRepTA X.K) := by
  intro pins s σ H x y v u Q I rx ry h
  obtain ⟨l, k, xs, rfl, rfl, hT, hne, h2, hz, q⟩ := h
  by_cases hk : 2 ≤ k
  · have e : ((k : Int)).toNat = k := by omega
    refine op_repT pins s σ H _ _ v u Q I rx ry ⟨l, k, xs, rfl, rfl, hT, hne, by omega, by omega, hz, fun p np => ?_⟩
    rw [e]
    exact q p _ (same_new np) (.inl (.inl upd_same))
  cases rx
  obtain ⟨t, rfl⟩ := ry
  have hT0 := hT
  obtain ⟨its, r, ⟨⟨cls, dd, data, sl⟩, ho, hc, n, hd⟩, hs⟩ := I.tuple hT
  simp only at hc hd
  subst hc hd
  have hle : its.length = xs.length := r.length.symm
  have hn : its ≠ [] := fun e => hne (by
    rw [e] at hle
    exact List.eq_nil_of_length_eq_zero hle.symm)
  have hi : its.toArray.isEmpty = false := by
    cases its with
    | nil => exact absurd rfl hn
    | cons a b => rfl
  have cs : k = 0 ∨ k = 1 := by omega
  rcases cs with rfl | rfl
  · refine wpAny_binaryOp_repeat_ref (T := "tuple") (U := "int") (by decide) ⟨_, ho, rfl⟩ (fun s' => typeIs_int s' 0 t) noFill_tuple_mul F.fills_int_mul F.slot_int_rmul repeat_tuple F.slot_int_index.lookup
      (call_meets F.slot_int_rmul (typeIs_int s 0 t) F.entry_int_rmul (F.args_int_rmul_2 _ _) (int_rmul_tuple 0 t l its.toArray n dd sl)
        ⟨ho, rfl, ⟨_, ho, rfl⟩, call_meets F.slot_tuple_mul ⟨_, ho, rfl⟩ F.entry_tuple_mul (F.args_tuple_mul_2 _ _) (tuple_mul_zero l its.toArray n dd sl t hi) ⟨ho, ?_⟩⟩)
    have np := I.hok.fresh (Nat.le_refl _)
    refine ⟨.ref s.heap.objs.size, _, I.laid (t' := s.toks) (o := .tup []) (fun b ob q => Heap.get?_push_of_some _ q) (Nat.le_refl _) ⟨Nat.zero_le _, [], .nil, IsTup.new _ _⟩, rfl, q _ _ (same_new np) (.inl (.inl upd_same))⟩
  · refine wpAny_binaryOp_repeat_ref (T := "tuple") (U := "int") (by decide) ⟨_, ho, rfl⟩ (fun s' => typeIs_int s' 1 t) noFill_tuple_mul F.fills_int_mul F.slot_int_rmul repeat_tuple F.slot_int_index.lookup
      (call_meets F.slot_int_rmul (typeIs_int s 1 t) F.entry_int_rmul (F.args_int_rmul_2 _ _) (int_rmul_tuple 1 t l its.toArray n dd sl)
        ⟨ho, rfl, ⟨_, ho, rfl⟩, call_meets F.slot_tuple_mul ⟨_, ho, rfl⟩ F.entry_tuple_mul (F.args_tuple_mul_2 _ _) (tuple_mul_one l its.toArray n dd sl t) ⟨ho, ?_⟩⟩)
    refine ⟨.ref l, H, I, rfl, q _ _ (Same.refl H) ?_⟩
    have e : (List.replicate 1 xs).flatten = xs := by simp
    rw [e]
    exact hT0
theorem op_repTAK (K : PySem.W.Frag) (hK : X.K = K) : OpR X (binaryOp .Mult) (rRepTA K) := by subst hK; exact op_repTA
/-- t.count(k) of a tuple of ints -/
def rTCnt (K : PySem.W.Frag) : V → List V → Hp → VK → Prop := fun x xs H Q => ∃ (p : Addr) (ns : List Int) (k : Int), x = .ref p ∧ xs = [.int k] ∧ SqT K H p (ns.map V.int) ∧ Q (.int (ns.count k : Nat)) H
theorem mt_tcount : MtR X "tuple.count" (rTCnt X.K) := by
  intro pins s σ H x xs v us Q I rx rxs h
  obtain ⟨p, ns, k, rfl, rfl, hs, q⟩ := h
  cases rx
  obtain ⟨u, rfl, ru⟩ := rxs.one
  obtain ⟨t, rfl⟩ := ru
  obtain ⟨its, rv, ⟨⟨cls, dd, data, sl⟩, ho, hc, n, hd⟩, hlen⟩ := I.tuple hs
  simp only at hc hd
  subst hc hd
  have hi := ints_of_vals rv
  refine call_meets PySem.F.slot_tuple_count ⟨_, ho, rfl⟩ PySem.F.entry_tuple_count (PySem.F.args_tuple_count_2 _ _)
    (SeqAt.tuple_countAt p its.toArray n dd sl (.int k t) (eqk k)) ⟨ho, fun y hy => (eqk_gives hi y (by simpa using hy)).at _ _, ?_⟩
  have ec : its.toArray.toList.countP (eqk k) = ns.count k := eqk_count hi
  refine ⟨.int (ns.count k : Nat), H, I.tok _, ⟨s.toks, ?_⟩, q⟩
  show Value.int ((its.toArray.toList.countP (eqk k) : Nat) : Int) s.toks = Value.int ((ns.count k : Nat) : Int) s.toks
  rw [ec]
end
end XT

/-! tuples whose object is known to have no dict: their methods -/
namespace XT
open PySem PySem.Spec PyProof.Rows L2
/-- a tuple laid by tuple(..) -/
def TupF (H : Hp) (a : Addr) (xs : List V) : Prop := ∃ o : Obj, H a = some (.frz o (.tup xs)) ∧ o.dict = none
theorem TupF.seqT {K : PySem.W.Frag} {H : Hp} {a : Addr} {xs : List V} (h : TupF H a xs) : SqT K H a xs := by
  obtain ⟨o, h, _⟩ := h
  exact .inl (.inr ⟨o, h⟩)
theorem TupF.same {H H' : Hp} {a : Addr} {xs : List V} (e : Same H H') (h : TupF H a xs) : TupF H' a xs := by
  obtain ⟨o, h, d⟩ := h
  exact ⟨o, e _ _ h, d⟩
theorem TupF.kept {st : Addr} {H H' : Hp} {a : Addr} {xs ys : List V} (hs : H st = some (.lst ys)) (k : Kept st H H') (h : TupF H a xs) : TupF H' a xs := by
  obtain ⟨o, h, d⟩ := h
  exact ⟨o, k _ _ (fun e => by rw [e, hs] at h; cases h) h, d⟩
theorem TupF.lst {D : Addr} {H : Hp} {a : Addr} {xs ys : List V} {o : HO} (e : H D = some (.lst ys)) (h : TupF H a xs) : TupF (upd H D o) a xs := TupF.kept (st := D) e Kept.own h
theorem Drw.tupF {st : Addr} {S : Hp → Prop} (W : Drw st S) {H H' : Hp} {a : Addr} {xs : List V} (s : S H) (k : Kept st H H') (h : TupF H a xs) : TupF H' a xs := by
  obtain ⟨ys, e⟩ := W.lst H s
  exact h.kept e k
section
variable {X : Cx}
def rTupOfF (K : PySem.W.Frag) : List V → Hp → VK → Prop := fun xs H Q => ∃ p ys, xs = [.ref p] ∧ SqL K H p ys ∧ ∀ (l : Addr) (o : Obj), H l = none → o.dict = none → Q (.ref l) (upd H l (.frz o (.tup ys)))
theorem call_tuple_ofF : CallR X (.type "tuple") (rTupOfF X.K) := by
  intro pins s σ H xs us Q I r h
  obtain ⟨p, ys, rfl, hq, q⟩ := h
  obtain ⟨u, rfl, rx⟩ := vals1 r
  cases rx
  obtain ⟨its, r', pl, hz⟩ := I.list hq
  have hlen := r'.length
  refine call_tuple_list pl.isList (fun h' kp => ?_) (by simp only [List.size_toArray] <;> omega)
  have I1 : Inv X pins σ H { s with heap := h' } := I.kept (t' := s.toks) kp
  have I2 : Inv X pins σ (upd H h'.objs.size (.frz { cls := .type "tuple", data := .seq its.toArray } (.tup ys))) { s with heap := h'.push { cls := .type "tuple", data := .seq its.toArray } } :=
    I1.laid (t' := s.toks) (fun b o e => Heap.get?_push_of_some _ e) (Nat.le_refl _) (show ObjOk X.prog X.w _ _ _ (.frz _ (.tup ys)) from ⟨Heap.get?_push_size _ rfl, hz, its, r', IsTup.new _ _⟩)
  exact ⟨.ref h'.objs.size, _, I2, rfl, q _ _ (I1.hok.fresh (Nat.le_refl _)) rfl⟩
def tBMT (r : V → List V → Hp → VK → Prop) (to : TE) (t : TA) : TE := fun σ H Q => to σ H fun x H1 => (∃ p xs, x = .ref p ∧ TupF H1 p xs) ∧ t σ H1 fun xs H2 => r x xs H2 Q
theorem pe_bmT {o e : Expr} {es : List Expr} {to : TE} {t : TA} {name : Str} {apos cpos : Pos} {id : String} {r : V → List V → Hp → VK → Prop}
    (pa : PlainAttrs "tuple") (slot : Slot "tuple" name id) (hty : typeOf (.builtin id) = pure (.type "method_descriptor")) (hm : MtR X id r) (ho : PE X o to) (ha : PA X (e :: es) t)
    (hbase : attributeBase o name X.env (eval o X.env) = eval o X.env := by rfl)
    (hfew : ((backTo cpos (starEach (e :: es) X.env)).all (fun x => !x.1) && (backToKw cpos (keywordEach [] X.env)).all (fun x => x.1.isSome)
      && decide ((e :: es).length + ([] : List Keyword).length + (if ([] : List Keyword).isEmpty then 0 else 1) < 30)) = true := by rfl)
    (hline : (apos.endLine == cpos.line) = true := by rfl) (hs : starEach (e :: es) X.env = (false, eval e X.env) :: starEach es X.env := by rfl) (hplain : (backTo cpos (starEach es X.env)).any (·.1) = false := by rfl) :
    PE X (.Call (.Attribute o name apos) (e :: es) [] cpos) (tBMT r to t) := by
  refine ⟨fun pins s σ H Q I h => ?_⟩
  refine wpAny_Call_method_late hbase hfew hline rfl (thn (ho.run pins s σ H _ I h) fun v s1 ⟨x, H1, I1, r1, ty, q1⟩ => ?_)
  obtain ⟨p, xs, rfl, ob, hf, hd⟩ := ty
  cases r1
  obtain ⟨e1, _, _, _, o2, e2, hc, _⟩ := I1.hok p _ hf
  refine ⟨"tuple", id, pa, slot, hty, ⟨o2, e2, hc⟩, fun a e => ?_, ?_⟩
  · cases e
    exact ⟨ob, e1, hd⟩
  have hA := ha.run cpos pins s1 σ H1 _ I1 q1
  rw [hs] at hA ⊢
  refine Calls.callWith_builtin (by show (false || (backTo cpos (starEach es X.env)).any (·.1)) = false; rw [hplain] <;> rfl) (Calls.evalArgs_plain ?_)
  exact thn hA fun us s2 ⟨vs, H2, I2, r2, q2⟩ => hm pins s2 σ H2 (.ref p) vs _ us Q I2 rfl r2 q2
end
end XT

/-! rows of sorts: what sort_rows gives and what its law reckons -/
namespace XT
/-- k s times each s below j -/
def flat (k : Nat → Nat) : Nat → List Int
  | 0 => []
  | j + 1 => flat k j ++ List.replicate (k j) (j : Int)
theorem flat_lt (k : Nat → Nat) : ∀ j, ∀ x ∈ flat k j, 0 ≤ x ∧ x < (j : Int)
  | 0, x, h => by cases h
  | j + 1, x, h => by
    rcases List.mem_append.mp h with h | h
    · have := flat_lt k j x h
      omega
    · rw [(List.mem_replicate.mp h).2]
      omega
theorem flat_up (k : Nat → Nat) : ∀ j, (flat k j).Pairwise (· ≤ ·)
  | 0 => .nil
  | j + 1 => by
    show (flat k j ++ List.replicate (k j) (j : Int)).Pairwise (· ≤ ·)
    rw [List.pairwise_append]
    refine ⟨flat_up k j, List.pairwise_replicate.mpr (.inr (Int.le_refl _)), fun a ha b hb => ?_⟩
    have := flat_lt k j a ha
    rw [(List.mem_replicate.mp hb).2]
    omega
theorem flat_len (k : Nat → Nat) (j : Nat) : (flat k (j + 1)).length = (flat k j).length + k j := by
  show (flat k j ++ List.replicate (k j) (j : Int)).length = _
  rw [List.length_append, List.length_replicate]
theorem flat_le {k m : Nat → Nat} : ∀ j, (∀ s, s < j → k s ≤ m s) → (flat k j).length ≤ (flat m j).length
  | 0, _ => Nat.le_refl _
  | j + 1, h => by
    have h1 := flat_le j fun s hs => h s (by omega)
    have h2 := h j (by omega)
    rw [flat_len, flat_len]
    omega
theorem flat_full {k m : Nat → Nat} : ∀ j, (∀ s, s < j → k s ≤ m s) → (flat k j).length = (flat m j).length → flat k j = flat m j
  | 0, _, _ => rfl
  | j + 1, h, e => by
    have h1 := flat_le j fun s hs => h s (by omega : s < j + 1)
    have h2 := h j (by omega)
    rw [flat_len, flat_len] at e
    have h3 : k j = m j := by omega
    show flat k j ++ List.replicate (k j) (j : Int) = flat m j ++ List.replicate (m j) (j : Int)
    rw [flat_full j (fun s hs => h s (by omega)) (by omega), h3]
theorem flat_pos {k : Nat → Nat} : ∀ j s, s < j → 1 ≤ k s → 1 ≤ (flat k j).length
  | j + 1, s, h, h1 => by
    rw [flat_len]
    rcases Nat.lt_or_ge s j with h2 | h2
    · have := flat_pos j s h2 h1
      omega
    · have : s = j := by omega
      subst this
      omega
theorem flat_count : ∀ (places : List Nat) (j : Nat), (flat (fun s => places.count s) j).length = places.countP fun p => decide (p < j)
  | places, 0 => by
    show 0 = _
    symm
    rw [List.countP_eq_zero]
    intro a _
    simp
  | places, j + 1 => by
    rw [flat_len, flat_count places j]
    clear flat_count
    induction places with
    | nil => rfl
    | cons p l ih =>
      rw [List.countP_cons, List.countP_cons, List.count_cons, ← ih]
      by_cases h1 : p < j
      · have h2 : p < j + 1 := by omega
        have h3 : (p == j) = false := beq_eq_false_iff_ne.mpr (by omega)
        simp only [h1, h2, h3, decide_true, if_true, Bool.false_eq_true, if_false]
        omega
      · by_cases h2 : p = j
        · subst h2
          simp
          omega
        · have h3 : (p == j) = false := beq_eq_false_iff_ne.mpr h2
          have h4 : ¬ p < j + 1 := by omega
          simp only [h1, h3, h4, decide_false, Bool.false_eq_true, if_false]
          omega
/-- how many times -/
def timesOf (m : Nat) : List Nat := List.range' (min m 1) (m + 1 - min m 1)
def stepRows (m s : Nat) (rows : List (List Int)) : List (List Int) := rows.flatMap fun r => (timesOf m).map fun k => r ++ List.replicate k (s : Int)
def rowsUpto (places : List Nat) : Nat → List (List Int)
  | 0 => [[]]
  | j + 1 => stepRows (places.count j) j (rowsUpto places j)
theorem mem_times {m k : Nat} : k ∈ timesOf m ↔ min m 1 ≤ k ∧ k ≤ m := by
  unfold timesOf
  rw [List.mem_range'_1]
  omega
theorem mem_rows {places : List Nat} : ∀ {j : Nat} {r : List Int}, r ∈ rowsUpto places j → ∃ k : Nat → Nat, (∀ s, s < j → min (places.count s) 1 ≤ k s ∧ k s ≤ places.count s) ∧ r = flat k j
  | 0, r, h => ⟨fun _ => 0, fun s hs => absurd hs (Nat.not_lt_zero s), List.mem_singleton.mp h⟩
  | j + 1, r, h => by
    obtain ⟨r0, h0, h1⟩ := List.mem_flatMap.mp h
    obtain ⟨t, ht, rfl⟩ := List.mem_map.mp h1
    obtain ⟨k, hk, rfl⟩ := mem_rows h0
    refine ⟨fun s => if s = j then t else k s, fun s hs => ?_, ?_⟩
    · by_cases e : s = j
      · subst e
        simp only [if_true]
        exact mem_times.mp ht
      · simp only [e, if_false]
        exact hk s (by omega)
    · have go : ∀ i, i ≤ j → flat (fun s => if s = j then t else k s) i = flat k i := by
        intro i
        induction i with
        | zero => intro _; rfl
        | succ i ih =>
          intro hi
          show flat _ i ++ List.replicate (if i = j then t else k i) (i : Int) = flat k i ++ List.replicate (k i) (i : Int)
          rw [ih (by omega), if_neg (by omega)]
      show flat k j ++ List.replicate t (j : Int) = flat _ j ++ List.replicate (if j = j then t else k j) (j : Int)
      rw [go j (Nat.le_refl _), if_pos rfl]
theorem rows_nodup (places : List Nat) : ∀ j, (rowsUpto places j).Nodup
  | 0 => List.pairwise_singleton _ _
  | j + 1 => by
    have split : ∀ r ∈ rowsUpto places j, ∀ r' ∈ rowsUpto places j, ∀ k k' : Nat, r ++ List.replicate k (j : Int) = r' ++ List.replicate k' (j : Int) → r = r' ∧ k = k' := by
      intro r hr r' hr' k k' e
      obtain ⟨f, _, rfl⟩ := mem_rows hr
      obtain ⟨f', _, rfl⟩ := mem_rows hr'
      have keep : ∀ (f : Nat → Nat) (k : Nat), (flat f j ++ List.replicate k (j : Int)).filter (fun x => decide (x < (j : Int))) = flat f j := fun f k => by
        rw [List.filter_append, List.filter_eq_self.mpr fun a ha => decide_eq_true (flat_lt f j a ha).2, List.filter_eq_nil_iff.mpr, List.append_nil]
        intro a ha
        rw [(List.mem_replicate.mp ha).2]
        simp
      have e1 : flat f j = flat f' j := by
        rw [← keep f k, ← keep f' k', e]
      refine ⟨e1, ?_⟩
      have e2 := congrArg List.length e
      rw [List.length_append, List.length_append, List.length_replicate, List.length_replicate, e1] at e2
      omega
    show (List.flatMap _ (rowsUpto places j)).Nodup
    unfold List.Nodup
    rw [List.pairwise_flatMap]
    refine ⟨fun r hr => ?_, ?_⟩
    · rw [List.pairwise_map]
      have nd : (timesOf (places.count j)).Nodup := List.nodup_range'
      exact List.Pairwise.imp (fun {a b} hne e => hne (split r hr r hr a b e).2) nd
    · refine List.Pairwise.imp_of_mem (fun {r r'} hr hr' hne x hx y hy e => ?_) (rows_nodup places j)
      obtain ⟨k, _, rfl⟩ := List.mem_map.mp hx
      obtain ⟨k', _, rfl⟩ := List.mem_map.mp hy
      exact hne (split r hr r' hr' k k' e).1
theorem step_len {m s : Nat} {rows : List (List Int)} (hm : m ≤ 4) : (stepRows m s rows).length ≤ rows.length * 4 := by
  unfold stepRows
  induction rows with
  | nil => simp
  | cons r rows ih =>
    rw [List.flatMap_cons, List.length_append, List.length_map, List.length_cons]
    have : (timesOf m).length ≤ 4 := by
      unfold timesOf
      rw [List.length_range']
      omega
    omega
theorem rows_len (places : List Nat) (h : places.length ≤ 4) : ∀ j, (rowsUpto places j).length ≤ 4 ^ j
  | 0 => Nat.le_refl _
  | j + 1 => by
    have z := step_len (s := j) (rows := rowsUpto places j) (Nat.le_trans (List.count_le_length (a := j) (l := places)) h)
    have := rows_len places h j
    show (stepRows (places.count j) j (rowsUpto places j)).length ≤ 4 ^ (j + 1)
    rw [Nat.pow_succ]
    omega
theorem rows_short {places : List Nat} {j : Nat} {r : List Int} (h : r ∈ rowsUpto places j) : r.length ≤ places.length := by
  obtain ⟨k, hk, rfl⟩ := mem_rows h
  have h1 := flat_le j fun s hs => (hk s hs).2
  have h2 := flat_count places j
  have h3 : places.countP (fun p => decide (p < j)) ≤ places.length := List.countP_le_length
  omega
/-- a row of a relation over n sorts -/
structure RowOk (n : Nat) (places : List Nat) (r : List Int) : Prop where
  up : r.Pairwise (· ≤ ·)
  lt : ∀ x ∈ r, 0 ≤ x ∧ x < (n : Int)
  pos : 1 ≤ r.length
  few : r.length ≤ 4
  full : r.length = 4 → r = flat (fun s => places.count s) n
theorem row_ok {n : Nat} {places : List Nat} {r : List Int} (h : r ∈ rowsUpto places n) (h4 : places.length ≤ 4) (h1 : 1 ≤ places.length) (hlt : ∀ p ∈ places, p < n) : RowOk n places r := by
  obtain ⟨k, hk, rfl⟩ := mem_rows h
  have hl := flat_le n fun s hs => (hk s hs).2
  have hc := flat_count places n
  have hall : places.countP (fun p => decide (p < n)) = places.length := List.countP_eq_length.mpr fun a ha => decide_eq_true (hlt a ha)
  refine ⟨flat_up k n, flat_lt k n, ?_, by omega, fun e => flat_full n (fun s hs => (hk s hs).2) (by omega)⟩
  obtain ⟨p, hp⟩ : ∃ p, p ∈ places := by
    cases places with
    | nil => simp at h1
    | cons p l => exact ⟨p, List.mem_cons_self⟩
  have hp1 : 1 ≤ places.count p := List.count_pos_iff.mpr hp
  exact flat_pos n p (hlt p hp) (by have := (hk p (hlt p hp)).1; omega)
/-! ### how many rows there are -/
def dig : List Int := [0, 1, 2, 3]
def up3 (r : List Int) : Bool := match r with
  | [x, y] => decide (x ≤ y)
  | [x, y, z] => decide (x ≤ y) && decide (y ≤ z)
  | _ => true
def short : List (List Int) := ((dig.map fun x => [x]) ++ (dig.flatMap fun x => dig.map fun y => [x, y]) ++ (dig.flatMap fun x => dig.flatMap fun y => dig.map fun z => [x, y, z])).filter up3
theorem short_len : short.length = 34 := by decide +kernel
theorem mem_dig {x : Int} (h : 0 ≤ x ∧ x < 4) : x ∈ dig := by
  unfold dig
  simp only [List.mem_cons, List.not_mem_nil, or_false]
  omega
theorem mem_short {r : List Int} (up : r.Pairwise (· ≤ ·)) (lt : ∀ x ∈ r, 0 ≤ x ∧ x < 4) (h1 : 1 ≤ r.length) (h3 : r.length ≤ 3) : r ∈ short := by
  unfold short
  rw [List.mem_filter]
  match r, up, lt, h1, h3 with
  | [x], up, lt, _, _ =>
    exact ⟨List.mem_append_left _ (List.mem_append_left _ (List.mem_map.mpr ⟨x, mem_dig (lt x (by simp)), rfl⟩)), rfl⟩
  | [x, y], up, lt, _, _ =>
    refine ⟨List.mem_append_left _ (List.mem_append_right _ (List.mem_flatMap.mpr ⟨x, mem_dig (lt x (by simp)), List.mem_map.mpr ⟨y, mem_dig (lt y (by simp)), rfl⟩⟩)), ?_⟩
    simp only [List.pairwise_cons, List.mem_cons, List.not_mem_nil, or_false] at up
    exact decide_eq_true (up.1 y rfl)
  | [x, y, z], up, lt, _, _ =>
    refine ⟨List.mem_append_right _ (List.mem_flatMap.mpr ⟨x, mem_dig (lt x (by simp)), List.mem_flatMap.mpr ⟨y, mem_dig (lt y (by simp)), List.mem_map.mpr ⟨z, mem_dig (lt z (by simp)), rfl⟩⟩⟩), ?_⟩
    simp only [List.pairwise_cons, List.mem_cons, List.not_mem_nil, or_false] at up
    show (decide (x ≤ y) && decide (y ≤ z)) = true
    rw [decide_eq_true (up.1 y (.inl rfl)), decide_eq_true (up.2.1 z rfl)]
    rfl
theorem nodup_sub_len {α : Type} [DecidableEq α] : ∀ {l m : List α}, l.Nodup → (∀ x ∈ l, x ∈ m) → l.length ≤ m.length
  | [], _, _, _ => Nat.zero_le _
  | x :: l, m, hn, hs => by
    obtain ⟨h1, h2⟩ := List.nodup_cons.mp hn
    have hx : x ∈ m := hs x List.mem_cons_self
    have ih := nodup_sub_len (l := l) (m := m.erase x) h2 fun y hy => (List.mem_erase_of_ne fun e => h1 (by rw [← e]; exact hy)).2 (hs y (List.mem_cons_of_mem _ hy))
    have e := List.length_erase_of_mem hx
    have hp : 0 < m.length := List.length_pos_of_mem hx
    rw [List.length_cons]
    omega
/-- the rows of all relations, the sorts ahead -/
def baseRows (n : Nat) : List (List Int) := (List.range n).map fun s : Nat => [(s : Int)]
def allRows (n : Nat) (rels : List (List Nat)) : List (List Int) := baseRows n ++ rels.flatMap fun p => rowsUpto p n
structure RelsIn (n : Nat) (rels : List (List Nat)) : Prop where
  few : rels.length ≤ 16
  hi : n ≤ 4
  ok : ∀ p ∈ rels, p.length ≤ 4 ∧ 1 ≤ p.length ∧ ∀ s ∈ p, s < n
theorem all_short {n : Nat} {rels : List (List Nat)} (R : RelsIn n rels) {r : List Int} (h : r ∈ allRows n rels) : r ≠ [] ∧ (r ∈ short ∨ r ∈ rels.map fun p => flat (fun s => p.count s) n) := by
  have hn := R.hi
  rcases List.mem_append.mp h with h | h
  · obtain ⟨s, hs, rfl⟩ := List.mem_map.mp h
    have := List.mem_range.mp hs
    refine ⟨by simp, .inl (mem_short (List.pairwise_singleton _ _) (fun x hx => ?_) (Nat.le_refl _) (by show 1 ≤ 3; decide))⟩
    rw [List.mem_singleton.mp hx]
    omega
  · obtain ⟨p, hp, hr⟩ := List.mem_flatMap.mp h
    obtain ⟨a, b, c⟩ := R.ok p hp
    have k := row_ok hr a b c
    refine ⟨fun e => by have := k.pos; rw [e] at this; simp at this, ?_⟩
    rcases Nat.lt_or_ge r.length 4 with h3 | h3
    · exact .inl (mem_short k.up (fun x hx => by have := k.lt x hx; omega) k.pos (by omega))
    · exact .inr (List.mem_map.mpr ⟨p, hp, (k.full (by have := k.few; omega)).symm⟩)
theorem all_few {n : Nat} {rels : List (List Nat)} (R : RelsIn n rels) {L : List (List Int)} (nd : L.Nodup) (h : ∀ r ∈ L, r ∈ allRows n rels) : L.length ≤ 50 := by
  have z := nodup_sub_len (m := short ++ rels.map fun p => flat (fun s => p.count s) n) nd fun r hr => by
    rw [List.mem_append]
    exact (all_short R (h r hr)).2
  rw [List.length_append, short_len, List.length_map] at z
  have := R.few
  omega
/-! ### the law's list -/
def dueStep (found rows : List (List Int)) : List (List Int) := found ++ rows.filter fun r => decide (1 < r.length) && !found.contains r
def dueRows (n : Nat) : List (List Nat) → List (List Int) → List (List Int)
  | [], found => found
  | p :: rels, found => dueRows n rels (dueStep found (rowsUpto p n))
theorem due_nodup {n : Nat} : ∀ (rels : List (List Nat)) (found : List (List Int)), found.Nodup → (dueRows n rels found).Nodup
  | [], found, h => h
  | p :: rels, found, h => by
    refine due_nodup rels _ ?_
    unfold dueStep List.Nodup
    rw [List.pairwise_append]
    refine ⟨h, List.Pairwise.filter _ (rows_nodup p n), fun a ha b hb e => ?_⟩
    have := (List.mem_filter.mp hb).2
    rw [← e] at this
    rw [Bool.and_eq_true] at this
    have h2 := this.2
    rw [List.contains_iff_mem.mpr ha] at h2
    cases h2
theorem due_mem {n : Nat} : ∀ (rels : List (List Nat)) (found : List (List Int)), (∀ s, s < n → [(s : Int)] ∈ found) → (∀ p ∈ rels, p.length ≤ 4 ∧ 1 ≤ p.length ∧ ∀ s ∈ p, s < n) →
    ∀ r, r ∈ dueRows n rels found ↔ r ∈ found ∨ r ∈ rels.flatMap fun p => rowsUpto p n
  | [], found, _, _, r => by simp [dueRows]
  | p :: rels, found, hb, hok, r => by
    have hb' : ∀ s, s < n → [(s : Int)] ∈ dueStep found (rowsUpto p n) := fun s hs => List.mem_append_left _ (hb s hs)
    rw [dueRows, due_mem rels _ hb' (fun q hq => hok q (List.mem_cons_of_mem _ hq)) r, List.flatMap_cons, List.mem_append]
    have key : r ∈ dueStep found (rowsUpto p n) ↔ r ∈ found ∨ r ∈ rowsUpto p n := by
      unfold dueStep
      rw [List.mem_append, List.mem_filter]
      constructor
      · rintro (h | h)
        · exact .inl h
        · exact .inr h.1
      · rintro (h | h)
        · exact .inl h
        · by_cases hf : r ∈ found
          · exact .inl hf
          · obtain ⟨a, b, c⟩ := hok p List.mem_cons_self
            have k := row_ok h a b c
            by_cases h1 : 1 < r.length
            · refine .inr ⟨h, ?_⟩
              rw [decide_eq_true h1, Bool.true_and, Bool.not_eq_true']
              exact Bool.eq_false_iff.mpr fun e => hf (List.contains_iff_mem.mp e)
            · match r, k with
              | [], k => exact absurd k.pos (by simp)
              | [x], k =>
                have hx := k.lt x (by simp)
                have := hb x.toNat (by omega)
                rw [show ((x.toNat : Nat) : Int) = x by omega] at this
                exact absurd this hf
              | _ :: _ :: _, _ => simp at h1
    rw [key]
    constructor
    · rintro ((h | h) | h)
      · exact .inl h
      · exact .inr (.inl h)
      · exact .inr (.inr h)
    · rintro (h | h | h)
      · exact .inl (.inl h)
      · exact .inl (.inr h)
      · exact .inr h
theorem due_snoc {n : Nat} (p : List Nat) : ∀ (rels : List (List Nat)) (found : List (List Int)), dueRows n (rels ++ [p]) found = dueStep (dueRows n rels found) (rowsUpto p n)
  | [], found => rfl
  | q :: rels, found => due_snoc p rels (dueStep found (rowsUpto q n))
theorem base_nodup (n : Nat) : (baseRows n).Nodup := by
  unfold baseRows List.Nodup
  rw [List.pairwise_map]
  exact List.Pairwise.imp (fun {a b} hne e => hne (by injection e with e; omega)) (List.nodup_range (n := n))
theorem base_mem {n s : Nat} (h : s < n) : [(s : Int)] ∈ baseRows n := List.mem_map.mpr ⟨s, List.mem_range.mpr h, rfl⟩
theorem due_len {n : Nat} (hn : n ≤ 4) : ∀ (rels : List (List Nat)) (found : List (List Int)), (∀ p ∈ rels, p.length ≤ 4) → (dueRows n rels found).length ≤ found.length + rels.length * 256
  | [], found, _ => by simp [dueRows]
  | p :: rels, found, h => by
    have z := due_len hn rels (dueStep found (rowsUpto p n)) fun q hq => h q (List.mem_cons_of_mem _ hq)
    have h1 := rows_len p (h p List.mem_cons_self) n
    have h2 : 4 ^ n ≤ 256 := by
      have : n = 0 ∨ n = 1 ∨ n = 2 ∨ n = 3 ∨ n = 4 := by omega
      rcases this with rfl | rfl | rfl | rfl | rfl <;> decide
    have h3 : (dueStep found (rowsUpto p n)).length ≤ found.length + (rowsUpto p n).length := by
      unfold dueStep
      rw [List.length_append]
      have := List.length_filter_le (fun r => decide (1 < r.length) && !found.contains r) (rowsUpto p n)
      omega
    rw [dueRows, List.length_cons]
    omega
theorem same_rows {n : Nat} {rels : List (List Nat)} (R : RelsIn n rels) {A B : List (List Int)} (upA : A.Pairwise (· ≤ ·)) (ndA : A.Nodup) (hA : ∀ r, r ∈ A ↔ r ∈ allRows n rels) (upB : B.Pairwise (· ≤ ·)) (pB : B.Perm (dueRows n rels (baseRows n))) : A = B := by
  have ndB : B.Nodup := pB.nodup_iff.mpr (due_nodup rels _ (base_nodup n))
  have hB : ∀ r, r ∈ B ↔ r ∈ allRows n rels := fun r => by
    rw [pB.mem_iff, due_mem rels _ (fun s hs => base_mem hs) R.ok r]
    unfold allRows
    rw [List.mem_append]
  refine List.Perm.eq_of_pairwise (le := (· ≤ ·)) (fun a b _ _ h1 h2 => List.le_antisymm h1 h2) upA upB ?_
  exact (List.perm_ext_iff_of_nodup ndA ndB).mpr fun r => by rw [hA, hB]
end XT

/-! sorted of a tuple; set of a tuple of ints; in, of a tuple of data -/
namespace XT
open PySem PySem.Spec PyProof.Rows L2 PySem.W
section
variable {P : Program} {w : World} {A : Around} {E : Value → Shared → Prop} {s : Shared}
theorem collect_tup {l : Addr} {vs : List Value} {Q : List Value → Shared → Prop} (hl : s.heap.IsTuple l vs.toArray)
    (h : Q vs { s with heap := (s.heap.push (seqObj "list" #[] 0)).update s.heap.objs.size (Obj.mapSeq (· ++ vs.toArray)) }) (hsz : vs.length ≤ sizeLine) :
    wpAny (model P w) A (collect (.ref l)) Q E s := by
  obtain ⟨o, ho, hc, n, hd⟩ := id hl
  unfold collect
  refine wpAny_bind (wpAny_runValue (codeAny_builtin entry_proto_collect' ?_))
  show wpAny _ _ (do again (.builtin "list.__iadd__" ⟨[← newList [], .ref l], []⟩)) _ _ s
  refine wpAny_bind (wpAny_newList (wpAny_pure ⟨Code.quiet_builtin _ (by decide +kernel), codeAny_builtin entry_list_iadd' ?_⟩))
  show wpAny _ _ (Builtin.List.listExtendWith (.ref s.heap.objs.size) (.ref l) (.ref s.heap.objs.size)) _ _ { s with heap := s.heap.push (seqObj "list" #[] 0) }
  unfold Builtin.List.listExtendWith
  have ho' : (s.heap.push (seqObj "list" #[] 0)).get? l = some o := Heap.get?_push_of_some _ ho
  refine wpAny_bind (wpAny_typeOf (T := "tuple") ⟨o, ho', hc⟩ ?_)
  have ht : (Value.type "tuple" == Value.type "tuple") = true := by rfl
  rw [if_pos (by rw [ht]; simp)]
  refine wpAny_bind (listItems_at ho' hd ?_)
  refine wpAny_bind (listItems_at (xs := #[]) (n := 0) (Heap.get?_push_size _ rfl) rfl ?_)
  rw [if_neg (by simp)]
  refine wpAny_bind (listUpdate_at (xs := #[]) (n := 0) (Heap.get?_push_size _ rfl) rfl ?_ (Nat.zero_le _) (by show (#[] ++ vs.toArray).size ≤ sizeLine + 1; simp only [Array.size_append, List.size_toArray, List.length_nil]; omega))
  refine wpAny_pure ?_
  show wpAny (model P w) A (do
      let o ← load s.heap.objs.size
      match o.data with
      | .seq xs _ => pure xs.toList
      | _ => unsupported "internal:collect") Q E { s with heap := (s.heap.push (seqObj "list" #[] 0)).update s.heap.objs.size (Obj.mapSeq (· ++ vs.toArray)) }
  refine wpAny_bind (wpAny_load (get?_update_seq (Heap.get?_push_size _ rfl) _) ?_)
  show wpAny _ _ (pure ((#[] : Array Value) ++ vs.toArray).toList) Q E _
  rw [show ((#[] : Array Value) ++ vs.toArray).toList = vs by simp]
  exact wpAny_pure h
end
section
variable {X : Cx}
/-- sorted(t) of a tuple of data -/
def rSortedDT (K : PySem.W.Frag) : List V → Hp → VK → Prop := fun vs H Q => ∃ (a : Addr) (bs : List (V × PyData)), vs = [V.ref a] ∧ SqT K H a (bs.map (·.1)) ∧ (∀ b ∈ bs, Dp K H b.1 b.2) ∧ AllAlike (bs.map (·.2)) ∧ Sortable (bs.map (·.2)) ∧ (∀ b ∈ bs, b.2.depth ≤ 50) ∧
  ∀ p, H p = none → Q (.ref p) (upd H p (.lst ((bs.mergeSort (dataLe false (·.2))).map (·.1))))
theorem cr_sortedDT (hu : X.A.units + 64 < cLine) : CallR X (.builtin "sorted") (rSortedDT X.K) := by
  intro pins s σ H vs us Q I r h
  obtain ⟨a, bs, rfl, hs, hd, hal, hk, hdep, q⟩ := h
  obtain ⟨its, rv, hl, hz⟩ := I.tuple hs
  rw [List.length_map] at hz
  rw [Vals.ref1 r]
  have e0 := vals_each I rv hd
  refine sorted_from (R := fun v b => RelV b.1 v ∧ ∃ as, Reads s.heap v b.2 as) (bs := bs) (enc := fun b => b.2) (fun bs' => bs' = bs) (fun bs' e => by rw [e]) (fun Q' k => ?_) (fun v b r => r.2) hal hk hz (fun b hb => by have := hdep b hb; omega) fun s' p out c bs' k g o hp hg hc he => ?_
  · refine collect_tup hl (k _ its bs (fun b o q => ?_) ?_ rfl rfl rfl e0) (by rw [e0.length]; exact hz)
    · have hlt : b < s.heap.objs.size := Heap.lt_size q
      show ((s.heap.push (seqObj "list" #[] 0)).update s.heap.objs.size (Obj.mapSeq (· ++ its.toArray))).get? b = some o
      rw [Heap.get?_update_ne _ _ _ _ (Nat.ne_of_lt hlt)]
      exact Heap.get?_push_of_some _ q
    · show s.heap.objs.size ≤ ((s.heap.push (seqObj "list" #[] 0)).update s.heap.objs.size (Obj.mapSeq (· ++ its.toArray))).objs.size
      rw [Heap.size_update, size_push']
      exact Nat.le_succ _
  · subst hc
    have hn : H p = none := I.hok.fresh hp
    have hv := each_vals he
    have hlen : ((bs'.mergeSort (dataLe false fun b => b.2)).map (·.1)).length ≤ sizeLine := by rw [List.length_map, List.length_mergeSort]; exact hz
    have J : Inv X pins σ (upd H p (.lst ((bs'.mergeSort (dataLe false fun b => b.2)).map (·.1)))) { s with heap := s'.heap, gens := s'.gens, drawn := s'.drawn, toks := s'.toks } :=
      I.call (ch := []) (Un.laid k hp hn) (I.hok.laid k hp ⟨hlen, out.toList, c, hv, hg⟩) (by rw [g]; exact I.bare) (fun _ z => nomatch z)
    have e : s' = { s with heap := s'.heap, gens := s'.gens, drawn := s'.drawn, toks := s'.toks } := by
      cases s'
      cases s
      cases o
      rfl
    rw [e]
    exact ⟨.ref p, _, J, rfl, q p hn⟩
/-- sorted of ints, a list or a tuple -/
def intD (n : Int) : V × PyData := (V.int n, .int n)
theorem intD_le (a b : Int) : dataLe false (fun b : V × PyData => b.2) (intD a) (intD b) = decide (a ≤ b) := by
  show (!dataLt (.int b) (.int a)) = _
  rw [dataLt_int, not_lt_int]
theorem sorted_intD (l : List Int) : ∃ l' : List Int, l'.Perm l ∧ l'.Pairwise (· ≤ ·) ∧ (l.map intD).mergeSort (dataLe false (·.2)) = l'.map intD := by
  have T := sortLe_total (listOrd itemOrd) false fun b : V × PyData => keyToks b.2
  have pm := List.mergeSort_perm (l.map intD) (dataLe false fun b : V × PyData => b.2)
  obtain ⟨l', p1, e⟩ := perm_map_inv pm l rfl
  refine ⟨l', p1, ?_, e⟩
  have pw := List.pairwise_mergeSort (le := dataLe false fun b : V × PyData => b.2) T.trans (fun a b => by rw [Bool.or_eq_true]; exact T.total a b) (l.map intD)
  rw [e, List.pairwise_map] at pw
  exact pw.imp fun {a b} h => by
    rw [intD_le] at h
    exact of_decide_eq_true h
theorem intD_alike (l : List Int) : AllAlike ((l.map intD).map (·.2)) := by
  intro d hd d' hd'
  rw [List.map_map] at hd hd'
  obtain ⟨b, _, rfl⟩ := List.mem_map.mp hd
  obtain ⟨b', _, rfl⟩ := List.mem_map.mp hd'
  show alike (.int b) (.int b') = true
  simp [alike]
theorem intD_sortable (l : List Int) : Sortable ((l.map intD).map (·.2)) := by
  refine .inr fun d hd => ?_
  rw [List.map_map] at hd
  obtain ⟨b, hb, rfl⟩ := List.mem_map.mp hd
  exact ⟨fun e => PyData.noConfusion (show PyData.int b = PyData.none from e), fun xs e => PyData.noConfusion (show PyData.int b = PyData.tuple xs from e)⟩
def rSortI2 (S : Hp → Addr → List V → Prop) : List V → Hp → VK → Prop := fun vs H Q => ∃ (a : Addr) (l : List Int), vs = [V.ref a] ∧ S H a (l.map V.int) ∧ ∀ (l' : List Int) p, l'.Perm l → l'.Pairwise (· ≤ ·) → H p = none → Q (.ref p) (upd H p (.lst (l'.map V.int)))
theorem intD_fst (l : List Int) : (l.map intD).map (·.1) = l.map V.int := by
  rw [List.map_map]
  rfl
theorem cr_sortedIL (hu : X.A.units + 64 < cLine) : CallR X (.builtin "sorted") (rSortI2 (SqL X.K)) := by
  intro pins s σ H vs us Q I r h
  obtain ⟨a, l, rfl, hs, q⟩ := h
  obtain ⟨l', pm, up, e⟩ := sorted_intD l
  refine cr_sortedD hu pins s σ H _ us Q I r ⟨a, l.map intD, rfl, by rw [intD_fst]; exact hs, fun b hb => ?_, intD_alike l, intD_sortable l, fun b hb => ?_, fun p np => ?_⟩
  · obtain ⟨n, _, rfl⟩ := List.mem_map.mp hb
    exact .int n
  · obtain ⟨n, _, rfl⟩ := List.mem_map.mp hb
    show (PyData.int n).depth ≤ 50
    simp [PyData.depth]
  · rw [e, intD_fst]
    exact q l' p pm up np
theorem cr_sortedIT (hu : X.A.units + 64 < cLine) : CallR X (.builtin "sorted") (rSortI2 (SqT X.K)) := by
  intro pins s σ H vs us Q I r h
  obtain ⟨a, l, rfl, hs, q⟩ := h
  obtain ⟨l', pm, up, e⟩ := sorted_intD l
  refine cr_sortedDT hu pins s σ H _ us Q I r ⟨a, l.map intD, rfl, by rw [intD_fst]; exact hs, fun b hb => ?_, intD_alike l, intD_sortable l, fun b hb => ?_, fun p np => ?_⟩
  · obtain ⟨n, _, rfl⟩ := List.mem_map.mp hb
    exact .int n
  · obtain ⟨n, _, rfl⟩ := List.mem_map.mp hb
    show (PyData.int n).depth ≤ 50
    simp [PyData.depth]
  · rw [e, intD_fst]
    exact q l' p pm up np
/-- set(t) of a tuple of ints -/
def rSetIT (K : PySem.W.Frag) (w : World) : List V → Hp → VK → Prop := fun vs H Q => ∃ (p : Addr) (ns : List Int), vs = [.ref p] ∧ SqT K H p (ns.map V.int) ∧ ns.length ≤ 1000 ∧ ∀ a n, H a = none → n ≤ ns.length → Q (.ref a) (upd H a (SetO w a (fun j => decide (j ∈ ns)) n))
theorem cr_setIT (hc : X.calm = true) : CallR X (.type "set") (rSetIT X.K X.w) := by
  intro pins s σ H vs us Q I r h
  obtain ⟨p, ns, rfl, hs, hl, q⟩ := h
  obtain ⟨its, rv, pt, hz⟩ := I.tuple hs
  rw [Vals.ref1 r]
  have hn : H s.heap.objs.size = none := I.hok.fresh (Nat.le_refl _)
  have hi : IntsAre its.toArray.toList ns := ints_of_vals rv
  refine call_set_tupI (P := X.prog) ns (I.ok.hd hc) (show s.heap.IsTuple p its.toArray from pt) hi (by unfold scanBound; omega) fun h' tk c R hcn k => ?_
  exact ⟨.ref s.heap.objs.size, upd H s.heap.objs.size (SetO X.w s.heap.objs.size (fun j => decide (j ∈ ns)) c), I.laid (t' := tk) k (Nat.le_refl _) (setO_new R), rfl, q _ c hn hcn⟩
theorem cr_setITK (w : World) (hw : X.w = w) (K : PySem.W.Frag) (hK : X.K = K) (hc : X.calm = true) : CallR X (.type "set") (rSetIT K w) := by subst hw; subst hK; exact cr_setIT hc
theorem cr_sortedSetK (w : World) (hw : X.w = w) (K : PySem.W.Frag) (hK : X.K = K) (hc : X.calm = true) : CallR X (.builtin "sorted") (rSortedSet w) := by subst hw; exact cr_sortedSet hc
/-- x in t, t a tuple of data -/
def rInTD (K : PySem.W.Frag) (neg : Bool) : R2 := fun x y H Q => ∃ d ds, Dp K H x d ∧ Dp K H y (.tuple ds) ∧ SeqAt.shaped d = true ∧ PyData.canLayAll0 ds = true ∧ Q (.bl (if neg then !ds.any (fun z => PyData.eqv z d) else ds.any fun z => PyData.eqv z d)) H
theorem op_inTD (hu : X.A.units + 65 < cLine) : OpR X (compareOp .In) (rInTD X.K false) := by
  intro pins s σ H x y v u Q I rx ry h
  obtain ⟨d, ds, hd, he, sd, se, q⟩ := h
  obtain ⟨as, r1⟩ := Dp.reads I d x v hd rx
  obtain ⟨bs, r2⟩ := Dp.reads I (.tuple ds) y u he ry
  have := SeqAt.depth_of_shaped sd
  exact SeqAt.in_tuple_reads r2 r1 se (SeqAt.canLay_of_shaped sd) (by omega) ⟨.bl _, H, I, rfl, q⟩
theorem op_notInTD (hu : X.A.units + 65 < cLine) : OpR X (compareOp .NotIn) (rInTD X.K true) := by
  intro pins s σ H x y v u Q I rx ry h
  obtain ⟨d, ds, hd, he, sd, se, q⟩ := h
  obtain ⟨as, r1⟩ := Dp.reads I d x v hd rx
  obtain ⟨bs, r2⟩ := Dp.reads I (.tuple ds) y u he ry
  have := SeqAt.depth_of_shaped sd
  exact SeqAt.notIn_tuple_reads r2 r1 se (SeqAt.canLay_of_shaped sd) (by omega) ⟨.bl _, H, I, rfl, q⟩
end
end XT

/-! all ways to put slots on the slots of the sorted ones -/
namespace XT
def exNext (due : List Int) (s : Int) (r : List Int) (m : Nat) : List Nat := (List.range m).filter fun i => decide (due[i]? = some s) && !r.contains (i : Int)
def exStep (due : List Int) (s : Int) (rows : List (List Int)) : List (List Int) := rows.flatMap fun r => (exNext due s r due.length).map fun i : Nat => r ++ [(i : Int)]
def exFrom (due : List Int) : List Int → List (List Int) → List (List Int)
  | [], rows => rows
  | s :: srt, rows => exFrom due srt (exStep due s rows)
def exRows (due srt : List Int) : List (List Int) := exFrom due srt [[]]
theorem exFrom_snoc (due : List Int) (s : Int) : ∀ (srt : List Int) (rows : List (List Int)), exFrom due (srt ++ [s]) rows = exStep due s (exFrom due srt rows)
  | [], _ => rfl
  | q :: srt, rows => exFrom_snoc due s srt (exStep due q rows)
structure ExOk (due pre r : List Int) : Prop where
  len : r.length = pre.length
  nd : r.Nodup
  lt : ∀ x ∈ r, 0 ≤ x ∧ x < (due.length : Int)
  at_ : r.map (fun x => due[x.toNat]?) = pre.map some
theorem ExOk.nil (due : List Int) : ExOk due [] [] := ⟨rfl, .nil, by simp, rfl⟩
theorem exStep_ok {due pre : List Int} {s : Int} {rows : List (List Int)} (h : ∀ r ∈ rows, ExOk due pre r) : ∀ r ∈ exStep due s rows, ExOk due (pre ++ [s]) r := by
  intro r hr
  obtain ⟨r0, h0, h1⟩ := List.mem_flatMap.mp hr
  obtain ⟨i, hi, rfl⟩ := List.mem_map.mp h1
  have k := h r0 h0
  have hi2 := List.mem_filter.mp hi
  have hlt := List.mem_range.mp hi2.1
  have hb := hi2.2
  rw [Bool.and_eq_true, decide_eq_true_eq, Bool.not_eq_true'] at hb
  have hno : (i : Int) ∉ r0 := fun m => by
    have := List.contains_iff_mem.mpr m
    rw [hb.2] at this
    cases this
  refine ⟨by rw [List.length_append, List.length_append, k.len]; rfl, ?_, fun x hx => ?_, ?_⟩
  · unfold List.Nodup
    rw [List.pairwise_append]
    refine ⟨k.nd, List.pairwise_singleton _ _, fun a ha b hb e => hno ?_⟩
    rw [← List.mem_singleton.mp hb, ← e]
    exact ha
  · rcases List.mem_append.mp hx with hx | hx
    · exact k.lt x hx
    · rw [List.mem_singleton.mp hx]
      omega
  · rw [List.map_append, List.map_append, k.at_]
    have e : ((i : Int)).toNat = i := by omega
    simp [e, hb.1]
theorem exFrom_ok {due : List Int} : ∀ (srt pre : List Int) (rows : List (List Int)), (∀ r ∈ rows, ExOk due pre r) → ∀ r ∈ exFrom due srt rows, ExOk due (pre ++ srt) r
  | [], pre, rows, h, r, hr => by
    rw [List.append_nil]
    exact h r hr
  | s :: srt, pre, rows, h, r, hr => by
    have z := exFrom_ok srt (pre ++ [s]) (exStep due s rows) (exStep_ok h) r hr
    rwa [List.append_assoc] at z
theorem exRows_ok {due srt : List Int} : ∀ r ∈ exRows due srt, ExOk due srt r := exFrom_ok srt [] [[]] fun r hr => by
  rw [List.mem_singleton.mp hr]
  exact .nil due
theorem range_count (l : List Int) (s : Int) : ∀ m, m ≤ l.length → ((List.range m).filter fun i => decide (l[i]? = some s)).length = (l.take m).count s
  | 0, _ => by simp
  | m + 1, h => by
    have hm : l[m]? = some l[m] := List.getElem?_eq_getElem (by omega)
    rw [List.range_succ, List.filter_append, List.length_append, range_count l s m (by omega), List.take_add_one, hm, List.count_append]
    by_cases e : l[m] = s
    · simp [e, hm]
    · have e2 : (l[m] == s) = false := beq_eq_false_iff_ne.mpr e
      simp [e, hm, List.count_cons, e2]
theorem ex_some {due pre rest r : List Int} {s : Int} (pm : (pre ++ s :: rest).Perm due) (k : ExOk due pre r) : exNext due s r due.length ≠ [] := by
  intro hnil
  have hall : ∀ i, i < due.length → due[i]? = some s → (i : Int) ∈ r := fun i hi e => by
    refine Classical.byContradiction fun hno => ?_
    have : i ∈ exNext due s r due.length := by
      refine List.mem_filter.mpr ⟨List.mem_range.mpr hi, ?_⟩
      rw [decide_eq_true e, Bool.true_and, Bool.not_eq_true']
      exact Bool.eq_false_iff.mpr fun z => hno (List.contains_iff_mem.mp z)
    rw [hnil] at this
    cases this
  have h1 := range_count due s due.length (Nat.le_refl _)
  rw [List.take_length] at h1
  have nd1 : (((List.range due.length).filter fun i => decide (due[i]? = some s)).map fun i : Nat => (i : Int)).Nodup := by
    unfold List.Nodup
    rw [List.pairwise_map]
    exact List.Pairwise.imp (fun {a b} hne e => hne (by omega)) (List.Pairwise.filter _ List.nodup_range)
  have h2 := nodup_sub_len (m := r.filter fun x => decide (due[x.toNat]? = some s)) nd1 fun x hx => by
    obtain ⟨i, hi, rfl⟩ := List.mem_map.mp hx
    obtain ⟨hi1, hi2⟩ := List.mem_filter.mp hi
    have e := of_decide_eq_true hi2
    refine List.mem_filter.mpr ⟨hall i (List.mem_range.mp hi1) e, decide_eq_true ?_⟩
    rw [show ((i : Int)).toNat = i by omega]
    exact e
  rw [List.length_map, h1] at h2
  have h3 : (r.filter fun x => decide (due[x.toNat]? = some s)).length = pre.count s := by
    have a1 : (r.map fun x => due[x.toNat]?).count (some s) = (pre.map some).count (some s) := by rw [k.at_]
    have a2 : (pre.map some).count (some s) = pre.count s := by
      clear a1 h2 k pm hnil hall nd1
      induction pre with
      | nil => rfl
      | cons p l ih =>
        rw [List.map_cons, List.count_cons, List.count_cons, ih]
        by_cases e : p = s
        · simp [e]
        · simp [e]
    have a3 : (r.map fun x => due[x.toNat]?).count (some s) = (r.filter fun x => decide (due[x.toNat]? = some s)).length := by
      rw [← List.countP_eq_length_filter]
      unfold List.count
      rw [List.countP_map]
      congr 1
      funext x
      show (due[x.toNat]? == some s) = decide (due[x.toNat]? = some s)
      by_cases e : due[x.toNat]? = some s <;> simp [e]
    omega
  have h4 := pm.count_eq s
  rw [List.count_append, List.count_cons] at h4
  simp at h4
  omega
theorem exFrom_some {due : List Int} : ∀ (srt pre : List Int) (rows : List (List Int)), (pre ++ srt).Perm due → rows ≠ [] → (∀ r ∈ rows, ExOk due pre r) → exFrom due srt rows ≠ []
  | [], _, _, _, h, _ => h
  | s :: srt, pre, rows, pm, h, ok => by
    refine exFrom_some srt (pre ++ [s]) (exStep due s rows) (by rw [List.append_assoc]; exact pm) ?_ (exStep_ok ok)
    match rows, h with
    | r :: rows, _ =>
      have z := ex_some pm (ok r List.mem_cons_self)
      unfold exStep
      rw [List.flatMap_cons]
      match hx : exNext due s r due.length, z with
      | i :: l, _ => simp
theorem exRows_some {due srt : List Int} (pm : srt.Perm due) : exRows due srt ≠ [] := exFrom_some srt [] [[]] pm (by simp) fun r hr => by
  rw [List.mem_singleton.mp hr]
  exact .nil due
theorem exStep_len {due : List Int} {s : Int} {rows : List (List Int)} (h : due.length ≤ 4) : (exStep due s rows).length ≤ rows.length * 4 := by
  unfold exStep
  induction rows with
  | nil => simp
  | cons r rows ih =>
    rw [List.flatMap_cons, List.length_append, List.length_map, List.length_cons]
    have : (exNext due s r due.length).length ≤ 4 := by
      unfold exNext
      have z := List.length_filter_le (fun i : Nat => decide (due[i]? = some s) && !r.contains (i : Int)) (List.range due.length)
      rw [List.length_range] at z
      omega
    omega
theorem exFrom_len {due : List Int} (h : due.length ≤ 4) : ∀ (srt : List Int) (rows : List (List Int)), (exFrom due srt rows).length ≤ rows.length * 4 ^ srt.length
  | [], rows => by simp [exFrom]
  | s :: srt, rows => by
    have z := exFrom_len h srt (exStep due s rows)
    have z2 := exStep_len (s := s) (rows := rows) h
    rw [exFrom, List.length_cons, Nat.pow_succ]
    have z3 := Nat.mul_le_mul_right (4 ^ srt.length) z2
    rw [Nat.mul_assoc, Nat.mul_comm 4] at z3
    omega
theorem exTake_len {due srt : List Int} (h : due.length ≤ 4) (h4 : srt.length ≤ 4) (i : Nat) : (exFrom due (srt.take i) [[]]).length ≤ 256 := by
  have z := exFrom_len h (srt.take i) [[]]
  rw [List.length_take] at z
  have h2 : 4 ^ (min i srt.length) ≤ 256 := by
    have : min i srt.length = 0 ∨ min i srt.length = 1 ∨ min i srt.length = 2 ∨ min i srt.length = 3 ∨ min i srt.length = 4 := by omega
    rcases this with e | e | e | e | e <;> rw [e] <;> decide
  simp at z
  omega
end XT
namespace XT
theorem perm_erase : ∀ {l : List Int} {j : Nat} {x : Int}, l[j]? = some x → l.Perm (x :: l.eraseIdx j)
  | a :: l, 0, x, h => by
    cases (show some a = some x from h)
    exact .refl _
  | a :: l, j + 1, x, h => by
    have z := perm_erase (l := l) (j := j) h
    exact (z.cons a).trans (.swap _ _ _)
end XT
namespace XT
theorem first_at : ∀ {l : List Int} {x : Int}, x ∈ l → ∃ j : Nat, l[j]? = some x ∧ ∀ m : Nat, m < j → l[m]? ≠ some x
  | a :: l, x, h => by
    by_cases e : a = x
    · subst e
      exact ⟨0, rfl, fun m hm => absurd hm (Nat.not_lt_zero m)⟩
    · rcases List.mem_cons.mp h with h | h
      · exact absurd h.symm e
      · obtain ⟨j, h1, h2⟩ := first_at h
        refine ⟨j + 1, h1, fun m hm => ?_⟩
        match m with
        | 0 => exact fun z => e (Option.some.inj z)
        | m + 1 => exact h2 m (by omega)
end XT

namespace K19
open PySem PySem.Spec PyProof.Rows L2 XT
def topS (i : Nat) : Stmt := PySem.Challenge.pw_bagkinds_k19_guarded_slots.main.body.getD i (.Pass ⟨0, 0, 0, 0⟩)
abbrev s_guarded_slots : Stmt := topS 1
theorem sc_guarded_slots : FnScope ["kind", "found", "slot", "_", "slots"] ["kind"] (defScope s_guarded_slots) :=
  ⟨rfl, rfl, rfl, by decide +kernel, rfl, by decide +kernel, by decide +kernel⟩
abbrev s_is_guarded : Stmt := topS 2
theorem sc_is_guarded : FnScope ["kind"] ["kind"] (defScope s_is_guarded) :=
  ⟨rfl, rfl, rfl, by decide +kernel, rfl, by decide +kernel, by decide +kernel⟩
abbrev s__law_mixed : Stmt := topS 4
theorem sc__law_mixed : FnScope ["number", "k", "again", "once"] ["number", "k"] (defScope s__law_mixed) :=
  ⟨rfl, rfl, rfl, by decide +kernel, rfl, by decide +kernel, by decide +kernel⟩
abbrev s__law_start : Stmt := topS 5
theorem sc__law_start : FnScope ["script", "cell", "seed"] ["script"] (defScope s__law_start) :=
  ⟨rfl, rfl, rfl, by decide +kernel, rfl, by decide +kernel, by decide +kernel⟩
abbrev s__law_take : Stmt := topS 6
theorem sc__law_take : FnScope ["state", "limit", "cell", "cells", "digit"] ["state", "limit"] (defScope s__law_take) :=
  ⟨rfl, rfl, rfl, by decide +kernel, rfl, by decide +kernel, by decide +kernel⟩
abbrev s__law_same : Stmt := topS 7
theorem sc__law_same : FnScope ["actual", "due", "k"] ["actual", "due"] (defScope s__law_same) :=
  ⟨rfl, rfl, rfl, by decide +kernel, rfl, by decide +kernel, by decide +kernel⟩
abbrev s__law_language : Stmt := topS 8
theorem sc__law_language : FnScope ["state", "many", "ahead", "behind", "k", "letters", "places", "pool", "rows", "sorts", "j"] ["state", "many"] (defScope s__law_language) :=
  ⟨rfl, rfl, rfl, by decide +kernel, rfl, by decide +kernel, by decide +kernel⟩
abbrev s__law_atom : Stmt := topS 9
theorem sc__law_atom : FnScope ["state", "language", "sorts", "fit", "number", "relations", "slots", "sort", "slot"] ["state", "language", "sorts"] (defScope s__law_atom) :=
  ⟨rfl, rfl, rfl, by decide +kernel, rfl, by decide +kernel, by decide +kernel⟩
abbrev s__law_some_atoms : Stmt := topS 10
theorem sc__law_some_atoms : FnScope ["state", "language", "sorts", "most", "found", "k", "one"] ["state", "language", "sorts", "most"] (defScope s__law_some_atoms) :=
  ⟨rfl, rfl, rfl, by decide +kernel, rfl, by decide +kernel, by decide +kernel⟩
abbrev s__law_exchanges : Stmt := topS 11
theorem sc__law_exchanges : FnScope ["sorts", "due", "longer", "row", "rows", "sort", "slot"] ["sorts"] (defScope s__law_exchanges) :=
  ⟨rfl, rfl, rfl, by decide +kernel, rfl, by decide +kernel, by decide +kernel⟩
abbrev s__law_put : Stmt := topS 12
theorem sc__law_put : FnScope ["atoms", "row", "one", "slot"] ["atoms", "row"] (defScope s__law_put) :=
  ⟨rfl, rfl, rfl, by decide +kernel, rfl, by decide +kernel, by decide +kernel⟩
abbrev s__law_canonical : Stmt := topS 13
theorem sc__law_canonical : FnScope ["sorts", "atoms", "best", "row", "told"] ["sorts", "atoms"] (defScope s__law_canonical) :=
  ⟨rfl, rfl, rfl, by decide +kernel, rfl, by decide +kernel, by decide +kernel⟩
abbrev s__law_guard : Stmt := topS 14
theorem sc__law_guard : FnScope ["state", "language", "sorts", "fit", "found", "number", "place", "places", "pool", "slot", "slots"] ["state", "language", "sorts"] (defScope s__law_guard) :=
  ⟨rfl, rfl, rfl, by decide +kernel, rfl, by decide +kernel, by decide +kernel⟩
abbrev s__law_due : Stmt := topS 15
theorem sc__law_due : FnScope ["kind", "one", "row", "sets", "slot"] ["kind"] (defScope s__law_due) :=
  ⟨rfl, rfl, rfl, by decide +kernel, rfl, by decide +kernel, by decide +kernel⟩
abbrev s__law_is_told : Stmt := topS 16
theorem sc__law_is_told : FnScope ["kind", "due"] ["kind"] (defScope s__law_is_told) :=
  ⟨rfl, rfl, rfl, by decide +kernel, rfl, by decide +kernel, by decide +kernel⟩
abbrev s_law : Stmt := topS 17
theorem sc_law : FnScope ["script", "again", "atoms", "guards", "is_whole", "kind", "language", "sorts", "state", "turn", "k", "one"] ["script"] (defScope s_law) :=
  ⟨rfl, rfl, rfl, by decide +kernel, rfl, by decide +kernel, by decide +kernel⟩
section
variable {P : Program} {w : World} {K : PySem.W.Frag} {mg : Str → Option Value} {base : Heap} {f : Addr} {fd : FuncData}
theorem pos1 : (0 : Int) < 2147483647 := by decide
theorem pos2 : (0 : Int) < 2147483629 := by decide
theorem pos3 : (0 : Int) < 2147483587 := by decide
def sp__law_mixed (K : PySem.W.Frag) : Sp := fun vs H Q _ => ∃ n k : Int, vs = [.int n, .int k] ∧ ∀ d : Int, Q (.int d) H
theorem ok__law_mixed (F : Fun K "_law_mixed" "_law_mixed" s__law_mixed f fd) (m_int : mg "int" = none) : FnOk P w K mg base CX0 1 f fd ["number", "k"] (sp__law_mixed K) := by
  refine F.ok sc__law_mixed (fun vs H Q E h => ?_) (fun cdv A outer s H vs Q E hr h => ?_)
  · obtain ⟨n, k, rfl, _⟩ := h
    rfl
  obtain ⟨n, k, rfl, q⟩ := h
  refine ⟨_, (pss_cons (ps_set (i := 3) sc__law_mixed.nd rfl (.inl rfl) (pe_op op_mod (pe_callTy call_int1 (by rfl) m_int (by decide +kernel) (pa_cons (pe_op op_add (pe_op op_add (pe_op op_mul (pv 0) pe_int) (pe_op op_mul (pv 1) pe_int)) pe_int) pa_nil)) pe_int))
  (pss_cons (ps_set (i := 2) sc__law_mixed.nd rfl (.inl rfl) (pe_op op_mod (pe_callTy call_int1 (by rfl) m_int (by decide +kernel) (pa_cons (pe_op op_add (pe_op op_add (pe_op op_mul (pv 3) (pe_op op_add (pe_op op_add (pv 3) (pe_op op_mul pe_int (pv 1))) pe_int)) (pe_op op_mul (pv 1) pe_int)) pe_int) pa_nil)) pe_int))
  (pss_one (ps_ret (pe_op op_mod (pe_callTy call_int1 (by rfl) m_int (by decide +kernel) (pa_cons (pe_op op_add (pe_op op_mul (pv 2) pe_int) (pv 3)) pa_nil)) pe_int))))), ?_⟩
  refine ⟨_, rfl, _, _, rfl, rfl, .inr ⟨by decide, by decide⟩, _, rfl, _, _, rfl, rfl, .inr ⟨by decide, by decide⟩, _, _, rfl, rfl, _, _, rfl, rfl, .inl ⟨_, rfl, _, _, rfl, rfl, pos1, ?_⟩⟩
  refine ⟨_, rfl, _, rfl, _, rfl, _, _, rfl, rfl, .inl ⟨by decide, by decide⟩, _, _, rfl, rfl, _, _, rfl, rfl, _, _, rfl, rfl, .inl ⟨by omega, by omega⟩, _, rfl, _, _, rfl, rfl, .inr ⟨by decide, by decide⟩,
    _, _, rfl, rfl, _, _, rfl, rfl, .inl ⟨_, rfl, _, _, rfl, rfl, pos2, ?_⟩⟩
  exact ⟨_, rfl, _, _, rfl, rfl, .inr ⟨by decide, by decide⟩, _, rfl, _, _, rfl, rfl, .inl ⟨_, rfl, _, _, rfl, rfl, pos3, q _⟩⟩

def sp__law_start (K : PySem.W.Frag) : Sp := fun vs H Q _ => ∃ (a : Addr) (ns : List Int), vs = [.ref a] ∧ SqL K H a (ns.map V.int) ∧ ns.length ≤ 63 ∧
  ∀ (st c : Addr) (H' : Hp), Same H H' → H st = none → H c = none → StAt st c ns H' → Q (.ref st) H'
theorem ok__law_start (F : Fun K "_law_start" "_law_start" s__law_start f fd) (C__law_mixed : Cal P w K mg base 1 "_law_mixed" s__law_mixed ["number", "k"] (sp__law_mixed K)) (m_len : mg "len" = none) (m_list : mg "list" = none) : FnOk P w K mg base CX0 2 f fd ["script"] (sp__law_start K) := by
  refine F.ok sc__law_start (fun vs H Q E h => ?_) (fun cdv A outer s H vs Q E hr h => ?_)
  · obtain ⟨a, ns, rfl, _⟩ := h
    rfl
  obtain ⟨a, ns, rfl, hS, h63, q⟩ := h
  refine ⟨_, (pss_cons (ps_set (i := 2) sc__law_start.nd rfl (.inl rfl) (pe_callB call_len_seq (by rfl) m_len (by decide +kernel) (pa_cons (pv 0) pa_nil)))
  (pss_cons (ps_for PassesOwn.never rfl (pi_list (pv 0)) (pg_name (i := 1) sc__law_start.nd rfl (.inl rfl))
  (pss_one (ps_set (i := 2) sc__law_start.nd rfl (.inl rfl) (pe_cal C__law_mixed hr (by first | decide | exact Nat.le_refl _) (by rfl) (pa_cons (pe_op op_add (pv 2) (pv 1)) (pa_cons pe_int pa_nil))))))
  (pss_one (ps_ret (pe_lst (pa_cons pe_int (pa_cons pe_int (pa_cons pe_int (pa_cons (pv 2) (pa_cons (pe_callTy call_list_of (by rfl) m_list (by decide +kernel) (pa_cons (pv 0) pa_nil)) (pa_cons pe_int pa_nil))))))))))), ?_⟩
  refine ⟨_, rfl, a, _, rfl, .inl hS, _, rfl, a, rfl, ⟨_, hS⟩, for_list (xs := ns.map V.int)
    (fun i σ H1 => (∃ (sd : Int) (y : Option V), σ = [some (.ref a), y, some (.int sd)]) ∧ H1 = H) ⟨⟨_, _, rfl⟩, rfl⟩ (fun i σ H1 _ h => by rw [h.2]; exact hS) ?_ ?_⟩
  · rintro i x σ H1 hx ⟨⟨sd, y, rfl⟩, rfl⟩
    rw [List.getElem?_map] at hx
    obtain ⟨n, hn, rfl⟩ := Option.map_eq_some_iff.mp hx
    refine ⟨_, rfl, _, rfl, _, _, rfl, rfl, _, _, rfl, fun d => ?_⟩
    exact ⟨⟨_, _, rfl⟩, rfl⟩
  · rintro σ H1 ⟨⟨sd, y, rfl⟩, rfl⟩
    refine ⟨_, rfl, _, rfl, a, _, rfl, .inl hS, fun c nc => ?_⟩
    refine ⟨show 6 ≤ sizeLine by decide, fun st nst => ?_⟩
    have ncs : c ≠ st := fun e => by rw [← e, upd_same] at nst; cases nst
    refine q st c _ (fun b o e => ?_) ?_ nc ⟨0, 0, 0, sd, 0, upd_same, ?_, by omega, by omega, ncs⟩
    · have e1 : b ≠ c := ne_of_none e nc
      have e2 : (upd H1 c (.lst (ns.map V.int))) b = some o := by rw [upd_ne e1]; exact e
      rw [upd_ne (ne_of_none e2 nst)]
      exact e2
    · rwa [upd_ne (Ne.symm ncs)] at nst
    · rw [upd_ne ncs, upd_same]

def sp__law_take (K : PySem.W.Frag) : Sp := fun vs H Q _ => ∃ (st c : Addr) (ns : List Int) (lim : Int), vs = [.ref st, .int lim] ∧ StAt st c ns H ∧ 0 < lim ∧ lim < 1073741824 ∧
  ∀ (d : Int) (H' : Hp), 0 ≤ d → d < lim → Kept st H H' → StAt st c ns H' → Q (.int d) H'
set_option maxHeartbeats 1000000 in
theorem ok__law_take (F : Fun K "_law_take" "_law_take" s__law_take f fd) (C__law_mixed : Cal P w K mg base 1 "_law_mixed" s__law_mixed ["number", "k"] (sp__law_mixed K)) (m_int : mg "int" = none) (m_len : mg "len" = none) (m_abs : mg "abs" = none) : FnOk P w K mg base CX0 2 f fd ["state", "limit"] (sp__law_take K) := by
  refine F.ok sc__law_take (fun vs H Q E h => ?_) (fun cdv A outer s H vs Q E hr h => ?_)
  · obtain ⟨a, c, ns, l, rfl, _⟩ := h
    rfl
  obtain ⟨st, c, ns, lim, rfl, ⟨a, i, k, sd, n, h1, h2, h3, h4, h5⟩, hl0, hl1, q⟩ := h
  obtain ⟨j, rfl⟩ := Int.eq_ofNat_of_zero_le h3
  have two : (0 : Int) < 2 := by decide
  refine ⟨_, (pss_cons (ps_set (i := 3) sc__law_take.nd rfl (.inl rfl) (pe_ix ix_list (pv 0) pe_int (fun _ _ => rfl)))
  (pss_cons (ps_asg (pe_op op_add (pe_ix ix_list (pv 0) pe_int (fun _ _ => rfl)) pe_int) (pg_sub (pv 0) pe_int set_list))
  (C8.pss_cut (ps_if (pt_cmpR op_eq (pe_ix ix_list (pv 0) pe_int (fun _ _ => rfl)) pe_int (nomark _))
  (pss_cons (ps_if (pt_cmpR op_eq (pe_ix ix_list (pv 0) pe_int (fun _ _ => rfl)) (pe_callB call_len_seq (by rfl) m_len (by decide +kernel) (pa_cons (pv 3) pa_nil)) (nomark _))
  (pss_one (ps_ret (pe_op op_mod (pe_cal C__law_mixed hr (by first | decide | exact Nat.le_refl _) (by rfl) (pa_cons (pe_ix ix_list (pv 0) pe_int (fun _ _ => rfl)) (pa_cons (pe_ix ix_list (pv 0) pe_int (fun _ _ => rfl)) pa_nil))) (pv 1)))) pss_nil)
  (pss_cons (ps_set (i := 2) sc__law_take.nd rfl (.inl rfl) (pe_ix ix_list (pv 3) (pe_ix ix_list (pv 0) pe_int (fun _ _ => rfl)) (fun _ _ => rfl)))
  (pss_cons (ps_asg (pe_op op_add (pe_ix ix_list (pv 0) pe_int (fun _ _ => rfl)) pe_int) (pg_sub (pv 0) pe_int set_list))
  (pss_cons (ps_if (pt_cmpR op_eq (pe_op op_mod (pe_callTy call_int1 (by rfl) m_int (by decide +kernel) (pa_cons (pv 2) pa_nil)) pe_int) pe_int (nomark _))
  (pss_one (ps_ret (pe_op op_mod (pe_cal C__law_mixed hr (by first | decide | exact Nat.le_refl _) (by rfl) (pa_cons (pv 2) (pa_cons (pe_ix ix_list (pv 0) pe_int (fun _ _ => rfl)) pa_nil))) (pv 1)))) pss_nil)
  (pss_cons (ps_asg (pe_op op_fdiv (pe_callB call_abs (by rfl) m_abs (by decide +kernel) (pa_cons (pv 2) pa_nil)) pe_int) (pg_sub (pv 0) pe_int set_list))
  (pss_one (ps_asg pe_int (pg_sub (pv 0) pe_int set_list)))))))) pss_nil)
  (pss_cons (ps_set (i := 4) sc__law_take.nd rfl (.inl rfl) (pe_op op_mod (pe_callTy call_int1 (by rfl) m_int (by decide +kernel) (pa_cons (pe_ix ix_list (pv 0) pe_int (fun _ _ => rfl)) pa_nil)) (pv 1)))
  (pss_cons (ps_asg (pe_op op_sub (pe_ix ix_list (pv 0) pe_int (fun _ _ => rfl)) pe_int) (pg_sub (pv 0) pe_int set_list))
  (pss_cons (ps_asg (pe_op op_mul (pe_op op_fdiv (pe_ix ix_list (pv 0) pe_int (fun _ _ => rfl)) (pv 1)) (pe_callTy call_int1 (by rfl) m_int (by decide +kernel) (pa_cons (pe_cmpR op_gt (pe_ix ix_list (pv 0) pe_int (fun _ _ => rfl)) pe_int (nomark _)) pa_nil))) (pg_sub (pv 0) pe_int set_list))
  (pss_one (ps_ret (pv 4))))))))), ?_⟩
  refine ⟨_, rfl, st, _, 4, _, rfl, rfl, SqL.of h1, rfl, ?_⟩
  refine ⟨_, rfl, st, _, 2, _, rfl, rfl, SqL.of h1, rfl, _, _, rfl, rfl, _, rfl, st, _, _, 2, rfl, rfl, h1, rfl, ?_⟩
  refine ⟨fun σ' H' => ∃ (y z : Option V) (a' i' n' : Int), σ' = [some (.ref st), some (.int lim), y, some (.ref c), z] ∧
    (∃ G : Hp, Kept st H G ∧ H' = upd G st (.lst [.int a', .int i', .int (k + 1), .int sd, .ref c, .int n'])) ∧ 0 ≤ i' ∧ i' ≤ ns.length, ?_, ?_⟩
  · refine ⟨_, rfl, st, _, 0, _, rfl, rfl, SqL.of upd_same, rfl, rfl, _, rfl, ite2 (fun e => ?_) (fun e => ?_)⟩
    · have hc : SqL K (upd H st (.lst [.int a, .int j, .int (k + 1), .int sd, .ref c, .int n])) c (ns.map V.int) := SqL.of (by rw [upd_ne h5]; exact h2)
      refine ⟨_, rfl, st, _, 1, _, rfl, rfl, SqL.of upd_same, rfl, _, rfl, c, _, rfl, .inl hc, rfl, _, rfl, ite2 (fun e2 => ?_) (fun e2 => ?_)⟩
      · refine ⟨_, rfl, st, _, 3, _, rfl, rfl, SqL.of upd_same, rfl, _, rfl, st, _, 2, _, rfl, rfl, SqL.of upd_same, rfl, _, _, rfl, fun d => ⟨_, rfl, _, _, rfl, rfl, hl0, ?_⟩⟩
        exact q _ _ (Int.emod_nonneg _ (by omega)) (Int.emod_lt_of_pos _ hl0) Kept.own ⟨_, _, _, _, _, upd_same, by rw [upd_ne h5]; exact h2, h3, h4, h5⟩
      · have hj : j < ns.length := by
          have z : ¬ (j : Int) = ns.length := fun z => e2 (decide_eq_true (congrArg V.int (by rw [List.length_map]; exact z)))
          omega
        have hat : atI (ns.map V.int) (j : Int) = some (.int ns[j]) := atI_nat (by rw [List.getElem?_map, List.getElem?_eq_getElem hj]; rfl)
        refine ⟨_, rfl, _, rfl, st, _, 1, _, rfl, rfl, SqL.of upd_same, rfl, c, _, _, _, rfl, rfl, hc, hat, ?_⟩
        refine ⟨_, rfl, st, _, 1, _, rfl, rfl, SqL.of upd_same, rfl, _, _, rfl, rfl, _, rfl, st, _, _, 1, rfl, rfl, upd_same, rfl, ?_⟩
        refine ⟨_, rfl, .inl ⟨_, rfl, _, _, rfl, rfl, two, rfl, _, rfl, ite2 (fun e3 => ?_) (fun e3 => ?_)⟩⟩
        · refine ⟨_, rfl, _, rfl, st, _, 2, _, rfl, rfl, SqL.of upd_same, rfl, _, _, rfl, fun d => ⟨_, rfl, _, _, rfl, rfl, hl0, ?_⟩⟩
          exact q _ _ (Int.emod_nonneg _ (by omega)) (Int.emod_lt_of_pos _ hl0) (Kept.own.trans Kept.own)
            ⟨_, _, _, _, _, upd_same, by rw [upd_ne h5, upd_ne h5]; exact h2, by omega, by omega, h5⟩
        · refine ⟨_, rfl, _, rfl, _, _, rfl, rfl, ⟨by decide, by decide⟩, _, rfl, st, _, _, 0, rfl, rfl, upd_same, rfl, ?_⟩
          refine ⟨_, rfl, st, _, _, 5, rfl, rfl, upd_same, rfl, ?_⟩
          exact ⟨_, _, _, _, _, rfl, ⟨_, (Kept.own.trans Kept.own).trans Kept.own, rfl⟩, by omega, by omega⟩
    · exact ⟨_, _, _, _, _, rfl, ⟨_, Kept.refl _ _, rfl⟩, h3, h4⟩
  · rintro σ' H' ⟨y, z, a', i', n', rfl, ⟨G, hG, rfl⟩, hi0, hi1⟩
    have gc : G c = some (.lst (ns.map V.int)) := hG _ _ h5 h2
    have small : ∀ b : Bool, -(2 ^ 64 : Int) < (if b then 1 else 0) ∧ (if b then 1 else 0) < (2 ^ 64 : Int) := by decide
    refine ⟨_, rfl, st, _, 0, _, rfl, rfl, SqL.of upd_same, rfl, .inl ⟨_, rfl, _, rfl, _, _, rfl, rfl, hl0, ?_⟩⟩
    refine ⟨_, rfl, st, _, 5, _, rfl, rfl, SqL.of upd_same, rfl, _, _, rfl, rfl, _, rfl, st, _, _, 5, rfl, rfl, upd_same, rfl, ?_⟩
    refine ⟨_, rfl, st, _, 0, _, rfl, rfl, SqL.of upd_same, rfl, _, rfl, _, _, rfl, rfl, ⟨hl0, hl1⟩, _, rfl, st, _, 5, _, rfl, rfl, SqL.of upd_same, rfl, _, _, rfl, rfl,
      .inr ⟨_, rfl, _, _, rfl, rfl, .inr (small _), _, rfl, st, _, _, 0, rfl, rfl, upd_same, rfl, _, rfl, ?_⟩⟩
    exact q _ _ (Int.emod_nonneg _ (by omega)) (Int.emod_lt_of_pos _ hl0) (hG.trans ((Kept.own.trans Kept.own).trans Kept.own))
      ⟨_, _, _, _, _, upd_same, by rw [upd_ne h5, upd_ne h5, upd_ne h5]; exact gc, hi0, hi1, h5⟩

def sp_same_n (n : Nat) (K : PySem.W.Frag) : Sp := fun vs H Q _ => ∃ (x y : V) (d : PyData), vs = [x, y] ∧ Dp K H x d ∧ Dp K H y d ∧ okD n d ∧ ∀ H', Same H H' → Q (.bl true) H'
def sp__law_same (K : PySem.W.Frag) : Sp := sp_same_n 8 K
set_option maxHeartbeats 1000000 in
theorem ok__law_same (F : Fun K "_law_same" "_law_same" s__law_same f fd) (bs : Binds K fd ["actual", "due"] []) (gs : mg "_law_same" = some (.ref f)) (m_isinstance : mg "isinstance" = none) (m_bool : mg "bool" = none) (m_int : mg "int" = none) (m_str : mg "str" = none) (m_range : mg "range" = none) (m_len : mg "len" = none) (m_list : mg "list" = none) (m_tuple : mg "tuple" = none) :
    ∀ n : Nat, FnOk P w K mg base CX0 n f fd ["actual", "due"] (sp_same_n n K)
  | 0 => by
    have no : ∀ vs H Q E, ¬ sp_same_n 0 K vs H Q E := fun vs H Q E h => by
      obtain ⟨x, y, d, _, _, _, ok, _⟩ := h
      exact ok
    exact ⟨fun vs H Q E h => absurd h (no vs H Q E), fun A outer s H args us vs Q E _ _ _ _ h => absurd h (no vs H Q E)⟩
  | n + 1 => by
    have ih := ok__law_same F bs gs m_isinstance m_bool m_int m_str m_range m_len m_list m_tuple n
    have C__law_same : Cal P w K mg base n "_law_same" s__law_same ["actual", "due"] (sp_same_n n K) := ⟨_, _, ih, F, bs, gs⟩
    refine F.ok sc__law_same (fun vs H Q E h => ?_) (fun cdv A outer s H vs Q E hr h => ?_)
    · obtain ⟨x, y, d, rfl, _⟩ := h
      rfl
    obtain ⟨x, y, d, rfl, hx, hy, ok, q⟩ := h
    refine ⟨_, (pss_cons (ps_if (pt_cmpR op_isN (pv 1) pe_non (nomark _))
  (pss_one (ps_ret (pe_cmpR op_isN (pv 0) pe_non (nomark _)))) pss_nil)
  (pss_cons (ps_if (pt_val (pe_callB call_isi (by rfl) m_isinstance (by decide +kernel) (pa_cons (pv 1) (pa_cons (pe_bltn (v := .ty "bool") (by rfl) m_bool (by decide +kernel) rfl) pa_nil))))
  (pss_one (ps_ret (pe_and (pe_callB call_isi (by rfl) m_isinstance (by decide +kernel) (pa_cons (pv 0) (pa_cons (pe_bltn (v := .ty "bool") (by rfl) m_bool (by decide +kernel) rfl) pa_nil))) (pe_one (pe_cmpR op_eq (pv 0) (pv 1) (nomark _)))))) pss_nil)
  (pss_cons (ps_if (pt_val (pe_callB call_isi (by rfl) m_isinstance (by decide +kernel) (pa_cons (pv 1) (pa_cons (pe_bltn (v := .ty "int") (by rfl) m_int (by decide +kernel) rfl) pa_nil))))
  (pss_one (ps_ret (pe_and (pe_callB call_isi (by rfl) m_isinstance (by decide +kernel) (pa_cons (pv 0) (pa_cons (pe_bltn (v := .ty "int") (by rfl) m_int (by decide +kernel) rfl) pa_nil))) (pe_and (pe_not (pe_callB call_isi (by rfl) m_isinstance (by decide +kernel) (pa_cons (pv 0) (pa_cons (pe_bltn (v := .ty "bool") (by rfl) m_bool (by decide +kernel) rfl) pa_nil)))) (pe_one (pe_cmpR op_eq (pv 0) (pv 1) (nomark _))))))) pss_nil)
  (pss_cons (ps_if (pt_val (pe_callB call_isi (by rfl) m_isinstance (by decide +kernel) (pa_cons (pv 1) (pa_cons (pe_bltn (v := .ty "str") (by rfl) m_str (by decide +kernel) rfl) pa_nil))))
  (pss_one (ps_ret (pe_and (pe_callB call_isi (by rfl) m_isinstance (by decide +kernel) (pa_cons (pv 0) (pa_cons (pe_bltn (v := .ty "str") (by rfl) m_str (by decide +kernel) rfl) pa_nil))) (pe_one (pe_cmpR op_eq (pv 0) (pv 1) (nomark _)))))) pss_nil)
  (pss_cons (ps_if (PW.pt (pw_or (pt_cmpR op_ne (pe_callB call_isi (by rfl) m_isinstance (by decide +kernel) (pa_cons (pv 1) (pa_cons (pe_bltn (v := .ty "list") (by rfl) m_list (by decide +kernel) rfl) pa_nil))) (pe_callB call_isi (by rfl) m_isinstance (by decide +kernel) (pa_cons (pv 0) (pa_cons (pe_bltn (v := .ty "list") (by rfl) m_list (by decide +kernel) rfl) pa_nil))) (nomark _)) (pw_or1 (pt_cmpR op_ne (pe_callB call_isi (by rfl) m_isinstance (by decide +kernel) (pa_cons (pv 1) (pa_cons (pe_bltn (v := .ty "tuple") (by rfl) m_tuple (by decide +kernel) rfl) pa_nil))) (pe_callB call_isi (by rfl) m_isinstance (by decide +kernel) (pa_cons (pv 0) (pa_cons (pe_bltn (v := .ty "tuple") (by rfl) m_tuple (by decide +kernel) rfl) pa_nil))) (nomark _)))))
  (pss_one (ps_ret pe_bl)) pss_nil)
  (pss_cons (ps_if (pt_cmpR op_ne (pe_callB call_len_seq (by rfl) m_len (by decide +kernel) (pa_cons (pv 0) pa_nil)) (pe_callB call_len_seq (by rfl) m_len (by decide +kernel) (pa_cons (pv 1) pa_nil)) (nomark _))
  (pss_one (ps_ret pe_bl)) pss_nil)
  (pss_cons (ps_for PassesOwn.never rfl (pi_range1 (by rfl) m_range (pa_cons (pe_callB call_len_seq (by rfl) m_len (by decide +kernel) (pa_cons (pv 1) pa_nil)) pa_nil)) (pg_name (i := 2) sc__law_same.nd rfl (.inl rfl))
  (pss_one (ps_if (pt_not (pt_val (pe_cal C__law_same hr (by first | decide | exact Nat.le_refl _) (by rfl) (pa_cons (pe_ix ix_seq (pv 0) (pv 2) (fun _ _ => rfl)) (pa_cons (pe_ix ix_seq (pv 1) (pv 2) (fun _ _ => rfl)) pa_nil)))))
  (pss_one (ps_ret pe_bl)) pss_nil)))
  (pss_one (ps_ret pe_bl))))))))), ?_⟩
    have fin := q H (Same.refl H)
    cases d with
    | none =>
      cases hx
      cases hy
      refine ⟨_, rfl, rfl, _, rfl, ite2 (fun _ => ?_) (fun e => absurd (decide_eq_true rfl) e)⟩
      exact ⟨_, rfl, rfl, fin⟩
    | bool b =>
      cases hx
      cases hy
      refine ⟨_, rfl, rfl, _, rfl, ite2 (fun e => absurd (of_decide_eq_true e) (by simp)) (fun _ => ?_)⟩
      refine ⟨_, rfl, _, _, _, _, true, rfl, .ty _, .base (.bl b), kit_ty (by decide +kernel), _, rfl, iteT ?_⟩
      refine ⟨_, rfl, _, _, _, _, true, rfl, .ty _, .base (.bl b), kit_ty (by decide +kernel), _, rfl, iteT ?_⟩
      refine ⟨_, rfl, _, rfl, rfl, ?_⟩
      rw [decide_eq_true rfl]
      exact fin
    | int i =>
      cases hx
      cases hy
      refine ⟨_, rfl, rfl, _, rfl, ite2 (fun e => absurd (of_decide_eq_true e) (by simp)) (fun _ => ?_)⟩
      refine ⟨_, rfl, _, _, _, _, false, rfl, .ty _, .base (.int i), kit_ty (by decide +kernel), _, rfl, iteF ?_⟩
      refine ⟨_, rfl, _, _, _, _, true, rfl, .ty _, .base (.int i), kit_ty (by decide +kernel), _, rfl, iteT ?_⟩
      refine ⟨_, rfl, _, _, _, _, true, rfl, .ty _, .base (.int i), kit_ty (by decide +kernel), _, rfl, iteT ?_⟩
      refine ⟨_, rfl, _, _, _, _, false, rfl, .ty _, .base (.int i), kit_ty (by decide +kernel), _, rfl, _, rfl, iteT ?_⟩
      refine ⟨_, rfl, _, rfl, rfl, ?_⟩
      rw [decide_eq_true rfl]
      exact fin
    | str z =>
      cases hx
      cases hy
      refine ⟨_, rfl, rfl, _, rfl, ite2 (fun e => absurd (of_decide_eq_true e) (by simp)) (fun _ => ?_)⟩
      refine ⟨_, rfl, _, _, _, _, false, rfl, .ty _, .base (.str z), kit_ty (by decide +kernel), _, rfl, iteF ?_⟩
      refine ⟨_, rfl, _, _, _, _, false, rfl, .ty _, .base (.str z), kit_ty (by decide +kernel), _, rfl, iteF ?_⟩
      refine ⟨_, rfl, _, _, _, _, true, rfl, .ty _, .base (.str z), kit_ty (by decide +kernel), _, rfl, iteT ?_⟩
      refine ⟨_, rfl, _, _, _, _, true, rfl, .ty _, .base (.str z), kit_ty (by decide +kernel), _, rfl, iteT ?_⟩
      refine ⟨_, rfl, _, rfl, rfl, ?_⟩
      rw [decide_eq_true rfl]
      exact fin
    | list ds =>
      obtain ⟨a, xs, rfl, ha, da⟩ := Dp.lstI hx
      obtain ⟨b, ys, rfl, hb, db⟩ := Dp.lstI hy
      obtain ⟨ok1, ok2⟩ : ds.length ≤ 100000 ∧ ∀ e ∈ ds, okD n e := ok
      have l1 := da.len
      have l2 := db.len
      have ta := SqL.ty ha
      have tb := SqL.ty hb
      refine ⟨_, rfl, rfl, _, rfl, ite2 (fun e => absurd (of_decide_eq_true e) (by simp)) (fun _ => ?_)⟩
      refine ⟨_, rfl, _, _, _, _, false, rfl, .ty _, tb, kit_ty (by decide +kernel), _, rfl, iteF ?_⟩
      refine ⟨_, rfl, _, _, _, _, false, rfl, .ty _, tb, kit_ty (by decide +kernel), _, rfl, iteF ?_⟩
      refine ⟨_, rfl, _, _, _, _, false, rfl, .ty _, tb, kit_ty (by decide +kernel), _, rfl, iteF ?_⟩
      refine ⟨_, rfl, _, _, _, _, true, rfl, .ty _, tb, kit_ty (by decide +kernel), _, rfl, _, _, _, _, true, rfl, .ty _, ta, kit_ty (by decide +kernel), rfl, _, rfl, iteF ?_⟩
      refine ⟨_, rfl, _, _, _, _, false, rfl, .ty _, tb, kit_ty (by decide +kernel), _, rfl, _, _, _, _, false, rfl, .ty _, ta, kit_ty (by decide +kernel), rfl, _, rfl, iteF ?_⟩
      refine ⟨_, rfl, _, _, rfl, .inl ha, _, rfl, _, _, rfl, .inl hb, rfl, _, rfl, ite2 (fun e => ?_) (fun _ => ?_)⟩
      · rw [l1, l2, decide_eq_true rfl] at e
        cases e
      refine ⟨_, rfl, _, _, rfl, .inl hb, _, rfl, by omega, by omega, ?_⟩
      have en : ((ys.length : Nat) : Int).toNat = ds.length := by omega
      rw [en]
      refine for_range (n := ds.length) (fun i σ H1 => (∃ z : Option V, σ = [some (.ref a), some (.ref b), z]) ∧ Same H H1) ⟨⟨_, rfl⟩, Same.refl H⟩ ?_ ?_
      · rintro i σ H1 hi ⟨⟨z, rfl⟩, sm⟩
        have hd : ds[i]? = some ds[i] := List.getElem?_eq_getElem hi
        obtain ⟨v1, e1, d1⟩ := da.get hd
        obtain ⟨v2, e2, d2⟩ := db.get hd
        have e0 : (0 : Int) + (i : Nat) = (i : Nat) := by omega
        refine ⟨_, rfl, _, rfl, .inl ⟨a, xs, _, v1, rfl, rfl, sm.seq ha, by rw [e0]; exact atI_nat e1, ?_⟩⟩
        refine ⟨_, rfl, _, rfl, .inl ⟨b, ys, _, v2, rfl, rfl, sm.seq hb, by rw [e0]; exact atI_nat e2, ?_⟩⟩
        refine ⟨_, _, _, rfl, Dp.same sm d1, Dp.same sm d2, ok2 _ (List.getElem_mem hi), fun H2 sm2 => ⟨_, rfl, iteF ?_⟩⟩
        exact ⟨⟨_, rfl⟩, sm.trans sm2⟩
      · rintro σ H1 ⟨⟨z, rfl⟩, sm⟩
        exact q H1 sm
    | tuple ds =>
      obtain ⟨a, xs, rfl, ha, da⟩ := Dp.tupI hx
      obtain ⟨b, ys, rfl, hb, db⟩ := Dp.tupI hy
      obtain ⟨ok1, ok2⟩ : ds.length ≤ 100000 ∧ ∀ e ∈ ds, okD n e := ok
      have l1 := da.len
      have l2 := db.len
      have ta := SqT.ty ha
      have tb := SqT.ty hb
      refine ⟨_, rfl, rfl, _, rfl, ite2 (fun e => absurd (of_decide_eq_true e) (by simp)) (fun _ => ?_)⟩
      refine ⟨_, rfl, _, _, _, _, false, rfl, .ty _, tb, kit_ty (by decide +kernel), _, rfl, iteF ?_⟩
      refine ⟨_, rfl, _, _, _, _, false, rfl, .ty _, tb, kit_ty (by decide +kernel), _, rfl, iteF ?_⟩
      refine ⟨_, rfl, _, _, _, _, false, rfl, .ty _, tb, kit_ty (by decide +kernel), _, rfl, iteF ?_⟩
      refine ⟨_, rfl, _, _, _, _, false, rfl, .ty _, tb, kit_ty (by decide +kernel), _, rfl, _, _, _, _, false, rfl, .ty _, ta, kit_ty (by decide +kernel), rfl, _, rfl, iteF ?_⟩
      refine ⟨_, rfl, _, _, _, _, true, rfl, .ty _, tb, kit_ty (by decide +kernel), _, rfl, _, _, _, _, true, rfl, .ty _, ta, kit_ty (by decide +kernel), rfl, _, rfl, iteF ?_⟩
      refine ⟨_, rfl, _, _, rfl, .inr ha, _, rfl, _, _, rfl, .inr hb, rfl, _, rfl, ite2 (fun e => ?_) (fun _ => ?_)⟩
      · rw [l1, l2, decide_eq_true rfl] at e
        cases e
      refine ⟨_, rfl, _, _, rfl, .inr hb, _, rfl, by omega, by omega, ?_⟩
      have en : ((ys.length : Nat) : Int).toNat = ds.length := by omega
      rw [en]
      refine for_range (n := ds.length) (fun i σ H1 => (∃ z : Option V, σ = [some (.ref a), some (.ref b), z]) ∧ Same H H1) ⟨⟨_, rfl⟩, Same.refl H⟩ ?_ ?_
      · rintro i σ H1 hi ⟨⟨z, rfl⟩, sm⟩
        have hd : ds[i]? = some ds[i] := List.getElem?_eq_getElem hi
        obtain ⟨v1, e1, d1⟩ := da.get hd
        obtain ⟨v2, e2, d2⟩ := db.get hd
        have e0 : (0 : Int) + (i : Nat) = (i : Nat) := by omega
        refine ⟨_, rfl, _, rfl, .inr (.inl ⟨a, xs, _, v1, rfl, rfl, sm.seqT ha, by rw [e0]; exact atI_nat e1, ?_⟩)⟩
        refine ⟨_, rfl, _, rfl, .inr (.inl ⟨b, ys, _, v2, rfl, rfl, sm.seqT hb, by rw [e0]; exact atI_nat e2, ?_⟩)⟩
        refine ⟨_, _, _, rfl, Dp.same sm d1, Dp.same sm d2, ok2 _ (List.getElem_mem hi), fun H2 sm2 => ⟨_, rfl, iteF ?_⟩⟩
        exact ⟨⟨_, rfl⟩, sm.trans sm2⟩
      · rintro σ H1 ⟨⟨z, rfl⟩, sm⟩
        exact q H1 sm
    | dict kvs => cases hx


/-- a language stands at t, its places laid by tuple(..) -/
def LangF (K : PySem.W.Frag) (H : Hp) (t : Addr) (L : Lg) : Prop := ∃ (rt : Addr) (rs : List (Addr × Addr)),
  SqT K H t [.int (L.sorts : Int), .ref rt] ∧ SqT K H rt (rs.map fun p => .ref p.1) ∧ rs.length = L.rels.length ∧
  ∀ (i : Nat) (p : Addr × Addr) (r : Str × List Nat), rs[i]? = some p → L.rels[i]? = some r → SqT K H p.1 [.str r.1, .ref p.2] ∧ TupF H p.2 (intsV r.2)
theorem LangF.lang {K : PySem.W.Frag} {H : Hp} {t : Addr} {L : Lg} (h : LangF K H t L) : LangAt K H t L := by
  obtain ⟨rt, rs, h1, h2, h3, h4⟩ := h
  exact ⟨rt, rs, h1, h2, h3, fun i p r e1 e2 => ⟨(h4 i p r e1 e2).1, (h4 i p r e1 e2).2.seqT⟩⟩
theorem LangF.keep {K : PySem.W.Frag} {H H' : Hp} {t : Addr} {L : Lg} (e : Tups H H') (f : ∀ a xs, TupF H a xs → TupF H' a xs) (h : LangF K H t L) : LangF K H' t L := by
  obtain ⟨rt, rs, h1, h2, h3, h4⟩ := h
  exact ⟨rt, rs, e _ _ _ h1, e _ _ _ h2, h3, fun i p r e1 e2 => ⟨e _ _ _ (h4 i p r e1 e2).1, f _ _ (h4 i p r e1 e2).2⟩⟩
theorem LangF.same {K : PySem.W.Frag} {H H' : Hp} {t : Addr} {L : Lg} (e : Same H H') (h : LangF K H t L) : LangF K H' t L := h.keep (Tups.same e) fun _ _ q => q.same e
/-- a language of many relations stands at t -/
def sp__law_language (K : PySem.W.Frag) : Sp := fun vs H Q _ => ∃ (st c : Addr) (ns : List Int) (many : Nat), vs = [.ref st, .int (many : Int)] ∧ StAt st c ns H ∧ many ≤ 16 ∧
  ∀ (t : Addr) (L : Lg) (H' : Hp), LgOk L → L.rels.length = many → Kept st H H' → StAt st c ns H' → LangF K H' t L → Q (.ref t) H'
def alph : Str := "abcdefghijklmnopqrstuvwxyz"
theorem alph_len : alph.cps.toList.length = 26 := by decide +kernel
theorem alph_fits : alph.length ≤ sizeLine := by decide +kernel
theorem signs_len : (signsV alph).length = 26 := by decide +kernel
theorem places_ok : ∀ v ∈ [V.int 1, V.int 2, V.int 2, V.int 3, V.int 4, V.int 1], ∃ x : Nat, v = .int (x : Int) ∧ 1 ≤ x ∧ x ≤ 4 := by
  intro v hv
  simp only [List.mem_cons, List.mem_singleton, List.not_mem_nil, or_false] at hv
  rcases hv with rfl | rfl | rfl | rfl | rfl | rfl
  · exact ⟨1, rfl, by omega, by omega⟩
  · exact ⟨2, rfl, by omega, by omega⟩
  · exact ⟨2, rfl, by omega, by omega⟩
  · exact ⟨3, rfl, by omega, by omega⟩
  · exact ⟨4, rfl, by omega, by omega⟩
  · exact ⟨1, rfl, by omega, by omega⟩
theorem sorts_ok : ∀ v ∈ [V.int 1, V.int 1, V.int 2, V.int 2, V.int 3, V.int 4], ∃ x : Nat, v = .int (x : Int) ∧ 1 ≤ x ∧ x ≤ 4 := by
  intro v hv
  simp only [List.mem_cons, List.mem_singleton, List.not_mem_nil, or_false] at hv
  rcases hv with rfl | rfl | rfl | rfl | rfl | rfl
  · exact ⟨1, rfl, by omega, by omega⟩
  · exact ⟨1, rfl, by omega, by omega⟩
  · exact ⟨2, rfl, by omega, by omega⟩
  · exact ⟨2, rfl, by omega, by omega⟩
  · exact ⟨3, rfl, by omega, by omega⟩
  · exact ⟨4, rfl, by omega, by omega⟩
theorem two_fits : 2 ≤ sizeLine := by decide
set_option maxHeartbeats 4000000 in
theorem ok__law_language (F : Fun K "_law_language" "_law_language" s__law_language f fd) (C__law_take : Cal P w K mg base 2 "_law_take" s__law_take ["state", "limit"] (sp__law_take K)) (m_list : mg "list" = none) (m_range : mg "range" = none) (m_tuple : mg "tuple" = none) (m_len : mg "len" = none) : FnOk P w K mg base CX0 3 f fd ["state", "many"] (sp__law_language K) := by
  refine F.ok sc__law_language (fun vs H Q E h => ?_) (fun cdv A outer s H vs Q E hr h => ?_)
  · obtain ⟨a, c, ns, m, rfl, _⟩ := h
    rfl
  obtain ⟨st, c, ns, many, rfl, hst, hm, q⟩ := h
  have W := drw st c ns
  refine ⟨_, (pss_cons (ps_set (i := 5) sc__law_language.nd rfl (.inr rfl) pe_str)
  (pss_cons (ps_set (i := 7) sc__law_language.nd rfl (.inl rfl) (pe_callTy (call_list_txt rfl) (by rfl) m_list (by decide +kernel) (pa_cons (pv 5) pa_nil)))
  (pss_cons (ps_set (i := 2) sc__law_language.nd rfl (.inl rfl) (pe_join pe_str (pe_lc (own := [("k", 4)]) rfl sc__law_language.nd (pi_range1 (by rfl) m_range (pa_cons (pe_cal C__law_take hr (by first | decide | exact Nat.le_refl _) (by rfl) (pa_cons (pv 0) (pa_cons pe_int pa_nil))) pa_nil)) (blkOk_by (N := ["state", "many", "ahead", "behind", "k", "letters", "places", "pool", "rows", "sorts", "j"]) (sc := defScope s__law_language) (by decide +kernel)) (fun _ _ _ _ _ => (pg_name (i := 4) sc__law_language.nd rfl (.inl rfl))) (fun _ _ _ _ _ => pts_nil) (fun _ _ _ _ _ => (pe_ix ix_str (pv 5) (pe_cal C__law_take hr (by first | decide | exact Nat.le_refl _) (by rfl) (pa_cons (pv 0) (pa_cons pe_int pa_nil))) (fun _ _ => rfl))))))
  (pss_cons (ps_set (i := 3) sc__law_language.nd rfl (.inl rfl) (pe_join pe_str (pe_lc (own := [("k", 4)]) rfl sc__law_language.nd (pi_range1 (by rfl) m_range (pa_cons (pe_cal C__law_take hr (by first | decide | exact Nat.le_refl _) (by rfl) (pa_cons (pv 0) (pa_cons pe_int pa_nil))) pa_nil)) (blkOk_by (N := ["state", "many", "ahead", "behind", "k", "letters", "places", "pool", "rows", "sorts", "j"]) (sc := defScope s__law_language) (by decide +kernel)) (fun _ _ _ _ _ => (pg_name (i := 4) sc__law_language.nd rfl (.inl rfl))) (fun _ _ _ _ _ => pts_nil) (fun _ _ _ _ _ => (pe_ix ix_str (pv 5) (pe_cal C__law_take hr (by first | decide | exact Nat.le_refl _) (by rfl) (pa_cons (pv 0) (pa_cons pe_int pa_nil))) (fun _ _ => rfl))))))
  (pss_cons (ps_set (i := 9) sc__law_language.nd rfl (.inr rfl) (pe_ix ix_list (pe_lst (pa_cons pe_int (pa_cons pe_int (pa_cons pe_int (pa_cons pe_int (pa_cons pe_int (pa_cons pe_int pa_nil))))))) (pe_cal C__law_take hr (by first | decide | exact Nat.le_refl _) (by rfl) (pa_cons (pv 0) (pa_cons pe_int pa_nil))) (fun _ _ => rfl)))
  (pss_cons (ps_set (i := 8) sc__law_language.nd rfl (.inl rfl) (pe_lst pa_nil))
  (pss_cons (ps_for PassesOwn.never rfl (pi_range1 (by rfl) m_range (pa_cons (pv 1) pa_nil)) (pg_name (i := 4) sc__law_language.nd rfl (.inl rfl))
  (pss_cons (ps_setLc (i := 6) (own := [("j", 10)]) rfl sc__law_language.nd rfl rfl (sw_true rfl rfl rfl (by decide +kernel)) (pi_range1 (by rfl) m_range (pa_cons (pe_ix ix_list (pe_lst (pa_cons pe_int (pa_cons pe_int (pa_cons pe_int (pa_cons pe_int (pa_cons pe_int (pa_cons pe_int pa_nil))))))) (pe_cal C__law_take hr (by first | decide | exact Nat.le_refl _) (by rfl) (pa_cons (pv 0) (pa_cons pe_int pa_nil))) (fun _ _ => rfl)) pa_nil)) (blkOk_by (N := ["state", "many", "ahead", "behind", "k", "letters", "places", "pool", "rows", "sorts", "j"]) (sc := defScope s__law_language) (by decide +kernel)) (fun _ _ _ _ _ => (pg_name (i := 10) sc__law_language.nd rfl (.inl rfl))) (fun _ _ _ _ _ => pts_nil) (fun _ _ _ _ _ => (pe_cal C__law_take hr (by first | decide | exact Nat.le_refl _) (by rfl) (pa_cons (pv 0) (pa_cons (pv 9) pa_nil)))))
  (pss_one (ps_expr (pe_bm PySem.F.plainAttrs_list PySem.F.slot_list_append PySem.F.type_list_append mt_append (pv 8) (pa_cons (pe_tup (pa_cons (pe_op op_add_str (pe_op op_add_str (pv 2) (pe_bm PySem.F.plainAttrs_list PySem.F.slot_list_pop PySem.F.type_list_pop mt_popAt (pv 7) (pa_cons (pe_cal C__law_take hr (by first | decide | exact Nat.le_refl _) (by rfl) (pa_cons (pv 0) (pa_cons (pe_callB call_len_seq (by rfl) m_len (by decide +kernel) (pa_cons (pv 7) pa_nil)) pa_nil))) pa_nil))) (pv 3)) (pa_cons (pe_callTy call_tuple_ofF (by rfl) m_tuple (by decide +kernel) (pa_cons (pv 6) pa_nil)) pa_nil))) pa_nil))))))
  (pss_one (ps_ret (pe_tup (pa_cons (pv 9) (pa_cons (pe_callTy call_tuple_of (by rfl) m_tuple (by decide +kernel) (pa_cons (pv 8) pa_nil)) pa_nil)))))))))))), ?_⟩
  -- letters, pool
  refine ⟨_, rfl, alph, rfl, alph_fits, fun pl npl => ?_⟩
  have s1 := W.new (o := .lst (signsV alph)) hst npl
  have k1 : Kept st H (upd H pl (.lst (signsV alph))) := Kept.new npl
  have e1 : (upd H pl (.lst (signsV alph))) pl = some (.lst (signsV alph)) := upd_same
  have npl2 := (W.fresh _ _ hst npl).1
  generalize upd H pl (.lst (signsV alph)) = H1 at s1 k1 e1
  -- ahead
  refine ⟨⟨_, rfl⟩, _, rfl, st, c, ns, 4, rfl, s1, by decide, by decide, fun d1 H2 d10 d11 k2 s2 => ⟨_, rfl, by omega, by omega, fun D nD => ?_⟩⟩
  refine lc_draw W (fun _ v => One v) (fun _ _ _ _ h => h) (by omega) s2 nD (fun _ => rfl) ?_ ?_
  · intro i H3 hi s3 k3 R hR
    refine ⟨_, rfl, _, rfl, st, c, ns, 26, rfl, s3, by decide, by decide, fun d H4 h0 h1 k4 s4 => ?_⟩
    obtain ⟨ch, hat, _⟩ := atI_pick (l := alph.cps.toList) h0 (by rw [alph_len]; exact h1)
    exact ⟨alph, d, ch, rfl, rfl, alph_fits, hat, hR _ _ ⟨ch, rfl⟩ k4 s4⟩
  intro H5 xs l5 o5 e5 k5 s5
  obtain ⟨ys, rfl, y1⟩ := ones_strs o5
  rw [List.length_map] at l5
  refine ⟨Str.empty, D, ys, congrArg V.str empty_eq, rfl, .inl (SqL.of e5), word_sum (n := 4) (by omega) y1 (by omega), ?_⟩
  have lA : (Txt.join Str.empty ys).length ≤ 4 := word_len (by omega) y1
  generalize Txt.join Str.empty ys = wA at lA
  have kA : Kept st H1 H5 := k2.trans k5
  clear nD e5 k5 k2 s2 l5 o5
  -- behind
  refine ⟨⟨_, rfl⟩, _, rfl, st, c, ns, 5, rfl, s5, by decide, by decide, fun d2 H6 d20 d21 k6 s6 => ⟨_, rfl, by omega, by omega, fun D2 nD2 => ?_⟩⟩
  refine lc_draw W (fun _ v => One v) (fun _ _ _ _ h => h) (by omega) s6 nD2 (fun _ => rfl) ?_ ?_
  · intro i H3 hi s3 k3 R hR
    refine ⟨_, rfl, _, rfl, st, c, ns, 26, rfl, s3, by decide, by decide, fun d H4 h0 h1 k4 s4 => ?_⟩
    obtain ⟨ch, hat, _⟩ := atI_pick (l := alph.cps.toList) h0 (by rw [alph_len]; exact h1)
    exact ⟨alph, d, ch, rfl, rfl, alph_fits, hat, hR _ _ ⟨ch, rfl⟩ k4 s4⟩
  intro H7 xs l7 o7 e7 k7 s7
  obtain ⟨ys, rfl, y2⟩ := ones_strs o7
  rw [List.length_map] at l7
  refine ⟨Str.empty, D2, ys, congrArg V.str empty_eq, rfl, .inl (SqL.of e7), word_sum (n := 5) (by omega) y2 (by omega), ?_⟩
  have lB : (Txt.join Str.empty ys).length ≤ 5 := word_len (by omega) y2
  generalize Txt.join Str.empty ys = wB at lB
  have kB : Kept st H1 H7 := kA.trans (k6.trans k7)
  clear nD2 e7 k7 k6 s6 l7 o7 kA s5
  -- sorts
  refine ⟨show 6 ≤ sizeLine by decide, fun l nl => ?_⟩
  have s8 := W.new (o := .lst [V.int 1, V.int 1, V.int 2, V.int 2, V.int 3, V.int 4]) s7 nl
  have nls := (W.fresh _ _ s7 nl).1
  refine ⟨_, rfl, st, c, ns, 6, rfl, s8, by decide, by decide, fun d3 H9 d30 d31 k9 s9 => ?_⟩
  obtain ⟨sv, hat, hsv⟩ := atI_pick (l := [V.int 1, V.int 1, V.int 2, V.int 2, V.int 3, V.int 4]) d30 (by exact d31)
  obtain ⟨sorts, rfl, so1, so4⟩ := sorts_ok sv hsv
  refine ⟨l, _, d3, _, rfl, rfl, SqL.of (k9 _ _ nls upd_same), hat, ?_⟩
  have kC : Kept st H1 H9 := kB.trans ((Kept.new nl).trans k9)
  clear hat hsv
  -- rows = []
  refine ⟨Nat.zero_le _, fun rl nrl => ?_⟩
  have s10 := W.new (o := .lst ([] : List V)) s9 nrl
  have kpl : H9 pl = some (.lst (signsV alph)) := kC _ _ npl2 e1
  have nrs := (W.fresh _ _ s9 nrl).1
  have nrp : pl ≠ rl := ne_of_none kpl nrl
  have hk : Kept st H H9 := k1.trans kC
  have hrl : H rl = none := by
    cases e : H rl with
    | none => rfl
    | some o =>
      have z := hk rl o nrs e
      rw [nrl] at z
      cases z
  have putp := (W.fresh _ _ hst npl).2
  have putr := (W.fresh _ _ s9 nrl).2
  have tm : ((many : Nat) : Int).toNat = many := by omega
  refine ⟨_, rfl, _, rfl, by omega, by omega, ?_⟩
  rw [tm]
  refine for_range (n := many) (fun i σ H' => ∃ (a4 a6 a10 : Option V) (ps : List (Addr × Addr)) (rels : List (Str × List Nat)) (pool : List V),
    σ = [some (.ref st), some (.int (many : Int)), some (.str wA), some (.str wB), a4, some (.str alph), a6, some (.ref pl), some (.ref rl), some (.int (sorts : Int)), a10] ∧
    H' rl = some (.lst (ps.map fun p => .ref p.1)) ∧ H' pl = some (.lst pool) ∧ pool.length = 26 - i ∧ (∀ v ∈ pool, One v) ∧ ps.length = i ∧ rels.length = i ∧
    (∀ (j : Nat) (p : Addr × Addr) (r : Str × List Nat), ps[j]? = some p → rels[j]? = some r → SqT K H' p.1 [.str r.1, .ref p.2] ∧ TupF H' p.2 (intsV r.2)) ∧
    (∀ r ∈ rels, 1 ≤ r.2.length ∧ r.2.length ≤ 4 ∧ ∀ s ∈ r.2, s < sorts) ∧ Kept st H H' ∧ StAt st c ns H')
    ⟨_, _, _, [], [], _, rfl, upd_same, by rw [upd_ne nrp]; exact kpl, by rw [signs_len], ones_signs alph, rfl, rfl, by simp, by simp, Kept.over hrl hk, s10⟩ ?_ ?_
  · rintro i σ H1 hi ⟨a4, a6, a10, ps, rels, pool, rfl, f1, f2, f3, f4, f5, f6, f7, f8, f9, f10⟩
    -- places
    refine ⟨show 6 ≤ sizeLine by decide, fun l2 nl2 => ?_⟩
    have t1 := W.new (o := .lst [V.int 1, V.int 2, V.int 2, V.int 3, V.int 4, V.int 1]) f10 nl2
    have nls2 := (W.fresh _ _ f10 nl2).1
    refine ⟨_, rfl, st, c, ns, 6, rfl, t1, by decide, by decide, fun d4 H2 d40 d41 k2 s2 => ?_⟩
    obtain ⟨mv, hat, hmv⟩ := atI_pick (l := [V.int 1, V.int 2, V.int 2, V.int 3, V.int 4, V.int 1]) d40 (by exact d41)
    obtain ⟨m, rfl, m1, m4⟩ := places_ok mv hmv
    refine ⟨l2, _, d4, _, rfl, rfl, SqL.of (k2 _ _ nls2 upd_same), hat, ?_⟩
    have kk : Kept st H1 H2 := (Kept.new nl2).trans k2
    have tmm : ((m : Nat) : Int).toNat = m := by omega
    refine ⟨_, rfl, by omega, by omega, ?_⟩
    rw [tmm]
    intro D nD
    refine lc_draw W (fun _ v => Nums sorts v) (fun _ _ _ _ h => h) (by omega) s2 nD (fun _ => rfl) ?_ ?_
    · intro j H3 hj s3 k3 R hR
      refine ⟨_, rfl, _, rfl, st, c, ns, _, rfl, s3, by omega, by omega, fun d H4 h0 h1 k4 s4 => hR _ _ ?_ k4 s4⟩
      obtain ⟨x, rfl⟩ := Int.eq_ofNat_of_zero_le h0
      exact ⟨x, rfl, by omega⟩
    intro H3 xs l3 o3 e3 k3 s3
    obtain ⟨pls, rfl, pb⟩ := nums_ints o3
    have lp : pls.length = m := by simpa [intsV] using l3
    have k5 : Kept st H1 H3 := kk.trans k3
    -- rows.append
    have hne : rl ≠ pl := nrp.symm
    refine ⟨_, rfl, .inl ⟨rfl, _, SqL.of (k5 _ _ nrs f1)⟩, ?_⟩
    refine ⟨_, rfl, _, rfl, .inl ⟨rfl, _, SqL.of (k5 _ _ npl2 f2)⟩, ?_⟩
    refine ⟨_, rfl, _, rfl, _, _, rfl, .inl (SqL.of (k5 _ _ npl2 f2)), st, c, ns, _, rfl, s3, by omega, by omega, fun d5 H4 h0 h1 k4 s4 => ?_⟩
    have k6 : Kept st H1 H4 := k5.trans k4
    have hlt : d5.toNat < pool.length := by omega
    have hpy : pool[d5.toNat]? = some pool[d5.toNat] := List.getElem?_eq_getElem hlt
    obtain ⟨ch, hch⟩ := f4 _ (List.getElem_mem hlt)
    refine ⟨pl, pool, d5, d5.toNat, _, rfl, rfl, k6 _ _ npl2 f2, by omega, by omega, seqIx h0 h1, hpy, ?_⟩
    rw [hch]
    have u1 : (⟨#[ch]⟩ : Str).length = 1 := rfl
    have small : (10 : Nat) ≤ sizeLine := by decide
    have lAC : (wA ++ (⟨#[ch]⟩ : Str)).length ≤ 5 := by rw [PySem.Str.length_append]; omega
    refine ⟨_, _, rfl, rfl, by omega, ?_⟩
    refine ⟨_, rfl, _, _, rfl, rfl, by omega, ?_⟩
    generalize hnm : (wA ++ (⟨#[ch]⟩ : Str)) ++ wB = nm
    have nDs := (W.fresh _ _ s2 nD).1
    have nDp : D ≠ pl := fun e => by
      have z := kk _ _ npl2 f2
      rw [← e, nD] at z
      cases z
    have hpl : H pl = none := npl
    have s5 := putp H4 (.lst (pool.eraseIdx d5.toNat)) s4
    have t5 : Tups H1 (upd H4 pl (.lst (pool.eraseIdx d5.toNat))) := (W.tups f10 k6).trans (Tups.lst (k6 _ _ npl2 f2))
    have F5 : ∀ a xs, TupF H1 a xs → TupF (upd H4 pl (.lst (pool.eraseIdx d5.toNat))) a xs := fun a xs z => (W.tupF f10 k6 z).lst (k6 _ _ npl2 f2)
    have e5D : (upd H4 pl (.lst (pool.eraseIdx d5.toNat))) D = some (.lst (intsV pls)) := by
      rw [upd_ne nDp]
      exact k4 _ _ nDs e3
    have e5r : (upd H4 pl (.lst (pool.eraseIdx d5.toNat))) rl = some (.lst (ps.map fun p => .ref p.1)) := by
      rw [upd_ne hne]
      exact k6 _ _ nrs f1
    have e5p : (upd H4 pl (.lst (pool.eraseIdx d5.toNat))) pl = some (.lst (pool.eraseIdx d5.toNat)) := upd_same
    have k7 : Kept st H (upd H4 pl (.lst (pool.eraseIdx d5.toNat))) := Kept.over hpl (f9.trans k6)
    generalize upd H4 pl (.lst (pool.eraseIdx d5.toNat)) = H5 at s5 t5 F5 e5D e5r e5p k7
    refine ⟨_, rfl, D, _, rfl, SqL.of e5D, fun q oq nq od => ?_⟩
    refine ⟨two_fits, fun tq ntq => ?_⟩
    have n1 : q ≠ tq := fun e => by
      rw [← e, upd_same] at ntq
      cases ntq
    have ntq5 : H5 tq = none := by rwa [upd_ne (Ne.symm n1)] at ntq
    have nqr := ne_of_none e5r nq
    have ntr := ne_of_none e5r ntq5
    have nqp := ne_of_none e5p nq
    have ntp := ne_of_none e5p ntq5
    refine ⟨rl, _, _, rfl, rfl, by rw [upd_ne ntr, upd_ne nqr]; exact e5r, small1000 (by rw [List.length_map]; omega), ?_⟩
    have t6 : Tups H5 (upd (upd H5 q (.frz oq (.tup (intsV pls)))) tq (.tup [.str nm, .ref q])) := (Tups.new nq).trans (Tups.new ntq)
    have t7 : Tups (upd (upd H5 q (.frz oq (.tup (intsV pls)))) tq (.tup [.str nm, .ref q])) (upd (upd (upd H5 q (.frz oq (.tup (intsV pls)))) tq (.tup [.str nm, .ref q])) rl (.lst ((ps.map fun p => V.ref p.1) ++ [.ref tq]))) :=
      Tups.lst (by rw [upd_ne ntr, upd_ne nqr]; exact e5r)
    have F6 : ∀ a xs, TupF H5 a xs → TupF (upd (upd (upd H5 q (.frz oq (.tup (intsV pls)))) tq (.tup [.str nm, .ref q])) rl (.lst ((ps.map fun p => V.ref p.1) ++ [.ref tq]))) a xs := fun a xs z => (z.same ((same_new nq).trans (same_new ntq))).lst (by rw [upd_ne ntr, upd_ne nqr]; exact e5r)
    have s6 := W.new (o := .tup [.str nm, .ref q]) (W.new (o := .frz oq (.tup (intsV pls))) s5 nq) ntq
    refine ⟨_, _, _, ps ++ [(tq, q)], rels ++ [(nm, pls)], pool.eraseIdx d5.toNat, rfl, by rw [upd_same, List.map_append]; rfl, by rw [upd_ne nrp, upd_ne ntp, upd_ne nqp]; exact e5p,
      by rw [List.length_eraseIdx_of_lt hlt]; omega, fun v hv => f4 v (List.mem_of_mem_eraseIdx hv), by simp [f5], by simp [f6], ?_, ?_, Kept.over hrl (k7.trans ((Kept.new nq).trans (Kept.new ntq))), putr _ _ s6⟩
    · intro j p r h1 h2
      by_cases hj : j < ps.length
      · rw [List.getElem?_append_left hj] at h1
        rw [List.getElem?_append_left (by omega)] at h2
        obtain ⟨z1, z2⟩ := f7 j p r h1 h2
        exact ⟨t7 _ _ _ (t6 _ _ _ (t5 _ _ _ z1)), F6 _ _ (F5 _ _ z2)⟩
      · rw [List.getElem?_append_right (by omega)] at h1
        rw [List.getElem?_append_right (by omega)] at h2
        have ej : j - ps.length = 0 := by
          rcases Nat.eq_zero_or_pos (j - ps.length) with e | e
          · exact e
          · rw [List.getElem?_eq_none (by simp; omega)] at h1
            cases h1
        have ej2 : j - rels.length = 0 := by omega
        rw [ej] at h1
        rw [ej2] at h2
        cases (show some _ = some _ from h1)
        cases (show some _ = some _ from h2)
        exact ⟨t7 _ _ _ (.inl (.inl upd_same)), TupF.lst (by rw [upd_ne ntr, upd_ne nqr]; exact e5r) ⟨oq, by rw [upd_ne n1, upd_same], od⟩⟩
    · intro r hr
      rcases List.mem_append.mp hr with hr | hr
      · exact f8 r hr
      · rw [List.mem_singleton.mp hr]
        exact ⟨by show 1 ≤ pls.length; omega, by show pls.length ≤ 4; omega, pb⟩
  · rintro σ H1 ⟨a4, a6, a10, ps, rels, pool, rfl, f1, f2, f3, f4, f5, f6, f7, f8, f9, f10⟩
    refine ⟨_, rfl, _, rfl, rl, _, rfl, .inl ⟨SqL.of f1, fun rt nrt => ?_⟩⟩
    refine ⟨two_fits, fun t nt => ?_⟩
    have n1 : rt ≠ t := fun e => by
      rw [← e, upd_same] at nt
      cases nt
    have t6 := (Tups.new (o := .tup (ps.map fun p => V.ref p.1)) nrt).trans (Tups.new (o := .tup [.int (sorts : Int), .ref rt]) nt)
    refine q t ⟨sorts, rels⟩ _ ⟨so1, so4, by show rels.length ≤ 16; omega, f8⟩ f6 (f9.trans ((Kept.new nrt).trans (Kept.new nt))) (W.new (W.new f10 nrt) nt)
      ⟨rt, ps, .inl (.inl upd_same), .inl (.inl (by rw [upd_ne n1, upd_same])), by rw [f5, f6], fun i p r h1 h2 => ?_⟩
    obtain ⟨z1, z2⟩ := f7 i p r h1 h2
    exact ⟨t6 _ _ _ z1, z2.same ((same_new nrt).trans (same_new nt))⟩


/-- rows of ints stand there -/
abbrev KR := Addr × List Int
def refsV (ks : List KR) : List V := ks.map fun p => V.ref p.1
def TupsAt (K : PySem.W.Frag) (H : Hp) (ks : List KR) : Prop := ∀ p ∈ ks, SqT K H p.1 (p.2.map V.int)
theorem TupsAt.tups {H H' : Hp} {ks : List KR} (e : Tups H H') (h : TupsAt K H ks) : TupsAt K H' ks := fun p hp => e _ _ _ (h p hp)
theorem TupsAt.app {H : Hp} {ks ls : List KR} (h : TupsAt K H ks) (h2 : TupsAt K H ls) : TupsAt K H (ks ++ ls) := fun p hp => by
  rcases List.mem_append.mp hp with hp | hp
  · exact h p hp
  · exact h2 p hp
theorem TupsAt.one {H : Hp} {a : Addr} {r : List Int} (h : SqT K H a (r.map V.int)) : TupsAt K H [(a, r)] := fun p hp => by
  rw [List.mem_singleton.mp hp]
  exact h
theorem refsV_get {ks : List KR} {i : Nat} {v : V} (h : (refsV ks)[i]? = some v) : ∃ q, ks[i]? = some q ∧ v = .ref q.1 := by
  unfold refsV at h
  rw [List.getElem?_map] at h
  obtain ⟨q, hq, rfl⟩ := Option.map_eq_some_iff.mp h
  exact ⟨q, hq, rfl⟩
theorem refsV_len (ks : List KR) : (refsV ks).length = ks.length := List.length_map _
theorem refsV_snoc (ks : List KR) (a : Addr) (r : List Int) : refsV (ks ++ [(a, r)]) = refsV ks ++ [V.ref a] := by
  unfold refsV
  rw [List.map_append]
  rfl
theorem refsV_app (ks ls : List KR) : refsV (ks ++ ls) = refsV ks ++ refsV ls := List.map_append
theorem rows_dp {H : Hp} : ∀ {ks : List KR}, TupsAt K H ks → DpAll K H (refsV ks) ((ks.map (·.2)).map rowD)
  | [], _ => .nil
  | k :: ks, h => .cons (.tup (h k List.mem_cons_self) (tupD_dpAll _)) (rows_dp fun q hq => h q (List.mem_cons_of_mem _ hq))
theorem inV_ints (x : Int) : ∀ l : List Int, inV (.int x) (l.map V.int) = l.contains x
  | [] => rfl
  | a :: l => by
    have ih := inV_ints x l
    unfold inV at ih ⊢
    rw [List.map_cons, List.any_cons, ih, List.contains_cons]
    congr 1
    show (a == x) = (x == a)
    by_cases h : a = x
    · subst h; rfl
    · have h2 : (x == a) = false := beq_eq_false_iff_ne.mpr fun e => h e.symm
      rw [h2]
      exact beq_eq_false_iff_ne.mpr h
theorem flat_ints (l : List Int) : (l.map V.int).all flatV = true := by
  rw [List.all_eq_true]
  intro v hv
  obtain ⟨z, _, rfl⟩ := List.mem_map.mp hv
  rfl


/-! atoms over slots -/
abbrev AT := Int × List Int
abbrev AP := Addr × AT
def AtomOne (K : PySem.W.Frag) (H : Hp) (q : AP) : Prop := ∃ b, SqT K H q.1 [.int q.2.1, .ref b] ∧ SqT K H b (q.2.2.map V.int)
def AtomsP (K : PySem.W.Frag) (H : Hp) (ps : List AP) : Prop := ∀ q ∈ ps, AtomOne K H q
def AtOk (n : Nat) (x : AT) : Prop := 1 ≤ x.2.length ∧ x.2.length ≤ 4 ∧ ∀ s ∈ x.2, 0 ≤ s ∧ s < (n : Int)
def apV (ps : List AP) : List V := ps.map fun q => V.ref q.1
def atomD (x : AT) : PyData := .tuple [.int x.1, rowD x.2]
theorem AtomOne.tups {H H' : Hp} {q : AP} (e : Tups H H') (h : AtomOne K H q) : AtomOne K H' q := by
  obtain ⟨b, h1, h2⟩ := h
  exact ⟨b, e _ _ _ h1, e _ _ _ h2⟩
theorem AtomsP.tups {H H' : Hp} {ps : List AP} (e : Tups H H') (h : AtomsP K H ps) : AtomsP K H' ps := fun q hq => (h q hq).tups e
theorem apV_len (ps : List AP) : (apV ps).length = ps.length := List.length_map _
theorem apV_get {ps : List AP} {i : Nat} {v : V} (h : (apV ps)[i]? = some v) : ∃ q, ps[i]? = some q ∧ v = .ref q.1 := by
  unfold apV at h
  rw [List.getElem?_map] at h
  obtain ⟨q, hq, rfl⟩ := Option.map_eq_some_iff.mp h
  exact ⟨q, hq, rfl⟩
theorem atom_dp {H : Hp} {q : AP} (h : AtomOne K H q) : Dp K H (.ref q.1) (atomD q.2) := by
  obtain ⟨b, h1, h2⟩ := h
  exact .tup h1 (.cons (.int _) (.cons (.tup h2 (tupD_dpAll _)) .nil))
theorem atoms_dpA {H : Hp} : ∀ {ps : List AP}, AtomsP K H ps → DpAll K H (apV ps) ((ps.map (·.2)).map atomD)
  | [], _ => .nil
  | q :: ps, h => .cons (atom_dp (h q List.mem_cons_self)) (atoms_dpA fun p hp => h p (List.mem_cons_of_mem _ hp))
theorem canLay_row (r : List Int) : (rowD r).canLay0 = true := by
  unfold rowD
  rw [PyData.canLay0, canLay_ints]
theorem depth_row (r : List Int) : (rowD r).depth = 1 := by
  unfold rowD
  rw [PyData.depth, PySem.W.depth_ints]
theorem canLay_atom (x : AT) : (atomD x).canLay0 = true := by
  unfold atomD
  simp only [PyData.canLay0, PyData.canLayAll0, canLay_row, Bool.and_true]
theorem depth_atom (x : AT) : (atomD x).depth ≤ 2 := by
  unfold atomD
  simp only [PyData.depth, PyData.depthAll, depth_row]
  omega
theorem shaped_atom (x : AT) : SeqAt.shaped (atomD x) = true := by
  unfold SeqAt.shaped
  rw [canLay_atom, Bool.true_and]
  have := depth_atom x
  exact decide_eq_true (by omega)
theorem canLay_atoms : ∀ l : List AT, PyData.canLayAll0 (l.map atomD) = true
  | [] => rfl
  | x :: l => by
    rw [List.map_cons, PyData.canLayAll0, canLay_atom, canLay_atoms l]
    rfl
theorem depth_atoms : ∀ l : List AT, PyData.depthAll (l.map atomD) ≤ 2
  | [] => by simp [PyData.depthAll]
  | x :: l => by
    have h := depth_atoms l
    have h2 := depth_atom x
    rw [List.map_cons, PyData.depthAll]
    omega
theorem shaped_atoms (l : List AT) : SeqAt.shaped (.list (l.map atomD)) = true := by
  unfold SeqAt.shaped
  rw [PyData.canLay0, canLay_atoms, Bool.true_and, PyData.depth]
  have := depth_atoms l
  exact decide_eq_true (by omega)
theorem shaped_ints (l : List Int) : SeqAt.shaped (.list (l.map .int)) = true := by
  unfold SeqAt.shaped
  rw [PyData.canLay0, canLay_ints, PyData.depth, PySem.W.depth_ints]
  rfl
theorem fits {n : Nat} (h : n ≤ 10000) : n ≤ sizeLine := Nat.le_trans h (by decide)
theorem StAt.same {st c : Addr} {ns : List Int} {H H' : Hp} (e : Same H H') (h : StAt st c ns H) : StAt st c ns H' := by
  obtain ⟨x1, x2, x3, x4, x5, e1, e2, r⟩ := h
  exact ⟨x1, x2, x3, x4, x5, e _ _ e1, e _ _ e2, r⟩
/-- the slots of a sort -/
def fitOf (srt : List Int) (s : Int) (m : Nat) : List Int := ((List.range m).filter fun i => decide (srt[i]? = some s)).map fun i : Nat => (i : Int)
theorem fitOf_mem {srt : List Int} {s : Int} {m : Nat} {x : Int} (h : x ∈ fitOf srt s m) : 0 ≤ x ∧ x < (m : Int) := by
  obtain ⟨i, hi, rfl⟩ := List.mem_map.mp h
  have := List.mem_range.mp (List.mem_filter.mp hi).1
  omega
theorem fitOf_len (srt : List Int) (s : Int) (m : Nat) : (fitOf srt s m).length ≤ m := by
  unfold fitOf
  rw [List.length_map]
  have := List.length_filter_le (fun i => decide (srt[i]? = some s)) (List.range m)
  rwa [List.length_range] at this
theorem fitOf_yes {srt : List Int} {s : Int} {m : Nat} (h : srt[m]? = some s) : fitOf srt s (m + 1) = fitOf srt s m ++ [(m : Int)] := by
  unfold fitOf
  rw [List.range_succ, List.filter_append, List.map_append]
  simp [h]
theorem fitOf_no {srt : List Int} {s : Int} {m : Nat} (h : srt[m]? ≠ some s) : fitOf srt s (m + 1) = fitOf srt s m := by
  unfold fitOf
  rw [List.range_succ, List.filter_append, List.map_append]
  simp [h]
def sp__law_atom (K : PySem.W.Frag) : Sp := fun vs H Q _ => ∃ (st c : Addr) (ns : List Int) (t so : Addr) (L : Lg) (srt : List Int), vs = [.ref st, .ref t, .ref so] ∧ StAt st c ns H ∧ LangAt K H t L ∧ LgOk L ∧ H so = some (.lst (srt.map V.int)) ∧ so ≠ st ∧ srt.length ≤ 4 ∧
  (∀ H', Kept st H H' → StAt st c ns H' → Q .non H') ∧ (∀ (q : AP) H', AtOk srt.length q.2 → AtomOne K H' q → Kept st H H' → StAt st c ns H' → Q (.ref q.1) H')
set_option maxHeartbeats 2000000 in
theorem ok__law_atom (F : Fun K "_law_atom" "_law_atom" s__law_atom f fd) (C__law_take : Cal P w K mg base 2 "_law_take" s__law_take ["state", "limit"] (sp__law_take K)) (m_len : mg "len" = none) (m_range : mg "range" = none) : FnOk P w K mg base CX0 3 f fd ["state", "language", "sorts"] (sp__law_atom K) := by
  refine F.ok sc__law_atom (fun vs H Q E h => ?_) (fun cdv A outer s H vs Q E hr h => ?_)
  · obtain ⟨st, c, ns, t, so, L, srt, rfl, _⟩ := h
    rfl
  obtain ⟨st, c, ns, t, so, L, srt, rfl, hst, ⟨rt, rs, hL1, hL2, hL3, hL4⟩, hok, hso, nso, h4, q0, q1⟩ := h
  have W := drw st c ns
  refine ⟨_, (pss_cons (ps_set (i := 5) sc__law_atom.nd rfl (.inl rfl) (pe_ix ix_tup (pv 1) pe_int (fun _ _ => rfl)))
  (pss_cons (ps_if (pt_cmpR op_eq (pe_callB call_len_seq (by rfl) m_len (by decide +kernel) (pa_cons (pv 5) pa_nil)) pe_int (nomark _))
  (pss_one (ps_ret pe_non)) pss_nil)
  (pss_cons (ps_set (i := 4) sc__law_atom.nd rfl (.inl rfl) (pe_cal C__law_take hr (by first | decide | exact Nat.le_refl _) (by rfl) (pa_cons (pv 0) (pa_cons (pe_callB call_len_seq (by rfl) m_len (by decide +kernel) (pa_cons (pv 5) pa_nil)) pa_nil))))
  (pss_cons (ps_set (i := 6) sc__law_atom.nd rfl (.inl rfl) (pe_tup pa_nil))
  (pss_cons (ps_for PassesOwn.never rfl (pi_tup (pe_ix ix_tup (pe_ix ix_tup (pv 5) (pv 4) (fun _ _ => rfl)) pe_int (fun _ _ => rfl))) (pg_name (i := 7) sc__law_atom.nd rfl (.inr rfl))
  (pss_cons (ps_setLc (i := 3) (own := [("slot", 8)]) rfl sc__law_atom.nd rfl rfl (sw_true rfl rfl rfl (by decide +kernel)) (pi_range1 (by rfl) m_range (pa_cons (pe_callB call_len_seq (by rfl) m_len (by decide +kernel) (pa_cons (pv 2) pa_nil)) pa_nil)) (blkOk_by (N := ["state", "language", "sorts", "fit", "number", "relations", "slots", "sort", "slot"]) (sc := defScope s__law_atom) (by decide +kernel)) (fun _ _ _ _ _ => (pg_name (i := 8) sc__law_atom.nd rfl (.inl rfl))) (fun _ _ _ _ _ => (pts_one (pt_cmpR op_eq (pe_ix (ix_listK K rfl) (pv 2) (pv 8) (fun _ _ => rfl)) (pv 7) (nomark _)))) (fun _ _ _ _ _ => (pv 8)))
  (pss_cons (ps_if (pt_cmpR (op_eqD hr.units) (pv 3) (pe_lst pa_nil) (nomark _))
  (pss_one (ps_ret pe_non)) pss_nil)
  (pss_one (ps_set (i := 6) sc__law_atom.nd rfl (.inl rfl) (pe_op op_catA (pv 6) (pe_tup (pa_cons (pe_ix ix_list (pv 3) (pe_cal C__law_take hr (by first | decide | exact Nat.le_refl _) (by rfl) (pa_cons (pv 0) (pa_cons (pe_callB call_len_seq (by rfl) m_len (by decide +kernel) (pa_cons (pv 3) pa_nil)) pa_nil))) (fun _ _ => rfl)) pa_nil))))))))
  (pss_one (ps_ret (pe_tup (pa_cons (pv 4) (pa_cons (pv 6) pa_nil)))))))))), ?_⟩
  refine ⟨_, rfl, t, _, 1, _, rfl, rfl, hL1, rfl, ?_⟩
  refine ⟨_, rfl, rt, _, rfl, .inr hL2, rfl, _, rfl, ite2 (fun _ => q0 H (Kept.refl _ _) hst) (fun e => ?_)⟩
  have hrn : 0 < rs.length := by
    rcases Nat.eq_zero_or_pos rs.length with z | z
    · exact absurd (decide_eq_true (by rw [List.length_map, z]; rfl)) e
    · exact z
  refine ⟨_, rfl, _, rfl, rt, _, rfl, .inr hL2, st, c, ns, _, rfl, hst, by rw [List.length_map]; omega, by rw [List.length_map]; have := hok.few; omega, fun d H1 d0 d1 k1 s1 => ?_⟩
  rw [List.length_map] at d1
  obtain ⟨j, rfl⟩ := Int.eq_ofNat_of_zero_le d0
  have hj : j < rs.length := by omega
  have hp : rs[j]? = some rs[j] := List.getElem?_eq_getElem hj
  have hjr : j < L.rels.length := by omega
  have hr2 : L.rels[j]? = some L.rels[j] := List.getElem?_eq_getElem hjr
  obtain ⟨z1, z2⟩ := hL4 j _ _ hp hr2
  obtain ⟨p1, p2, p3⟩ := hok.pl _ (List.getElem_mem hjr)
  have hat : atI (rs.map fun p => V.ref p.1) (j : Int) = some (.ref rs[j].1) := atI_nat (by rw [List.getElem?_map, hp]; rfl)
  generalize rs[j] = p at *
  generalize L.rels[j] = r at *
  have t1 := W.tups hst k1
  -- slots = ()
  refine ⟨Nat.zero_le _, fun e0 ne0 => ?_⟩
  have s2 := W.new (o := .tup ([] : List V)) s1 ne0
  have k2 := k1.trans (Kept.new (o := .tup ([] : List V)) ne0)
  have qe : SqT K (upd H1 e0 (.tup ([] : List V))) e0 [] := .inl (.inl upd_same)
  have t2 := t1.trans (Tups.new (o := .tup ([] : List V)) ne0)
  generalize upd H1 e0 (.tup ([] : List V)) = H2 at s2 k2 qe t2
  refine ⟨_, rfl, _, rfl, rt, _, _, _, rfl, rfl, t2 _ _ _ hL2, hat, p.1, _, 1, _, rfl, rfl, t2 _ _ _ z1, rfl, p.2, rfl, ⟨_, t2 _ _ _ z2⟩, ?_⟩
  refine for_tup (xs := intsV r.2) (fun i σ H' => (∃ (a3 a7 a8 : Option V) (sl : Addr) (ss : List Int), σ = [some (.ref st), some (.ref t), some (.ref so), a3, some (.int (j : Nat)), some (.ref rt), some (.ref sl), a7, a8] ∧
      SqT K H' sl (ss.map V.int) ∧ ss.length = i ∧ ∀ x ∈ ss, 0 ≤ x ∧ x < (srt.length : Int)) ∧ StAt st c ns H' ∧ Kept st H H')
    ⟨⟨_, _, _, e0, [], rfl, qe, rfl, by simp⟩, s2, k2⟩ (fun i σ H' _ h => (W.tups hst h.2.2) _ _ _ z2) ?_ ?_
  · rintro i v σ H3 hv ⟨⟨a3, a7, a8, sl, ss, rfl, f1, f2, f3⟩, s3, k3⟩
    have hv2 : (r.2.map fun n : Nat => V.int (n : Int))[i]? = some v := hv
    rw [List.getElem?_map] at hv2
    obtain ⟨pl, hpl, rfl⟩ := Option.map_eq_some_iff.mp hv2
    have hi : i < r.2.length := (List.getElem?_eq_some_iff.mp hpl).1
    have hso3 := k3 _ _ nso hso
    -- fit
    refine ⟨_, rfl, so, _, rfl, .inl (SqL.of hso3), _, rfl, by omega, by rw [List.length_map]; omega, fun D nD => ?_⟩
    have tn : (((srt.map V.int).length : Nat) : Int).toNat = srt.length := by rw [List.length_map]; omega
    rw [tn]
    refine lc_range (fun m H' => H' D = some (.lst ((fitOf srt (pl : Int) m).map V.int)) ∧ Same H3 H') ⟨upd_same, same_new nD⟩ ?_ ?_
    · rintro m H4 hm ⟨c1, c2⟩
      have e0 : (0 : Int) + (m : Nat) = (m : Nat) := by omega
      rw [e0]
      have hm2 : srt[m]? = some srt[m] := List.getElem?_eq_getElem hm
      have hat2 : atI (srt.map V.int) (m : Int) = some (.int srt[m]) := atI_nat (by rw [List.getElem?_map, hm2]; rfl)
      refine ⟨rfl, _, rfl, _, rfl, so, _, _, _, rfl, rfl, SqL.of (c2 _ _ hso3), hat2, _, rfl, rfl, _, rfl, ite2 (fun e => ?_) (fun e => ?_)⟩
      · have e1 : srt[m] = (pl : Int) := V.int.inj (of_decide_eq_true e)
        refine ⟨_, rfl, _, c1, ?_, ?_, Same.over nD c2⟩
        · rw [List.length_map]
          have := fitOf_len srt (pl : Int) m
          exact small1000 (by omega)
        · rw [upd_same, fitOf_yes (by rw [hm2, e1]), List.map_append]
          rfl
      · refine ⟨?_, c2⟩
        rw [c1, fitOf_no fun z => e (decide_eq_true (by rw [hm2] at z; rw [Option.some.inj z]))]
    rintro H4 ⟨c1, c2⟩
    have s4 := StAt.same c2 s3
    have k4 := k3.trans c2.kept
    have f1' := c2.seqT f1
    have hmem : ∀ x ∈ fitOf srt (pl : Int) srt.length, 0 ≤ x ∧ x < (srt.length : Int) := fun x hx => fitOf_mem hx
    have hfl := fitOf_len srt (pl : Int) srt.length
    generalize fitOf srt (pl : Int) srt.length = F at c1 hmem hfl
    refine ⟨_, rfl, Nat.zero_le _, fun e2 ne2 => ?_⟩
    have sm2 := same_new (o := .lst ([] : List V)) ne2
    have eD := sm2 _ _ c1
    refine ⟨.list (F.map .int), .list (([] : List Int).map .int), .lst (SqL.of eD) (tupD_dpAll _), .lst (SqL.of upd_same) .nil, shaped_ints _, shaped_ints _, _, rfl, ?_⟩
    rw [PyData.eqv, eqvAll_ints]
    have s5 := StAt.same sm2 s4
    have k5 := k4.trans sm2.kept
    refine ite2 (fun _ => q0 _ k5 s5) (fun e => ?_)
    have hF : F ≠ [] := fun z => e (decide_eq_true z)
    have hFl : 0 < F.length := List.length_pos_iff.mpr hF
    have f1'' := sm2.seqT f1'
    generalize upd H4 e2 (.lst ([] : List V)) = H5 at s5 k5 eD f1''
    have nDs : D ≠ st := (W.fresh _ _ s3 nD).1
    refine ⟨_, rfl, _, rfl, _, rfl, _, rfl, D, _, rfl, .inl (SqL.of eD), st, c, ns, _, rfl, s5, by rw [List.length_map]; omega, by rw [List.length_map]; omega, fun d H6 d0 d1 k6 s6 => ?_⟩
    rw [List.length_map] at d1
    obtain ⟨x, hx, hxm⟩ := atI_pick (l := F) d0 d1
    have hx2 : atI (F.map V.int) d = some (.int x) := by
      obtain ⟨m, rfl⟩ := Int.eq_ofNat_of_zero_le d0
      have hm : m < F.length := by omega
      rw [atI_nat (List.getElem?_eq_getElem hm)] at hx
      cases hx
      exact atI_nat (by rw [List.getElem?_map, List.getElem?_eq_getElem hm]; rfl)
    have eD6 := k6 _ _ nDs eD
    refine ⟨D, _, d, _, rfl, rfl, SqL.of eD6, hx2, show 1 ≤ sizeLine by decide, fun u nu => ?_⟩
    have su := same_new (o := .tup [V.int x]) nu
    refine catA_any (su.seqT (W.seqT s5 k6 f1'')) (.inl (.inl upd_same)) (fits (by rw [List.length_map]; show ss.length + 1 ≤ 10000; omega)) fun p2 H7 s7 hp2 => ?_
    refine ⟨⟨_, _, _, p2, ss ++ [x], rfl, by rw [List.map_append]; exact hp2, by rw [List.length_append]; show ss.length + 1 = i + 1; omega, fun y hy => ?_⟩, StAt.same s7 (W.new s6 nu), (k5.trans k6).trans (su.trans s7).kept⟩
    rcases List.mem_append.mp hy with hy | hy
    · exact f3 y hy
    · rw [List.mem_singleton.mp hy]
      exact hmem x hxm
  · rintro σ H3 ⟨⟨a3, a7, a8, sl, ss, rfl, f1, f2, f3⟩, s3, k3⟩
    have lq : (intsV r.2).length = r.2.length := List.length_map _
    rw [lq] at f2
    refine ⟨_, rfl, _, rfl, show 2 ≤ sizeLine by decide, fun u nu => ?_⟩
    exact q1 (u, ((j : Nat), ss)) _ ⟨by show 1 ≤ ss.length; omega, by show ss.length ≤ 4; omega, f3⟩ ⟨sl, .inl (.inl upd_same), Tups.new nu _ _ _ f1⟩ (k3.trans (Kept.new nu)) (W.new s3 nu)

def sp__law_some_atoms (K : PySem.W.Frag) : Sp := fun vs H Q _ => ∃ (st c : Addr) (ns : List Int) (t so : Addr) (L : Lg) (srt : List Int) (most : Nat), vs = [.ref st, .ref t, .ref so, .int (most : Int)] ∧ StAt st c ns H ∧ LangAt K H t L ∧ LgOk L ∧ H so = some (.lst (srt.map V.int)) ∧ so ≠ st ∧ srt.length ≤ 4 ∧ most ≤ 10 ∧
  ∀ (D : Addr) (ps : List AP) H', D ≠ st → H' D = some (.lst (apV ps)) → ps.length ≤ most → (∀ q ∈ ps, AtOk srt.length q.2) → AtomsP K H' ps → Kept st H H' → StAt st c ns H' → Q (.ref D) H'
theorem apV_snoc (ps : List AP) (q : AP) : apV (ps ++ [q]) = apV ps ++ [V.ref q.1] := by
  unfold apV
  rw [List.map_append]
  rfl
set_option maxHeartbeats 2000000 in
theorem ok__law_some_atoms (F : Fun K "_law_some_atoms" "_law_some_atoms" s__law_some_atoms f fd) (C__law_take : Cal P w K mg base 2 "_law_take" s__law_take ["state", "limit"] (sp__law_take K)) (C__law_atom : Cal P w K mg base 3 "_law_atom" s__law_atom ["state", "language", "sorts"] (sp__law_atom K)) (m_range : mg "range" = none) : FnOk P w K mg base CX0 4 f fd ["state", "language", "sorts", "most"] (sp__law_some_atoms K) := by
  refine F.ok sc__law_some_atoms (fun vs H Q E h => ?_) (fun cdv A outer s H vs Q E hr h => ?_)
  · obtain ⟨st, c, ns, t, so, L, srt, most, rfl, _⟩ := h
    rfl
  obtain ⟨st, c, ns, t, so, L, srt, most, rfl, hst, hL, hok, hso, nso, h4, h10, q⟩ := h
  have W := drw st c ns
  refine ⟨_, (pss_cons (ps_set (i := 4) sc__law_some_atoms.nd rfl (.inl rfl) (pe_lst pa_nil))
  (pss_cons (ps_for PassesOwn.never rfl (pi_range1 (by rfl) m_range (pa_cons (pe_cal C__law_take hr (by first | decide | exact Nat.le_refl _) (by rfl) (pa_cons (pv 0) (pa_cons (pe_op op_add (pv 3) pe_int) pa_nil))) pa_nil)) (pg_name (i := 5) sc__law_some_atoms.nd rfl (.inl rfl))
  (pss_cons (ps_set (i := 6) sc__law_some_atoms.nd rfl (.inl rfl) (pe_cal C__law_atom hr (by first | decide | exact Nat.le_refl _) (by rfl) (pa_cons (pv 0) (pa_cons (pv 1) (pa_cons (pv 2) pa_nil)))))
  (pss_one (ps_if (PW.pt (pw_and (pt_cmpR op_notN (pv 6) pe_non (nomark _)) (pw_and1 (pt_cmpR (op_notInD hr.units65) (pv 6) (pv 4) (by rfl)))))
  (pss_one (ps_expr (pe_bm PySem.F.plainAttrs_list PySem.F.slot_list_append PySem.F.type_list_append mt_append (pv 4) (pa_cons (pv 6) pa_nil)))) pss_nil))))
  (pss_one (ps_ret (pv 4))))), ?_⟩
  refine ⟨Nat.zero_le _, fun D nD => ?_⟩
  have nDs := (W.fresh _ _ hst nD).1
  have put := (W.fresh _ _ hst nD).2
  have s1 := W.new (o := .lst ([] : List V)) hst nD
  refine ⟨_, rfl, _, rfl, _, _, rfl, rfl, st, c, ns, _, rfl, s1, by omega, by omega, fun d H2 d0 d1 k2 s2 => ⟨_, rfl, by omega, by omega, ?_⟩⟩
  obtain ⟨n, rfl⟩ := Int.eq_ofNat_of_zero_le d0
  have tn : ((n : Nat) : Int).toNat = n := by omega
  rw [tn]
  refine for_range (n := n) (fun i σ H' => (∃ a5 a6 : Option V, σ = [some (.ref st), some (.ref t), some (.ref so), some (.int (most : Int)), some (.ref D), a5, a6]) ∧ StAt st c ns H' ∧ Kept st H H' ∧
      ∃ ps : List AP, H' D = some (.lst (apV ps)) ∧ ps.length ≤ i ∧ (∀ q ∈ ps, AtOk srt.length q.2) ∧ AtomsP K H' ps)
    ⟨⟨_, _, rfl⟩, s2, (Kept.new nD).trans k2, [], k2 _ _ nDs upd_same, Nat.zero_le _, by simp, fun q hq => nomatch hq⟩ ?_ ?_
  · rintro i σ H3 hi ⟨⟨a5, a6, rfl⟩, s3, k3, ps, f1, f2, f3, f4⟩
    refine ⟨_, rfl, _, rfl, _, rfl, st, c, ns, t, so, L, srt, rfl, s3, hL.keep (fun _ _ z => W.seqT hst k3 z), hok, k3 _ _ nso hso, nso, h4, fun H4 k4 s4 => ?_, fun q0 H4 ok4 at4 k4 s4 => ?_⟩
    · refine ⟨_, rfl, rfl, _, rfl, ite2 (fun e => ?_) (fun _ => iteF ?_)⟩
      · rw [decide_eq_true rfl] at e
        cases e
      · exact ⟨⟨_, _, rfl⟩, s4, k3.trans k4, ps, k4 _ _ nDs f1, by omega, f3, f4.tups (W.tups s3 k4)⟩
    · have f1' := k4 _ _ nDs f1
      have f4' := f4.tups (W.tups s3 k4)
      refine ⟨_, rfl, rfl, _, rfl, ite2 (fun _ => ?_) (fun e => ?_)⟩
      · refine ⟨_, rfl, _, rfl, atomD q0.2, _, atom_dp at4, .lst (SqL.of f1') (atoms_dpA f4'), shaped_atom _, shaped_atoms _, _, rfl, ite2 (fun _ => ?_) (fun _ => ?_)⟩
        · refine ⟨_, rfl, .inl ⟨rfl, _, SqL.of f1'⟩, _, rfl, D, _, _, rfl, rfl, f1', small1000 (by rw [apV_len]; omega), ?_⟩
          have tt := Tups.lst (o := .lst (apV ps ++ [.ref q0.1])) f1'
          refine ⟨⟨_, _, rfl⟩, put _ _ s4, Kept.over nD (k3.trans k4), ps ++ [q0], by rw [upd_same, apV_snoc], by rw [List.length_append]; show ps.length + 1 ≤ i + 1; omega, fun q hq => ?_, fun q hq => ?_⟩
          · rcases List.mem_append.mp hq with hq | hq
            · exact f3 q hq
            · rw [List.mem_singleton.mp hq]
              exact ok4
          · rcases List.mem_append.mp hq with hq | hq
            · exact (f4' q hq).tups tt
            · rw [List.mem_singleton.mp hq]
              exact at4.tups tt
        · exact ⟨⟨_, _, rfl⟩, s4, k3.trans k4, ps, f1', by omega, f3, f4'⟩
      · exact absurd rfl e
  · rintro σ H3 ⟨⟨a5, a6, rfl⟩, s3, k3, ps, f1, f2, f3, f4⟩
    exact ⟨_, rfl, q D ps H3 nDs f1 (by omega) f3 f4 k3 s3⟩

def sp__law_exchanges (K : PySem.W.Frag) : Sp := fun vs H Q _ => ∃ (so : Addr) (srt : List Int), vs = [.ref so] ∧ H so = some (.lst (srt.map V.int)) ∧ srt.length ≤ 4 ∧
  ∀ (D : Addr) (ks : List KR) (due : List Int) H', due.Perm srt → due.Pairwise (· ≤ ·) → H' D = some (.lst (refsV ks)) → ks.map (·.2) = exRows due srt → TupsAt K H' ks → Same H H' → Q (.ref D) H'
set_option maxHeartbeats 4000000 in
theorem ok__law_exchanges (F : Fun K "_law_exchanges" "_law_exchanges" s__law_exchanges f fd) (m_sorted : mg "sorted" = none) (m_range : mg "range" = none) (m_len : mg "len" = none) : FnOk P w K mg base CX0 1 f fd ["sorts"] (sp__law_exchanges K) := by
  refine F.ok sc__law_exchanges (fun vs H Q E h => ?_) (fun cdv A outer s H vs Q E hr h => ?_)
  · obtain ⟨so, srt, rfl, _⟩ := h
    rfl
  obtain ⟨so, srt, rfl, hso, h4, q⟩ := h
  refine ⟨_, (pss_cons (ps_set (i := 1) sc__law_exchanges.nd rfl (.inr rfl) (pe_callB (cr_sortedIL hr.units) (by rfl) m_sorted (by decide +kernel) (pa_cons (pv 0) pa_nil)))
  (pss_cons (ps_set (i := 4) sc__law_exchanges.nd rfl (.inl rfl) (pe_lst (pa_cons (pe_tup pa_nil) pa_nil)))
  (pss_cons (ps_for PassesOwn.never rfl (pi_list (pv 0)) (pg_name (i := 5) sc__law_exchanges.nd rfl (.inr rfl))
  (pss_cons (ps_set (i := 2) sc__law_exchanges.nd rfl (.inl rfl) (pe_lst pa_nil))
  (pss_cons (ps_for PassesOwn.never rfl (pi_list (pv 4)) (pg_name (i := 3) sc__law_exchanges.nd rfl (.inr rfl))
  (pss_one (ps_set (i := 2) sc__law_exchanges.nd rfl (.inl rfl) (pe_op op_cat (pv 2) (pe_lc (own := [("slot", 6)]) rfl sc__law_exchanges.nd (pi_range1 (by rfl) m_range (pa_cons (pe_callB call_len_seq (by rfl) m_len (by decide +kernel) (pa_cons (pv 1) pa_nil)) pa_nil)) (blkOk_by (N := ["sorts", "due", "longer", "row", "rows", "sort", "slot"]) (sc := defScope s__law_exchanges) (by decide +kernel)) (fun _ _ _ _ _ => (pg_name (i := 6) sc__law_exchanges.nd rfl (.inl rfl))) (fun _ _ _ _ _ => (pts_one (PW.pt (pw_and (pt_cmpR op_eq (pe_ix (ix_listK K rfl) (pv 1) (pv 6) (fun _ _ => rfl)) (pv 5) (nomark _)) (pw_and1 (pt_cmpR (op_notIn_seqK K rfl) (pv 6) (pv 3) (by rfl))))))) (fun _ _ _ _ _ => (pe_op (op_catAK K rfl) (pv 3) (pe_tup (pa_cons (pv 6) pa_nil)))))))))
  (pss_one (ps_set (i := 4) sc__law_exchanges.nd rfl (.inl rfl) (pv 2))))))
  (pss_one (ps_ret (pv 4)))))), ?_⟩
  refine ⟨_, rfl, so, srt, rfl, SqL.of hso, fun due dp pm up nd => ?_⟩
  have s0 := same_new (o := .lst (due.map V.int)) nd
  have ed : (upd H dp (.lst (due.map V.int))) dp = some (.lst (due.map V.int)) := upd_same
  have ld : due.length ≤ 4 := by rw [pm.length_eq]; exact h4
  generalize upd H dp (.lst (due.map V.int)) = H1 at s0 ed
  -- rows = [()]
  refine ⟨Nat.zero_le _, fun e0 ne0 => ⟨show 1 ≤ sizeLine by decide, fun r0 nr0 => ?_⟩⟩
  have e0r : e0 ≠ r0 := fun e => by
    rw [← e, upd_same] at nr0
    cases nr0
  have t1 : Same H1 (upd (upd H1 e0 (.tup [])) r0 (.lst [.ref e0])) := (same_new ne0).trans (same_new nr0)
  refine ⟨_, rfl, so, rfl, ⟨_, SqL.of ((s0.trans t1) _ _ hso)⟩, for_list (xs := srt.map V.int) (fun i σ H' => (∃ (b2 b3 b5 b6 : Option V) (RW : Addr) (ks : List KR), σ = [some (.ref so), some (.ref dp), b2, b3, some (.ref RW), b5, b6] ∧
      H' RW = some (.lst (refsV ks)) ∧ ks.map (·.2) = exFrom due (srt.take i) [[]] ∧ TupsAt K H' ks) ∧ Same H1 H')
    ⟨⟨_, _, _, _, r0, [(e0, [])], rfl, upd_same, rfl, TupsAt.one (.inl (.inl (by rw [upd_ne e0r, upd_same]; rfl)))⟩, t1⟩ (fun i σ H' _ h => SqL.of ((s0.trans h.2) _ _ hso)) ?_ ?_⟩
  · rintro i v σ H2 hv ⟨⟨b2, b3, b5, b6, RW, ks, rfl, g1, g2, g3⟩, sm⟩
    rw [List.getElem?_map] at hv
    obtain ⟨sx, hsx, rfl⟩ := Option.map_eq_some_iff.mp hv
    refine ⟨Nat.zero_le _, fun l0 nl0 => ?_⟩
    have sl := same_new (o := .lst ([] : List V)) nl0
    have lk : ks.length ≤ 256 := by
      have z := exTake_len ld h4 i
      rw [← g2, List.length_map] at z
      exact z
    refine ⟨_, rfl, RW, rfl, ⟨_, SqL.of (sl _ _ g1)⟩, for_list (xs := refsV ks) (fun m σ H' => (∃ (b3 b6 : Option V) (LO : Addr) (ls : List KR), σ = [some (.ref so), some (.ref dp), some (.ref LO), b3, some (.ref RW), some (.int sx), b6] ∧
        H' LO = some (.lst (refsV ls)) ∧ ls.map (·.2) = exStep due sx ((ks.take m).map (·.2)) ∧ TupsAt K H' ls) ∧ Same H2 H')
      ⟨⟨_, _, l0, [], rfl, upd_same, rfl, fun p hp => nomatch hp⟩, sl⟩ (fun m σ H' _ h => SqL.of (h.2 _ _ g1)) ?_ ?_⟩
    · rintro m v σ H3 hx ⟨⟨c3, c6, LO, ls, rfl, h1, h2, h3⟩, sm3⟩
      obtain ⟨q0, hq0, rfl⟩ := refsV_get hx
      have hm : m < ks.length := (List.getElem?_eq_some_iff.mp hq0).1
      have hqr := sm3.seqT (g3 q0 (List.mem_of_getElem? hq0))
      have hl0 : q0.2.length ≤ 4 := by
        have z : q0.2 ∈ exFrom due (srt.take i) [[]] := by
          rw [← g2]
          exact List.mem_map.mpr ⟨q0, List.mem_of_getElem? hq0, rfl⟩
        have z2 := (exRows_ok (due := due) (srt := srt.take i) _ z).len
        rw [List.length_take] at z2
        omega
      have enext : exStep due sx ((ks.take (m + 1)).map (·.2)) = exStep due sx ((ks.take m).map (·.2)) ++ (exNext due sx q0.2 due.length).map fun i : Nat => q0.2 ++ [(i : Int)] := by
        unfold exStep
        rw [List.take_add_one, hq0, List.map_append, List.flatMap_append]
        simp
      have lprev : ls.length ≤ 1024 := by
        have z := exStep_len (s := sx) (rows := (ks.take m).map (·.2)) ld
        rw [← h2, List.length_map, List.length_map, List.length_take] at z
        omega
      have ed3 := (sm.trans sm3) _ _ ed
      refine ⟨_, rfl, _, rfl, dp, _, rfl, .inl (SqL.of ed3), _, rfl, by omega, by rw [List.length_map]; omega, fun D nD => ?_⟩
      have tn : (((due.map V.int).length : Nat) : Int).toNat = due.length := by rw [List.length_map]; omega
      rw [tn]
      refine lc_range (fun i2 H' => ∃ ms : List KR, H' D = some (.lst (refsV ms)) ∧ ms.map (·.2) = (exNext due sx q0.2 i2).map (fun i : Nat => q0.2 ++ [(i : Int)]) ∧ TupsAt K H' ms ∧ Same H3 H')
        ⟨[], upd_same, rfl, (fun p hp => nomatch hp), same_new nD⟩ ?_ ?_
      · rintro i2 H4 hi2 ⟨ms, d1, d2, d3, d4⟩
        have e0 : (0 : Int) + (i2 : Nat) = (i2 : Nat) := by omega
        rw [e0]
        have hi3 : due[i2]? = some due[i2] := List.getElem?_eq_getElem hi2
        have hat : atI (due.map V.int) (i2 : Int) = some (.int due[i2]) := atI_nat (by rw [List.getElem?_map, hi3]; rfl)
        have lm : ms.length ≤ 4 := by
          have z := congrArg List.length d2
          rw [List.length_map, List.length_map] at z
          have z2 := List.length_filter_le (fun i : Nat => decide (due[i]? = some sx) && !q0.2.contains (i : Int)) (List.range i2)
          rw [List.length_range] at z2
          unfold exNext at z
          omega
        have enx : exNext due sx q0.2 (i2 + 1) = exNext due sx q0.2 i2 ++ (if (decide (due[i2]? = some sx) && !q0.2.contains (i2 : Int)) = true then [i2] else []) := by
          unfold exNext
          rw [List.range_succ, List.filter_append, List.filter_cons, List.filter_nil]
        have hqr4 := d4.seqT hqr
        have skip : (decide (due[i2]? = some sx) && !q0.2.contains (i2 : Int)) = false → ∃ ms : List KR, H4 D = some (.lst (refsV ms)) ∧ ms.map (·.2) = (exNext due sx q0.2 (i2 + 1)).map (fun i : Nat => q0.2 ++ [(i : Int)]) ∧ TupsAt K H4 ms ∧ Same H3 H4 := fun e => by
          rw [enx, e, if_neg Bool.false_ne_true, List.append_nil]
          exact ⟨ms, d1, d2, d3, d4⟩
        refine ⟨rfl, _, rfl, _, rfl, dp, _, _, _, rfl, rfl, SqL.of (d4 _ _ ed3), hat, _, rfl, rfl, _, rfl, ite2 (fun e => ?_) (fun e => iteF (skip ?_))⟩
        · have e1 : due[i2] = sx := V.int.inj (of_decide_eq_true e)
          have e2 : decide (due[i2]? = some sx) = true := decide_eq_true (by rw [hi3, e1])
          refine ⟨_, rfl, _, rfl, q0.1, _, rfl, .inr hqr4, rfl, flat_ints _, _, rfl, ?_⟩
          rw [inV_ints]
          refine ite2 (fun e3 => ?_) (fun e3 => skip ?_)
          · refine ⟨_, rfl, _, rfl, show 1 ≤ sizeLine by decide, fun u nu => ?_⟩
            have su := same_new (o := .tup [V.int (i2 : Nat)]) nu
            refine catA_any (su.seqT hqr4) (.inl (.inl upd_same)) (fits (by rw [List.length_map]; show q0.2.length + 1 ≤ 10000; omega)) fun p2 H5 s5 hp2 => ?_
            have s35 := su.trans s5
            have e5 := s35 _ _ d1
            refine ⟨_, e5, small1000 (by rw [refsV_len]; omega), ms ++ [(p2, q0.2 ++ [(i2 : Int)])], by rw [upd_same, refsV_snoc], ?_, ?_, Same.over nD (d4.trans s35)⟩
            · rw [enx, e2, Bool.true_and, if_pos (show (!q0.2.contains (i2 : Int)) = true from e3), List.map_append, List.map_append, d2]
              rfl
            · have tt := Tups.lst (o := .lst (refsV ms ++ [.ref p2])) e5
              refine TupsAt.app ((d3.tups (Tups.same s35)).tups tt) (TupsAt.one ?_)
              rw [List.map_append]
              exact tt _ _ _ hp2
          · rw [Bool.eq_false_iff.mpr (show ¬ (!q0.2.contains (i2 : Int)) = true from e3), Bool.and_false]
        · have e2 : decide (due[i2]? = some sx) = false := decide_eq_false fun z => e (decide_eq_true (by rw [hi3] at z; rw [Option.some.inj z]))
          rw [e2, Bool.false_and]
      · rintro H4 ⟨ms, d1, d2, d3, d4⟩
        have lm : ms.length ≤ 4 := by
          have z := congrArg List.length d2
          rw [List.length_map, List.length_map] at z
          have z2 := List.length_filter_le (fun i : Nat => decide (due[i]? = some sx) && !q0.2.contains (i : Int)) (List.range due.length)
          rw [List.length_range] at z2
          unfold exNext at z
          omega
        refine ⟨LO, D, _, _, rfl, rfl, d4 _ _ h1, d1, fits (by rw [refsV_len, refsV_len]; omega), fun N nN => ?_⟩
        have tt := Tups.new (o := .lst (refsV ls ++ refsV ms)) nN
        refine ⟨⟨_, _, N, ls ++ ms, rfl, by rw [upd_same, refsV_app], ?_, TupsAt.app ((h3.tups (Tups.same d4)).tups tt) (d3.tups tt)⟩, (sm3.trans d4).trans (same_new nN)⟩
        rw [List.map_append, h2, d2, enext]
    · rintro σ H3 ⟨⟨c3, c6, LO, ls, rfl, h1, h2, h3⟩, sm3⟩
      refine ⟨_, rfl, ⟨_, _, _, _, LO, ls, rfl, h1, ?_, h3⟩, sm.trans sm3⟩
      rw [refsV_len, List.take_length, g2] at h2
      rw [h2, List.take_add_one, hsx]
      exact (exFrom_snoc due sx _ _).symm
  · rintro σ H2 ⟨⟨b2, b3, b5, b6, RW, ks, rfl, g1, g2, g3⟩, sm⟩
    rw [List.length_map, List.take_length] at g2
    exact ⟨_, rfl, q RW ks due H2 pm up g1 g2 g3 (s0.trans sm)⟩

/-- the atom with its slots led along the row -/
def putA (row : List Int) (x : AT) : AT := (x.1, x.2.map fun s => row.getD s.toNat 0)
def atLe (a b : AT) : Prop := PySem.W.dataLt (atomD b) (atomD a) = false
structure RowIn (n : Nat) (r : List Int) : Prop where
  len : r.length = n
  lt : ∀ x ∈ r, 0 ≤ x ∧ x < (n : Int)
theorem put_ok {n : Nat} {row : List Int} (hr : RowIn n row) {x : AT} (h : AtOk n x) : AtOk n (putA row x) := by
  refine ⟨by show 1 ≤ (x.2.map _).length; rw [List.length_map]; exact h.1, by show (x.2.map _).length ≤ 4; rw [List.length_map]; exact h.2.1, fun s hs => ?_⟩
  obtain ⟨y, hy, rfl⟩ := List.mem_map.mp hs
  have hb := h.2.2 y hy
  have hl : y.toNat < row.length := by rw [hr.len]; omega
  rw [List.getD_eq_getElem?_getD, List.getElem?_eq_getElem hl]
  exact hr.lt _ (List.getElem_mem hl)
theorem alike_rows (a b : List Int) : PySem.W.alike (rowD a) (rowD b) = true := by
  unfold rowD
  rw [PySem.W.alike, PySem.W.alike_ints]
theorem alike_atoms (x y : AT) : PySem.W.alike (atomD x) (atomD y) = true := by
  unfold atomD
  simp [PySem.W.alike, PySem.W.alikeAll, alike_rows]
theorem alikeAll_atoms : ∀ a b : List AT, PySem.W.alikeAll (a.map atomD) (b.map atomD) = true
  | [], _ => by simp [PySem.W.alikeAll]
  | _ :: _, [] => by simp [PySem.W.alikeAll]
  | x :: a, y :: b => by
    rw [List.map_cons, List.map_cons, PySem.W.alikeAll, alikeAll_atoms a b, alike_atoms]
    rfl
def atV (q : AP) : V × PyData := (V.ref q.1, atomD q.2)
theorem sorted_atoms (ps : List AP) : ∃ qs : List AP, qs.Perm ps ∧ (qs.map (·.2)).Pairwise atLe ∧ (ps.map atV).mergeSort (PySem.W.dataLe false (·.2)) = qs.map atV := by
  have T := PySem.W.sortLe_total (listOrd itemOrd) false fun b : V × PyData => PySem.W.keyToks b.2
  have pm := List.mergeSort_perm (ps.map atV) (PySem.W.dataLe false fun b : V × PyData => b.2)
  obtain ⟨qs, p1, e⟩ := perm_map_inv pm ps rfl
  refine ⟨qs, p1, ?_, e⟩
  have pw := List.pairwise_mergeSort (le := PySem.W.dataLe false fun b : V × PyData => b.2) T.trans (fun a b => by rw [Bool.or_eq_true]; exact T.total a b) (ps.map atV)
  rw [e, List.pairwise_map] at pw
  refine List.pairwise_map.mpr (pw.imp fun {a b} h => ?_)
  have z : (!PySem.W.dataLt (atomD b.2) (atomD a.2)) = true := h
  rwa [Bool.not_eq_true'] at z
theorem atV_fst (ps : List AP) : (ps.map atV).map (·.1) = apV ps := by
  rw [List.map_map]
  rfl
theorem atV_alike (ps : List AP) : PySem.W.AllAlike ((ps.map atV).map (·.2)) := by
  intro d hd d' hd'
  rw [List.map_map] at hd hd'
  obtain ⟨b, _, rfl⟩ := List.mem_map.mp hd
  obtain ⟨b', _, rfl⟩ := List.mem_map.mp hd'
  exact alike_atoms _ _
theorem atV_sortable (ps : List AP) : PySem.W.Sortable ((ps.map atV).map (·.2)) := by
  refine .inl fun d hd => ?_
  rw [List.map_map] at hd
  obtain ⟨b, _, rfl⟩ := List.mem_map.mp hd
  exact ⟨_, _, rfl⟩
def sp__law_put (K : PySem.W.Frag) : Sp := fun vs H Q _ => ∃ (a rw_ : Addr) (ps : List AP) (row : List Int) (n : Nat), vs = [.ref a, .ref rw_] ∧ SqL K H a (apV ps) ∧ AtomsP K H ps ∧ (∀ q ∈ ps, AtOk n q.2) ∧ ps.length ≤ 100 ∧ n ≤ 4 ∧ SqT K H rw_ (row.map V.int) ∧ RowIn n row ∧
  ∀ (p : Addr) (qs : List AP) H', Same H H' → SqT K H' p (apV qs) → AtomsP K H' qs → (qs.map (·.2)).Perm ((ps.map (·.2)).map (putA row)) → (qs.map (·.2)).Pairwise atLe → Q (.ref p) H'
set_option maxHeartbeats 4000000 in
theorem ok__law_put (F : Fun K "_law_put" "_law_put" s__law_put f fd) (m_tuple : mg "tuple" = none) (m_sorted : mg "sorted" = none) : FnOk P w K mg base CX0 1 f fd ["atoms", "row"] (sp__law_put K) := by
  refine F.ok sc__law_put (fun vs H Q E h => ?_) (fun cdv A outer s H vs Q E hr h => ?_)
  · obtain ⟨a, rw_, ps, row, n, rfl, _⟩ := h
    rfl
  obtain ⟨a, rw_, ps, row, n, rfl, hA, hP, hOk, h100, hn, hR, hIn, q⟩ := h
  refine ⟨_, (pss_one (ps_ret (pe_callTy call_tuple_of (by rfl) m_tuple (by decide +kernel) (pa_cons (pe_callB (cr_sortedD hr.units) (by rfl) m_sorted (by decide +kernel) (pa_cons (pe_lc (own := [("one", 2)]) rfl sc__law_put.nd (pi_list (pv 0)) (blkOk_by (N := ["atoms", "row", "one", "slot"]) (sc := defScope s__law_put) (by decide +kernel)) (fun _ _ _ _ _ => (pg_name (i := 2) sc__law_put.nd rfl (.inl rfl))) (fun _ _ _ _ _ => pts_nil) (fun _ _ _ _ _ => (pe_tup (pa_cons (pe_ix (ix_tupK K rfl) (pv 2) pe_int (fun _ _ => rfl)) (pa_cons (pe_callTy (call_tuple_ofK K rfl) (by rfl) m_tuple (by decide +kernel) (pa_cons (pe_lc (own := [("slot", 3)]) rfl sc__law_put.nd (pi_tupK K rfl (pe_ix (ix_tupK K rfl) (pv 2) pe_int (fun _ _ => rfl))) (blkOk_by (N := ["atoms", "row", "one", "slot"]) (sc := { kind := ScopeKind.function, names := [(Str.ofString ".0", NameKind.local), (Str.ofString "one", NameKind.local), (Str.ofString "tuple", NameKind.globalImplicit), (Str.ofString "row", NameKind.cell)], isGenerator := false, isCoroutine := false }) (by decide +kernel)) (fun _ _ _ _ _ => (pg_name (i := 3) sc__law_put.nd rfl (.inl rfl))) (fun _ _ _ _ _ => pts_nil) (fun _ _ _ _ _ => (pe_ix (ix_tupK K rfl) (pv 1) (pv 3) (fun _ _ => rfl)))) pa_nil)) pa_nil))))) pa_nil)) pa_nil)))), ?_⟩
  refine ⟨_, rfl, a, rfl, ⟨_, hA⟩, fun D nD => ?_⟩
  refine lc_it (walk_list (xs := apV ps)) (fun m H' => ∃ ls : List AP, H' D = some (.lst (apV ls)) ∧ ls.map (·.2) = ((ps.take m).map (·.2)).map (putA row) ∧ AtomsP K H' ls ∧ Same H H')
    ⟨[], upd_same, rfl, (fun p hp => nomatch hp), same_new nD⟩ (fun m H' _ ⟨_, _, _, _, z⟩ => z.seq hA) ?_ ?_
  · rintro m v _ H1 hm ⟨ls, c1, c2, c3, c4⟩ ⟨rfl, hx⟩
    obtain ⟨q0, hq0, rfl⟩ := apV_get hx
    have hok0 := hOk q0 (List.mem_of_getElem? hq0)
    obtain ⟨b, z1, z2⟩ := (hP q0 (List.mem_of_getElem? hq0)).tups (Tups.same c4)
    have lls : ls.length ≤ 100 := by
      have z := congrArg List.length c2
      rw [List.length_map, List.length_map, List.length_map, List.length_take] at z
      omega
    refine ⟨rfl, yes_ ?_⟩
    refine ⟨_, rfl, q0.1, _, 0, _, rfl, rfl, z1, rfl, _, rfl, q0.1, _, 1, _, rfl, rfl, z1, rfl, b, rfl, ⟨_, z2⟩, fun E nE => ?_⟩
    refine lc_it (walk_tup (xs := q0.2.2.map V.int)) (fun i H' => H' E = some (.lst (((q0.2.2.take i).map fun s => row.getD s.toNat 0).map V.int)) ∧ Same H1 H')
      ⟨upd_same, same_new nE⟩ (fun i H' _ h => h.2.seqT z2) ?_ ?_
    · rintro i v _ H2 hi ⟨d1, d2⟩ ⟨rfl, hx⟩
      rw [List.getElem?_map] at hx
      obtain ⟨sl, hsl, rfl⟩ := Option.map_eq_some_iff.mp hx
      have hb := hok0.2.2 sl (List.mem_of_getElem? hsl)
      have hlt : sl.toNat < row.length := by rw [hIn.len]; omega
      have hat : atI (row.map V.int) sl = some (.int (row.getD sl.toNat 0)) := by
        have z := atI_nat (xs := row.map V.int) (j := sl.toNat) (v := .int (row.getD sl.toNat 0)) (by rw [List.getElem?_map, List.getElem?_eq_getElem hlt, List.getD_eq_getElem?_getD, List.getElem?_eq_getElem hlt]; rfl)
        rwa [show ((sl.toNat : Nat) : Int) = sl by omega] at z
      refine ⟨rfl, yes_ ?_⟩
      have h4 := hok0.2.1
      refine ⟨_, rfl, _, rfl, rw_, _, _, _, rfl, rfl, (c4.trans d2).seqT hR, hat, _, d1, ?_, ?_, Same.over nE d2⟩
      · rw [List.length_map, List.length_map, List.length_take]
        exact small1000 (by omega)
      · rw [upd_same, List.take_add_one, hsl, List.map_append, List.map_append]
        rfl
    · rintro H2 ⟨d1, d2⟩
      rw [List.length_map, List.take_length] at d1
      refine ⟨E, _, rfl, .inl ⟨SqL.of d1, fun tb ntb => ⟨two_fits, fun u nu => ?_⟩⟩⟩
      have s1 := (d2.trans (same_new (o := .tup ((q0.2.2.map fun s => row.getD s.toNat 0).map V.int)) ntb)).trans (same_new (o := .tup [V.int q0.2.1, V.ref tb]) nu)
      have ntu : tb ≠ u := fun e => by
        rw [← e, upd_same] at nu
        cases nu
      have eD := s1 _ _ c1
      refine ⟨_, eD, small1000 (by rw [apV_len]; omega), ls ++ [(u, putA row q0.2)], by rw [upd_same, apV_snoc], ?_, ?_, Same.over nD (c4.trans s1)⟩
      · rw [List.map_append, c2, List.take_add_one, hq0, List.map_append, List.map_append]
        rfl
      · have tt := Tups.lst (o := .lst (apV ls ++ [.ref u])) eD
        intro q hq
        rcases List.mem_append.mp hq with hq | hq
        · exact ((c3 q hq).tups (Tups.same s1)).tups tt
        · rw [List.mem_singleton.mp hq]
          exact ⟨tb, tt _ _ _ (.inl (.inl upd_same)), tt _ _ _ (.inl (.inl (by rw [upd_ne ntu, upd_same]; rfl)))⟩
  · rintro H1 ⟨ls, c1, c2, c3, c4⟩
    rw [apV_len, List.take_length] at c2
    obtain ⟨qs, pm, pw, em⟩ := sorted_atoms ls
    refine ⟨D, ls.map atV, rfl, by rw [atV_fst]; exact SqL.of c1, fun b hb => ?_, atV_alike ls, atV_sortable ls, fun b hb => ?_, fun p np => ?_⟩
    · obtain ⟨k, hk, rfl⟩ := List.mem_map.mp hb
      exact atom_dp (c3 k hk)
    · obtain ⟨k, hk, rfl⟩ := List.mem_map.mp hb
      have := depth_atom k.2
      show (atomD k.2).depth ≤ 50
      omega
    · rw [em, atV_fst]
      refine ⟨p, _, rfl, .inl ⟨SqL.of upd_same, fun u nu => ?_⟩⟩
      have tt := (Tups.new (o := .lst (apV qs)) np).trans (Tups.new (o := .tup (apV qs)) nu)
      exact q u qs _ ((c4.trans (same_new np)).trans (same_new nu)) (.inl (.inl upd_same)) (fun k hk => (c3 k (pm.mem_iff.mp hk)).tups tt) (by rw [← c2]; exact pm.map _) pw

/-- a kind of n slots stands there -/
def KindAt (K : PySem.W.Frag) (H : Hp) (kp : Addr) (n : Nat) (qs : List AP) : Prop := ∃ (sa at_ : Addr) (ss : List Int), SqT K H kp [.ref sa, .ref at_] ∧ SqT K H sa (ss.map V.int) ∧ ss.length = n ∧ SqT K H at_ (apV qs) ∧ AtomsP K H qs
structure KindOk (n : Nat) (qs : List AP) : Prop where
  lo : 1 ≤ n
  hi : n ≤ 4
  few : qs.length ≤ 30
  ok : ∀ q ∈ qs, AtOk n q.2
theorem KindAt.tups {H H' : Hp} {kp : Addr} {n : Nat} {qs : List AP} (e : Tups H H') (h : KindAt K H kp n qs) : KindAt K H' kp n qs := by
  obtain ⟨sa, a, ss, h1, h2, h3, h4, h5⟩ := h
  exact ⟨sa, a, ss, e _ _ _ h1, e _ _ _ h2, h3, e _ _ _ h4, h5.tups e⟩
/-- a pair of put atoms and their row -/
def BestAt (K : PySem.W.Frag) (H : Hp) (srt : List Int) (ps : List AP) (v : V) : Prop := ∃ (bp pa rw_ : Addr) (qs : List AP) (row : List Int), v = .ref bp ∧ SqT K H bp [.ref pa, .ref rw_] ∧ SqT K H pa (apV qs) ∧ AtomsP K H qs ∧ SqT K H rw_ (row.map V.int) ∧ RowIn srt.length row ∧
  (qs.map (·.2)).Perm ((ps.map (·.2)).map (putA row)) ∧ (qs.map (·.2)).Pairwise atLe
theorem BestAt.tups {H H' : Hp} {srt : List Int} {ps : List AP} {v : V} (e : Tups H H') (h : BestAt K H srt ps v) : BestAt K H' srt ps v := by
  obtain ⟨bp, pa, rw_, qs, row, rfl, h1, h2, h3, h4, h5⟩ := h
  exact ⟨bp, pa, rw_, qs, row, rfl, e _ _ _ h1, e _ _ _ h2, h3.tups e, e _ _ _ h4, h5⟩
theorem put_all_ok {n : Nat} {ps qs : List AP} {row : List Int} (hr : RowIn n row) (h : ∀ q ∈ ps, AtOk n q.2) (pm : (qs.map (·.2)).Perm ((ps.map (·.2)).map (putA row))) : ∀ q ∈ qs, AtOk n q.2 := fun q hq => by
  have z : q.2 ∈ (ps.map (·.2)).map (putA row) := pm.mem_iff.mp (List.mem_map.mpr ⟨q, hq, rfl⟩)
  obtain ⟨x, hx, e⟩ := List.mem_map.mp z
  obtain ⟨p, hp, rfl⟩ := List.mem_map.mp hx
  rw [← e]
  exact put_ok hr (h p hp)
theorem alike_told (a b : List AT) (r s : List Int) : PySem.W.alike (.tuple [.tuple (a.map atomD), rowD r]) (.tuple [.tuple (b.map atomD), rowD s]) = true := by
  simp [PySem.W.alike, PySem.W.alikeAll, alikeAll_atoms, alike_rows]
theorem depth_told (a : List AT) (r : List Int) : (PyData.tuple [.tuple (a.map atomD), rowD r]).depth ≤ 60 := by
  have := depth_atoms a
  simp only [PyData.depth, PyData.depthAll, depth_row]
  omega
def sp__law_canonical (K : PySem.W.Frag) : Sp := fun vs H Q _ => ∃ (so a : Addr) (srt : List Int) (ps : List AP), vs = [.ref so, .ref a] ∧ H so = some (.lst (srt.map V.int)) ∧ 1 ≤ srt.length ∧ srt.length ≤ 4 ∧ H a = some (.lst (apV ps)) ∧ AtomsP K H ps ∧ (∀ q ∈ ps, AtOk srt.length q.2) ∧ ps.length ≤ 30 ∧
  ∀ (R kp rw_ : Addr) (qs : List AP) H', Same H H' → H' R = some (.lst [.ref kp, .ref rw_]) → KindAt K H' kp srt.length qs → KindOk srt.length qs → Q (.ref R) H'
set_option maxHeartbeats 4000000 in
theorem ok__law_canonical (F : Fun K "_law_canonical" "_law_canonical" s__law_canonical f fd) (C__law_exchanges : Cal P w K mg base 1 "_law_exchanges" s__law_exchanges ["sorts"] (sp__law_exchanges K)) (C__law_put : Cal P w K mg base 1 "_law_put" s__law_put ["atoms", "row"] (sp__law_put K)) (m_tuple : mg "tuple" = none) (m_sorted : mg "sorted" = none) : FnOk P w K mg base CX0 2 f fd ["sorts", "atoms"] (sp__law_canonical K) := by
  refine F.ok sc__law_canonical (fun vs H Q E h => ?_) (fun cdv A outer s H vs Q E hr h => ?_)
  · obtain ⟨so, a, srt, ps, rfl, _⟩ := h
    rfl
  obtain ⟨so, a, srt, ps, rfl, hso, h1, h4, ha, hP, hOk, h30, q⟩ := h
  refine ⟨_, (pss_cons (ps_set (i := 2) sc__law_canonical.nd rfl (.inl rfl) pe_non)
  (pss_cons (ps_for PassesOwn.never rfl (pi_list (pe_cal C__law_exchanges hr (by first | decide | exact Nat.le_refl _) (by rfl) (pa_cons (pv 0) pa_nil))) (pg_name (i := 3) sc__law_canonical.nd rfl (.inl rfl))
  (pss_cons (ps_set (i := 4) sc__law_canonical.nd rfl (.inl rfl) (pe_tup (pa_cons (pe_cal C__law_put hr (by first | decide | exact Nat.le_refl _) (by rfl) (pa_cons (pv 1) (pa_cons (pv 3) pa_nil))) (pa_cons (pv 3) pa_nil))))
  (pss_one (ps_if (PW.pt (pw_or (pt_cmpR op_isN (pv 2) pe_non (nomark _)) (pw_or1 (pt_cmpR (op_ltD hr.units) (pv 4) (pv 2) (nomark _)))))
  (pss_one (ps_set (i := 2) sc__law_canonical.nd rfl (.inl rfl) (pv 4))) pss_nil))))
  (pss_one (ps_ret (pe_lst (pa_cons (pe_tup (pa_cons (pe_callTy call_tuple_of (by rfl) m_tuple (by decide +kernel) (pa_cons (pe_callB (cr_sortedIL hr.units) (by rfl) m_sorted (by decide +kernel) (pa_cons (pv 0) pa_nil)) pa_nil)) (pa_cons (pe_ix ix_tup (pv 2) pe_int (fun _ _ => rfl)) pa_nil))) (pa_cons (pe_ix ix_tup (pv 2) pe_int (fun _ _ => rfl)) pa_nil))))))), ?_⟩
  refine ⟨_, rfl, so, srt, rfl, hso, h4, fun D ks due H1 pm up eD ek ts s1 => ?_⟩
  have ld : due.length = srt.length := pm.length_eq
  have hrows : ∀ k ∈ ks, RowIn srt.length k.2 := fun k hk => by
    have z : k.2 ∈ exRows due srt := by
      rw [← ek]
      exact List.mem_map.mpr ⟨k, hk, rfl⟩
    have y := exRows_ok _ z
    exact ⟨y.len, fun x hx => by have := y.lt x hx; omega⟩
  have hsome : ks ≠ [] := fun e => exRows_some pm.symm (by rw [← ek, e]; rfl)
  refine ⟨D, rfl, ⟨_, SqL.of eD⟩, for_list (xs := refsV ks) (fun i σ H' => (∃ (b : V) (b3 b4 : Option V), σ = [some (.ref so), some (.ref a), some b, b3, b4] ∧ ((i = 0 ∧ b = .non) ∨ BestAt K H' srt ps b)) ∧ Same H1 H')
    ⟨⟨_, _, _, rfl, .inl ⟨rfl, rfl⟩⟩, Same.refl _⟩ (fun i σ H' _ h => SqL.of (h.2 _ _ eD)) ?_ ?_⟩
  · rintro i v σ H2 hv ⟨⟨b, b3, b4, rfl, hb⟩, sm⟩
    obtain ⟨q0, hq0, rfl⟩ := refsV_get hv
    have hq := sm.seqT (ts q0 (List.mem_of_getElem? hq0))
    have hrow := hrows q0 (List.mem_of_getElem? hq0)
    have s12 := s1.trans sm
    refine ⟨_, rfl, _, rfl, a, q0.1, ps, q0.2, srt.length, rfl, SqL.of (s12 _ _ ha), hP.tups (Tups.same s12), hOk, by omega, h4, hq, hrow, fun pa qs H3 s3 hpa hqs pm3 pw3 => ?_⟩
    refine ⟨_, rfl, two_fits, fun tp ntp => ?_⟩
    have s4 := same_new (o := .tup [V.ref pa, V.ref q0.1]) ntp
    have s34 := s3.trans s4
    have told : BestAt K (upd H3 tp (.tup [V.ref pa, V.ref q0.1])) srt ps (.ref tp) := ⟨tp, pa, q0.1, qs, q0.2, rfl, .inl (.inl upd_same), s4.seqT hpa, hqs.tups (Tups.same s4), s34.seqT hq, hrow, pm3, pw3⟩
    rcases hb with ⟨_, rfl⟩ | hb
    · refine ⟨_, rfl, rfl, _, rfl, ite2 (fun _ => ?_) (fun e => absurd (decide_eq_true rfl) e)⟩
      refine iteT ⟨_, rfl, ⟨_, _, _, rfl, .inr told⟩, sm.trans s34⟩
    · have hb2 := hb.tups (Tups.same s34)
      obtain ⟨bp, pa2, rw2, qs2, row2, rfl, g1, g2, g3, g4, g5, g6, g7⟩ := id hb2
      refine ⟨_, rfl, rfl, _, rfl, ite2 (fun e => ?_) (fun _ => ?_)⟩
      · have := of_decide_eq_true e
        cases this
      · have dp1 : Dp K (upd H3 tp (.tup [V.ref pa, V.ref q0.1])) (.ref tp) (.tuple [.tuple ((qs.map (·.2)).map atomD), rowD q0.2]) := .tup (.inl (.inl upd_same)) (.cons (.tup (s4.seqT hpa) (atoms_dpA (hqs.tups (Tups.same s4)))) (.cons (.tup (s34.seqT hq) (tupD_dpAll _)) .nil))
        have dp2 : Dp K (upd H3 tp (.tup [V.ref pa, V.ref q0.1])) (.ref bp) (.tuple [.tuple ((qs2.map (·.2)).map atomD), rowD row2]) := .tup g1 (.cons (.tup g2 (atoms_dpA g3)) (.cons (.tup g4 (tupD_dpAll _)) .nil))
        refine ⟨_, rfl, _, rfl, _, _, ⟨dp1, dp2⟩, alike_told _ _ _ _, ⟨PyData.noConfusion, depth_told _ _⟩, _, rfl, ite2 (fun _ => ?_) (fun _ => ?_)⟩
        · exact ⟨_, rfl, ⟨_, _, _, rfl, .inr told⟩, sm.trans s34⟩
        · exact ⟨⟨_, _, _, rfl, .inr hb2⟩, sm.trans s34⟩
  · rintro σ H2 ⟨⟨b, b3, b4, rfl, hb⟩, sm⟩
    rcases hb with ⟨e, rfl⟩ | hb
    · rw [refsV_len] at e
      exact absurd (List.eq_nil_of_length_eq_zero e) hsome
    obtain ⟨bp, pa2, rw2, qs2, row2, rfl, g1, g2, g3, g4, g5, g6, g7⟩ := hb
    have s12 := s1.trans sm
    refine ⟨_, rfl, so, srt, rfl, SqL.of (s12 _ _ hso), fun ss sp pms ups nsp => ⟨sp, _, rfl, .inl ⟨SqL.of upd_same, fun sa nsa => ?_⟩⟩⟩
    have t1 := (same_new (o := .lst (ss.map V.int)) nsp).trans (same_new (o := .tup (ss.map V.int)) nsa)
    refine ⟨_, rfl, bp, _, 0, _, rfl, rfl, t1.seqT g1, rfl, two_fits, fun kp nkp => ?_⟩
    have t2 := same_new (o := .tup [V.ref sa, V.ref pa2]) nkp
    refine ⟨_, rfl, bp, _, 1, _, rfl, rfl, (t1.trans t2).seqT g1, rfl, two_fits, fun R nR => ?_⟩
    have t3 := same_new (o := .lst [V.ref kp, V.ref rw2]) nR
    refine q R kp rw2 qs2 _ (((s12.trans t1).trans t2).trans t3) upd_same ⟨sa, pa2, ss, t3.seqT (.inl (.inl upd_same)), (t2.trans t3).seqT (.inl (.inl upd_same)), pms.length_eq, ((t1.trans t2).trans t3).seqT g2, g3.tups (Tups.same ((t1.trans t2).trans t3))⟩ ⟨h1, h4, ?_, put_all_ok g5 hOk g6⟩
    have z := g6.length_eq
    rw [List.length_map, List.length_map, List.length_map] at z
    omega

theorem intsV_map (l : List Nat) : intsV l = (l.map fun n : Nat => (n : Int)).map V.int := by
  unfold intsV
  rw [List.map_map]
  rfl
def rangeI (n : Nat) : List Int := (List.range n).map fun i : Nat => (i : Int)
theorem rgV_range (n : Nat) : rgV 0 (n : Int) = (rangeI n).map V.int := by
  unfold rgV rangeI
  rw [List.map_map, show ((n : Int) - 0).toNat = n by omega]
  refine List.map_congr_left fun i _ => ?_
  show V.int (0 + (i : Int)) = V.int (i : Int)
  rw [Int.zero_add]
theorem range_at (srt : List Int) : (rangeI srt.length).map (fun x => srt[x.toNat]?) = srt.map some := by
  unfold rangeI
  rw [List.map_map]
  refine List.ext_getElem? fun i => ?_
  rw [List.getElem?_map, List.getElem?_map]
  by_cases h : i < srt.length
  · rw [List.getElem?_range h, List.getElem?_eq_getElem h]
    simp [h]
  · rw [List.getElem?_eq_none (by simp; omega), List.getElem?_eq_none (by omega)]
    rfl
def sp__law_guard (K : PySem.W.Frag) : Sp := fun vs H Q _ => ∃ (st c : Addr) (ns : List Int) (t so : Addr) (L : Lg) (srt : List Int), vs = [.ref st, .ref t, .ref so] ∧ StAt st c ns H ∧ LangAt K H t L ∧ LgOk L ∧ H so = some (.lst (srt.map V.int)) ∧ so ≠ st ∧ srt.length ≤ 4 ∧
  ∀ (D : Addr) (ps : List AP) H', D ≠ st → H' D = some (.lst (apV ps)) → ps.length ≤ 16 → (∀ q ∈ ps, AtOk srt.length q.2) → AtomsP K H' ps → Kept st H H' → StAt st c ns H' → Q (.ref D) H'
set_option maxHeartbeats 4000000 in
theorem ok__law_guard (F : Fun K "_law_guard" "_law_guard" s__law_guard f fd) (C__law_take : Cal P w K mg base 2 "_law_take" s__law_take ["state", "limit"] (sp__law_take K)) (m_range : mg "range" = none) (m_len : mg "len" = none) (m_sorted : mg "sorted" = none) (m_list : mg "list" = none) (m_tuple : mg "tuple" = none) : FnOk P w K mg base CX0 3 f fd ["state", "language", "sorts"] (sp__law_guard K) := by
  refine F.ok sc__law_guard (fun vs H Q E h => ?_) (fun cdv A outer s H vs Q E hr h => ?_)
  · obtain ⟨st, c, ns, t, so, L, srt, rfl, _⟩ := h
    rfl
  obtain ⟨st, c, ns, t, so, L, srt, rfl, hst, ⟨rt, rs, hL1, hL2, hL3, hL4⟩, hok, hso, nso, h4, q⟩ := h
  have W := drw st c ns
  have hfew := hok.few
  refine ⟨_, (pss_cons (ps_set (i := 4) sc__law_guard.nd rfl (.inl rfl) (pe_lst pa_nil))
  (pss_cons (ps_for PassesOwn.never rfl (pi_range1 (by rfl) m_range (pa_cons (pe_callB call_len_seq (by rfl) m_len (by decide +kernel) (pa_cons (pe_ix ix_tup (pv 1) pe_int (fun _ _ => rfl)) pa_nil)) pa_nil)) (pg_name (i := 5) sc__law_guard.nd rfl (.inl rfl))
  (pss_cons (ps_set (i := 7) sc__law_guard.nd rfl (.inl rfl) (pe_ix ix_tup (pe_ix ix_tup (pe_ix ix_tup (pv 1) pe_int (fun _ _ => rfl)) (pv 5) (fun _ _ => rfl)) pe_int (fun _ _ => rfl)))
  (pss_one (ps_if (pt_cmpR (op_eqD hr.units) (pe_callB (cr_sortedIT hr.units) (by rfl) m_sorted (by decide +kernel) (pa_cons (pv 7) pa_nil)) (pe_callB (cr_sortedIL hr.units) (by rfl) m_sorted (by decide +kernel) (pa_cons (pv 2) pa_nil)) (nomark _))
  (pss_cons (ps_set (i := 8) sc__law_guard.nd rfl (.inl rfl) (pe_listRg rfl (by rfl) m_list (prg_1 (by rfl) m_range (pe_callB call_len_seq (by rfl) m_len (by decide +kernel) (pa_cons (pv 2) pa_nil)))))
  (pss_cons (ps_set (i := 10) sc__law_guard.nd rfl (.inl rfl) (pe_lst pa_nil))
  (pss_cons (ps_for PassesOwn.never rfl (pi_tup (pv 7)) (pg_name (i := 6) sc__law_guard.nd rfl (.inr rfl))
  (pss_cons (ps_setLc (i := 3) (own := [("slot", 9)]) rfl sc__law_guard.nd rfl rfl (sw_true rfl rfl rfl (by decide +kernel)) (pi_list (pv 8)) (blkOk_by (N := ["state", "language", "sorts", "fit", "found", "number", "place", "places", "pool", "slot", "slots"]) (sc := defScope s__law_guard) (by decide +kernel)) (fun _ _ _ _ _ => (pg_name (i := 9) sc__law_guard.nd rfl (.inl rfl))) (fun _ _ _ _ _ => (pts_one (pt_cmpR op_eq (pe_ix (ix_listK K rfl) (pv 2) (pv 9) (fun _ _ => rfl)) (pv 6) (nomark _)))) (fun _ _ _ _ _ => (pv 9)))
  (pss_cons (ps_set (i := 9) sc__law_guard.nd rfl (.inl rfl) (pe_ix ix_list (pv 3) (pe_cal C__law_take hr (by first | decide | exact Nat.le_refl _) (by rfl) (pa_cons (pv 0) (pa_cons (pe_callB call_len_seq (by rfl) m_len (by decide +kernel) (pa_cons (pv 3) pa_nil)) pa_nil))) (fun _ _ => rfl)))
  (pss_cons (ps_expr (pe_bm PySem.F.plainAttrs_list PySem.F.slot_list_remove PySem.F.type_list_remove mt_remove (pv 8) (pa_cons (pv 9) pa_nil)))
  (pss_one (ps_expr (pe_bm PySem.F.plainAttrs_list PySem.F.slot_list_append PySem.F.type_list_append mt_append (pv 10) (pa_cons (pv 9) pa_nil))))))))
  (pss_one (ps_expr (pe_bm PySem.F.plainAttrs_list PySem.F.slot_list_append PySem.F.type_list_append mt_append (pv 4) (pa_cons (pe_tup (pa_cons (pv 5) (pa_cons (pe_callTy call_tuple_of (by rfl) m_tuple (by decide +kernel) (pa_cons (pv 10) pa_nil)) pa_nil))) pa_nil))))))) pss_nil))))
  (pss_one (ps_ret (pv 4))))), ?_⟩
  refine ⟨Nat.zero_le _, fun FO nFO => ?_⟩
  have nFOs := (W.fresh _ _ hst nFO).1
  have putF := (W.fresh _ _ hst nFO).2
  have s1 := W.new (o := .lst ([] : List V)) hst nFO
  have m1 := same_new (o := .lst ([] : List V)) nFO
  refine ⟨_, rfl, t, _, 1, _, rfl, rfl, m1.seqT hL1, rfl, rt, _, rfl, .inr (m1.seqT hL2), _, rfl, by omega, by rw [List.length_map]; omega, ?_⟩
  have tn : (((rs.map fun p => V.ref p.1).length : Nat) : Int).toNat = rs.length := by rw [List.length_map]; omega
  rw [tn]
  refine for_range (n := rs.length) (fun i σ H' => (∃ (a3 a5 a6 a7 a8 a9 a10 : Option V), σ = [some (.ref st), some (.ref t), some (.ref so), a3, some (.ref FO), a5, a6, a7, a8, a9, a10]) ∧ StAt st c ns H' ∧ Kept st H H' ∧
      ∃ ps : List AP, H' FO = some (.lst (apV ps)) ∧ ps.length ≤ i ∧ (∀ q ∈ ps, AtOk srt.length q.2) ∧ AtomsP K H' ps)
    ⟨⟨_, _, _, _, _, _, _, rfl⟩, s1, Kept.new nFO, [], upd_same, Nat.zero_le _, by simp, fun q hq => nomatch hq⟩ ?_ ?_
  · rintro j σ H1 hj ⟨⟨a3, a5, a6, a7, a8, a9, a10, rfl⟩, s2, k2, ps, f1, f2, f3, f4⟩
    have ej : (0 : Int) + (j : Nat) = (j : Nat) := by omega
    rw [ej]
    have t2 := W.tups hst k2
    have hp : rs[j]? = some rs[j] := List.getElem?_eq_getElem hj
    have hjr : j < L.rels.length := by omega
    have hr2 : L.rels[j]? = some L.rels[j] := List.getElem?_eq_getElem hjr
    obtain ⟨z1, z2⟩ := hL4 j _ _ hp hr2
    obtain ⟨p1, p2, p3⟩ := hok.pl _ (List.getElem_mem hjr)
    have hat : atI (rs.map fun p => V.ref p.1) (j : Int) = some (.ref rs[j].1) := atI_nat (by rw [List.getElem?_map, hp]; rfl)
    generalize rs[j] = p at *
    generalize L.rels[j] = r at *
    refine ⟨_, rfl, t, _, 1, _, rfl, rfl, t2 _ _ _ hL1, rfl, _, rfl, rt, _, _, _, rfl, rfl, t2 _ _ _ hL2, hat, p.1, _, 1, _, rfl, rfl, t2 _ _ _ z1, rfl, ?_⟩
    have hpl := t2 _ _ _ z2
    have hso1 := k2 _ _ nso hso
    refine ⟨_, rfl, p.2, r.2.map (fun n : Nat => (n : Int)), rfl, by rw [← intsV_map]; exact hpl, fun l1 q1 pm1 up1 nq1 => ?_⟩
    have m3 := same_new (o := .lst (l1.map V.int)) nq1
    refine ⟨_, rfl, so, srt, rfl, SqL.of (m3 _ _ hso1), fun l2 q2 pm2 up2 nq2 => ?_⟩
    have m4 := same_new (o := .lst (l2.map V.int)) nq2
    refine ⟨.list (l1.map .int), .list (l2.map .int), .lst (SqL.of (m4 _ _ upd_same)) (tupD_dpAll _), .lst (SqL.of upd_same) (tupD_dpAll _), shaped_ints _, shaped_ints _, _, rfl, ?_⟩
    rw [PyData.eqv, eqvAll_ints]
    have m34 := m3.trans m4
    have s4 := StAt.same m34 s2
    have k4 := k2.trans m34.kept
    have f1' := m34 _ _ f1
    have f4' := f4.tups (Tups.same m34)
    have hso4 := m34 _ _ hso1
    have hpl4 := m34.seqT hpl
    generalize upd (upd H1 q1 (.lst (l1.map V.int))) q2 (.lst (l2.map V.int)) = H4 at s4 k4 f1' f4' hso4 hpl4
    refine ite2 (fun e => ?_) (fun _ => ⟨⟨_, _, _, _, _, _, _, rfl⟩, s4, k4, ps, f1', by omega, f3, f4'⟩)
    have el : l1 = l2 := of_decide_eq_true e
    subst el
    have pmr : (r.2.map fun n : Nat => (n : Int)).Perm srt := pm1.symm.trans pm2
    have lrs : r.2.length = srt.length := by rw [← pmr.length_eq, List.length_map]
    clear pm1 pm2 up1 up2 nq1 nq2 m3 m4 m34 e f1 f4 hso1 hpl s2 k2 t2
    -- pool
    refine ⟨_, rfl, so, _, rfl, .inl (SqL.of hso4), _, rfl, RgOk.of_le (by omega) (by rw [List.length_map]; omega) (by omega) (by omega), fun PO nPO => ?_⟩
    rw [show ((srt.map V.int).length : Int) = (srt.length : Int) by rw [List.length_map], rgV_range]
    have nPs := (W.fresh _ _ s4 nPO).1
    have putP := (W.fresh _ _ s4 nPO).2
    have m5 := same_new (o := .lst ((rangeI srt.length).map V.int)) nPO
    have s5 := W.new (o := .lst ((rangeI srt.length).map V.int)) s4 nPO
    refine ⟨Nat.zero_le _, fun SL nSL => ?_⟩
    have nSs := (W.fresh _ _ s5 nSL).1
    have putS := (W.fresh _ _ s5 nSL).2
    have m6 := same_new (o := .lst ([] : List V)) nSL
    have s6 := W.new (o := .lst ([] : List V)) s5 nSL
    have nPS : PO ≠ SL := ne_of_none (by rw [upd_same]) nSL
    have hSL4 : H4 SL = none := by rwa [upd_ne (Ne.symm nPS)] at nSL
    have nFP : FO ≠ PO := ne_of_none f1' nPO
    have nFS : FO ≠ SL := ne_of_none f1' hSL4
    have m56 := m5.trans m6
    refine ⟨_, rfl, p.2, rfl, ⟨_, m56.seqT hpl4⟩, for_tup (xs := intsV r.2) (fun i σ H' => (∃ (a3 a6 a9 : Option V), σ = [some (.ref st), some (.ref t), some (.ref so), a3, some (.ref FO), some (.int (j : Nat)), a6, some (.ref p.2), some (.ref PO), a9, some (.ref SL)]) ∧ StAt st c ns H' ∧ Kept st H4 H' ∧
        ∃ pool ss : List Int, H' PO = some (.lst (pool.map V.int)) ∧ H' SL = some (.lst (ss.map V.int)) ∧ (pool.map fun x => srt[x.toNat]?).Perm ((r.2.drop i).map fun n : Nat => some (n : Int)) ∧ (∀ x ∈ pool, 0 ≤ x ∧ x < (srt.length : Int)) ∧ ss.length = i ∧ ∀ x ∈ ss, 0 ≤ x ∧ x < (srt.length : Int))
      ⟨⟨_, _, _, rfl⟩, s6, m56.kept, rangeI srt.length, [], by rw [upd_ne nPS, upd_same], upd_same, ?_, fun x hx => ?_, rfl, by simp⟩ (fun i σ H' _ h => W.seqT s4 h.2.2.1 hpl4) ?_ ?_⟩
    · rw [range_at, List.drop_zero]
      have z := (pmr.map some).symm
      rwa [List.map_map] at z
    · obtain ⟨i, hi, rfl⟩ := List.mem_map.mp hx
      have := List.mem_range.mp hi
      omega
    · rintro i v σ H5 hv ⟨⟨a3, a6, a9, rfl⟩, s7, k7, pool, ss, g1, g2, g3, g4, g5, g6⟩
      have hv2 : (r.2.map fun n : Nat => V.int (n : Int))[i]? = some v := hv
      rw [List.getElem?_map] at hv2
      obtain ⟨pl, hpl2, rfl⟩ := Option.map_eq_some_iff.mp hv2
      have hi : i < r.2.length := (List.getElem?_eq_some_iff.mp hpl2).1
      have hdrop : r.2.drop i = pl :: r.2.drop (i + 1) := by
        rw [List.drop_eq_getElem_cons hi]
        congr 1
        rw [List.getElem?_eq_getElem hi] at hpl2
        exact Option.some.inj hpl2
      rw [hdrop, List.map_cons] at g3
      have hso5 := k7 _ _ nso hso4
      have lpool : pool.length ≤ 4 := by
        have z := g3.length_eq
        rw [List.length_map, List.length_cons, List.length_map, List.length_drop] at z
        omega
      -- fit
      refine ⟨_, rfl, PO, rfl, ⟨_, SqL.of g1⟩, fun D nD => ?_⟩
      refine lc_it (walk_list (xs := pool.map V.int)) (fun m H' => H' D = some (.lst (((pool.take m).filter fun x => decide (srt[x.toNat]? = some (pl : Int))).map V.int)) ∧ Same H5 H')
        ⟨upd_same, same_new nD⟩ (fun m H' _ h => SqL.of (h.2 _ _ g1)) ?_ ?_
      · rintro m v _ H6 hm ⟨c1, c2⟩ ⟨rfl, hx⟩
        rw [List.getElem?_map] at hx
        obtain ⟨x, hx3, rfl⟩ := Option.map_eq_some_iff.mp hx
        have hb := g4 x (List.mem_of_getElem? hx3)
        have hlt : x.toNat < srt.length := by omega
        have hx2 : srt[x.toNat]? = some srt[x.toNat] := List.getElem?_eq_getElem hlt
        have hat2 : atI (srt.map V.int) x = some (.int srt[x.toNat]) := by
          have z := atI_nat (xs := srt.map V.int) (j := x.toNat) (v := .int srt[x.toNat]) (by rw [List.getElem?_map, hx2]; rfl)
          rwa [show ((x.toNat : Nat) : Int) = x by omega] at z
        refine ⟨rfl, _, rfl, _, rfl, so, _, _, _, rfl, rfl, SqL.of (c2 _ _ hso5), hat2, _, rfl, rfl, _, rfl, ite2 (fun e => ?_) (fun e => ?_)⟩
        · have e1 : srt[x.toNat] = (pl : Int) := V.int.inj (of_decide_eq_true e)
          refine ⟨_, rfl, _, c1, ?_, ?_, Same.over nD c2⟩
          · rw [List.length_map]
            have z := List.length_filter_le (fun x : Int => decide (srt[x.toNat]? = some (pl : Int))) (pool.take m)
            rw [List.length_take] at z
            exact small1000 (by omega)
          · rw [upd_same, List.take_add_one, hx3, List.filter_append, List.map_append]
            have e2 : decide (srt[x.toNat]? = some (pl : Int)) = true := decide_eq_true (by rw [hx2, e1])
            simp [e2]
        · have e2 : decide (srt[x.toNat]? = some (pl : Int)) = false := decide_eq_false fun z => e (decide_eq_true (by rw [hx2] at z; rw [Option.some.inj z]))
          refine ⟨?_, c2⟩
          rw [c1, List.take_add_one, hx3, List.filter_append]
          simp [e2]
      rintro H6 ⟨c1, c2⟩
      rw [List.length_map, List.take_length] at c1
      have hFmem : ∀ x ∈ pool.filter (fun x => decide (srt[x.toNat]? = some (pl : Int))), x ∈ pool ∧ srt[x.toNat]? = some (pl : Int) := fun x hx => by
        obtain ⟨y1, y2⟩ := List.mem_filter.mp hx
        exact ⟨y1, of_decide_eq_true y2⟩
      have hFne : pool.filter (fun x => decide (srt[x.toNat]? = some (pl : Int))) ≠ [] := fun e => by
        have z : some (pl : Int) ∈ pool.map fun x => srt[x.toNat]? := g3.mem_iff.mpr List.mem_cons_self
        obtain ⟨x, hx, ex⟩ := List.mem_map.mp z
        have : x ∈ pool.filter (fun x => decide (srt[x.toNat]? = some (pl : Int))) := List.mem_filter.mpr ⟨hx, decide_eq_true ex⟩
        rw [e] at this
        cases this
      have hFl := List.length_filter_le (fun x : Int => decide (srt[x.toNat]? = some (pl : Int))) pool
      generalize pool.filter (fun x => decide (srt[x.toNat]? = some (pl : Int))) = F at c1 hFmem hFne hFl
      have hF0 : 0 < F.length := List.length_pos_iff.mpr hFne
      have s8 := StAt.same c2 s7
      have nDs : D ≠ st := (W.fresh _ _ s7 nD).1
      -- slot
      refine ⟨_, rfl, _, rfl, _, rfl, D, _, rfl, .inl (SqL.of c1), st, c, ns, _, rfl, s8, by rw [List.length_map]; omega, by rw [List.length_map]; omega, fun d H7 d0 d1 k8 s9 => ?_⟩
      rw [List.length_map] at d1
      obtain ⟨x, hx, hxm⟩ := atI_pick (l := F) d0 d1
      have hx2 : atI (F.map V.int) d = some (.int x) := by
        obtain ⟨m, rfl⟩ := Int.eq_ofNat_of_zero_le d0
        have hm : m < F.length := by omega
        rw [atI_nat (List.getElem?_eq_getElem hm)] at hx
        cases hx
        exact atI_nat (by rw [List.getElem?_map, List.getElem?_eq_getElem hm]; rfl)
      obtain ⟨hxp, hxs⟩ := hFmem x hxm
      refine ⟨D, _, d, _, rfl, rfl, SqL.of (k8 _ _ nDs c1), hx2, ?_⟩
      -- pool.remove(slot)
      have g1' := k8 _ _ nPs (c2 _ _ g1)
      have g2' := k8 _ _ nSs (c2 _ _ g2)
      obtain ⟨ix, hix2, hix3⟩ := first_at hxp
      refine ⟨_, rfl, .inl ⟨rfl, _, SqL.of g1'⟩, _, rfl, PO, pool, x, ix, rfl, rfl, g1', hix2, hix3, ?_⟩
      have g2'' : (upd H7 PO (.lst ((pool.eraseIdx ix).map V.int))) SL = some (.lst (ss.map V.int)) := by rw [upd_ne nPS.symm]; exact g2'
      refine ⟨_, rfl, .inl ⟨rfl, _, SqL.of g2''⟩, _, rfl, SL, _, _, rfl, rfl, g2'', small1000 (by rw [List.length_map]; omega), ?_⟩
      have pmx : pool.Perm (x :: pool.eraseIdx ix) := perm_erase hix2
      refine ⟨⟨_, _, _, rfl⟩, putS _ _ (putP _ _ s9), Kept.over hSL4 (Kept.over nPO (k7.trans (c2.kept.trans k8))), pool.eraseIdx ix, ss ++ [x], by rw [upd_ne nPS, upd_same], by rw [upd_same, List.map_append]; rfl, ?_, fun y hy => g4 y (List.mem_of_mem_eraseIdx hy), by rw [List.length_append]; show ss.length + 1 = i + 1; omega, fun y hy => ?_⟩
      · have z := (pmx.map fun x => srt[x.toNat]?).symm.trans g3
        rw [List.map_cons, hxs] at z
        exact z.cons_inv
      · rcases List.mem_append.mp hy with hy | hy
        · exact g6 y hy
        · rw [List.mem_singleton.mp hy]
          exact g4 x hxp
    · rintro σ H5 ⟨⟨a3, a6, a9, rfl⟩, s7, k7, pool, ss, g1, g2, g3, g4, g5, g6⟩
      have lq : (intsV r.2).length = r.2.length := List.length_map _
      rw [lq] at g5
      have f1'' := k7 _ _ nFOs f1'
      refine ⟨_, rfl, .inl ⟨rfl, _, SqL.of f1''⟩, _, rfl, _, rfl, SL, _, rfl, .inl ⟨SqL.of g2, fun tq ntq => ⟨two_fits, fun u nu => ?_⟩⟩⟩
      have m8 := (same_new (o := .tup (ss.map V.int)) ntq).trans (same_new (o := .tup [V.int (j : Nat), V.ref tq]) nu)
      have nqu : tq ≠ u := fun e => by
        rw [← e, upd_same] at nu
        cases nu
      have e8 := m8 _ _ f1''
      refine ⟨FO, _, _, rfl, rfl, e8, small1000 (by rw [apV_len]; omega), ?_⟩
      have tt := Tups.lst (o := .lst (apV ps ++ [.ref u])) e8
      refine ⟨⟨_, _, _, _, _, _, _, rfl⟩, putF _ _ (StAt.same m8 s7), Kept.over nFO ((k4.trans k7).trans m8.kept), ps ++ [(u, (((j : Nat) : Int), ss))], by rw [upd_same, apV_snoc], by rw [List.length_append]; show ps.length + 1 ≤ j + 1; omega, fun q hq => ?_, fun q hq => ?_⟩
      · rcases List.mem_append.mp hq with hq | hq
        · exact f3 q hq
        · rw [List.mem_singleton.mp hq]
          exact ⟨by show 1 ≤ ss.length; omega, by show ss.length ≤ 4; omega, g6⟩
      · rcases List.mem_append.mp hq with hq | hq
        · exact (((f4' q hq).tups (W.tups s4 k7)).tups (Tups.same m8)).tups tt
        · rw [List.mem_singleton.mp hq]
          exact ⟨tq, tt _ _ _ (.inl (.inl upd_same)), tt _ _ _ (.inl (.inl (by rw [upd_ne nqu, upd_same])))⟩
  · rintro σ H1 ⟨⟨a3, a5, a6, a7, a8, a9, a10, rfl⟩, s2, k2, ps, f1, f2, f3, f4⟩
    exact ⟨_, rfl, q FO ps H1 nFOs f1 (by omega) f3 f4 k2 s2⟩


/-! guarded sets of slots -/
def setUp (x : AT) (m : Nat) : List Int := ((List.range m).filter fun i : Nat => decide ((i : Int) ∈ x.2)).map fun i : Nat => (i : Int)
def setOf (n : Nat) (x : AT) : List Int := setUp x n
def allK (n : Nat) (xs : List AT) : List (List Int) := baseRows n ++ xs.map (setOf n)
theorem setUp_mem {x : AT} {m : Nat} {k : Int} : k ∈ setUp x m ↔ 0 ≤ k ∧ k < (m : Int) ∧ k ∈ x.2 := by
  unfold setUp
  constructor
  · intro h
    obtain ⟨i, hi, rfl⟩ := List.mem_map.mp h
    obtain ⟨h1, h2⟩ := List.mem_filter.mp hi
    have := List.mem_range.mp h1
    exact ⟨by omega, by omega, of_decide_eq_true h2⟩
  · rintro ⟨h1, h2, h3⟩
    refine List.mem_map.mpr ⟨k.toNat, List.mem_filter.mpr ⟨List.mem_range.mpr (by omega), decide_eq_true ?_⟩, by omega⟩
    rwa [show ((k.toNat : Nat) : Int) = k by omega]
theorem setUp_len (x : AT) (m : Nat) : (setUp x m).length ≤ m := by
  unfold setUp
  rw [List.length_map]
  have := List.length_filter_le (fun i : Nat => decide ((i : Int) ∈ x.2)) (List.range m)
  rwa [List.length_range] at this
theorem setUp_up (x : AT) (m : Nat) : (setUp x m).Pairwise (· < ·) := by
  unfold setUp
  rw [List.pairwise_map]
  exact List.Pairwise.imp (fun {a b} h => by omega) (List.Pairwise.filter _ List.pairwise_lt_range)
theorem setOf_eq {n : Nat} {x : AT} (h : AtOk n x) {ns : List Int} (up : ns.Pairwise (· < ·)) (hm : ∀ k, k ∈ ns ↔ k ∈ x.2) : ns = setOf n x := by
  have u2 := setUp_up x n
  refine List.Perm.eq_of_pairwise (le := (· < ·)) (fun a b _ _ h1 h2 => absurd h1 (by omega)) up u2 ?_
  refine (List.perm_ext_iff_of_nodup (up.imp fun {a b} h => by omega) (u2.imp fun {a b} h => by omega)).mpr fun k => ?_
  rw [hm, setUp_mem]
  constructor
  · intro hk
    have := h.2.2 k hk
    exact ⟨this.1, this.2, hk⟩
  · intro hk
    exact hk.2.2
theorem setOf_ne {n : Nat} {x : AT} (h : AtOk n x) : setOf n x ≠ [] := fun e => by
  obtain ⟨k, hk⟩ : ∃ k, k ∈ x.2 := by
    cases hx : x.2 with
    | nil => have := h.1; rw [hx] at this; simp at this
    | cons a l => exact ⟨a, List.mem_cons_self⟩
  have hb := h.2.2 k hk
  have : k ∈ setOf n x := setUp_mem.mpr ⟨hb.1, hb.2, hk⟩
  rw [e] at this
  cases this
theorem allK_ne {n : Nat} {xs : List AT} (h : ∀ x ∈ xs, AtOk n x) {r : List Int} (hr : r ∈ allK n xs) : r ≠ [] := by
  rcases List.mem_append.mp hr with hr | hr
  · obtain ⟨s, _, rfl⟩ := List.mem_map.mp hr
    simp
  · obtain ⟨x, hx, rfl⟩ := List.mem_map.mp hr
    exact setOf_ne (h x hx)
theorem allK_len {n : Nat} (hn : n ≤ 4) {xs : List AT} {r : List Int} (hr : r ∈ allK n xs) : r.length ≤ 4 := by
  rcases List.mem_append.mp hr with hr | hr
  · obtain ⟨s, _, rfl⟩ := List.mem_map.mp hr
    show 1 ≤ 4
    decide
  · obtain ⟨x, _, rfl⟩ := List.mem_map.mp hr
    exact Nat.le_trans (setUp_len x n) hn
theorem setUp_yes {x : AT} {m : Nat} (h : (m : Int) ∈ x.2) : setUp x (m + 1) = setUp x m ++ [(m : Int)] := by
  unfold setUp
  rw [List.range_succ, List.filter_append, List.map_append]
  simp [h]
theorem setUp_no {x : AT} {m : Nat} (h : (m : Int) ∉ x.2) : setUp x (m + 1) = setUp x m := by
  unfold setUp
  rw [List.range_succ, List.filter_append, List.map_append]
  simp [h]
def RowsK (K : PySem.W.Frag) (H : Hp) (p : Addr) (n : Nat) (xs : List AT) : Prop := ∃ ks : List KR, SqT K H p (refsV ks) ∧ TupsAt K H ks ∧ (ks.map (·.2)).Pairwise (· ≤ ·) ∧ (ks.map (·.2)).Nodup ∧ ks.length ≤ 63 ∧ ∀ r, r ∈ ks.map (·.2) ↔ r ∈ allK n xs
theorem RowsK.tups {H H' : Hp} {p : Addr} {n : Nat} {xs : List AT} (e : Tups H H') (h : RowsK K H p n xs) : RowsK K H' p n xs := by
  obtain ⟨ks, h1, h2, h3⟩ := h
  exact ⟨ks, e _ _ _ h1, h2.tups e, h3⟩
theorem base_take (m : Nat) : baseRows (m + 1) = baseRows m ++ [[(m : Int)]] := by
  unfold baseRows
  rw [List.range_succ, List.map_append]
  rfl
def sp__law_due (K : PySem.W.Frag) : Sp := fun vs H Q _ => ∃ (kp : Addr) (n : Nat) (qs : List AP), vs = [.ref kp] ∧ KindAt K H kp n qs ∧ KindOk n qs ∧ ∀ (p : Addr) (H' : Hp), Same H H' → RowsK K H' p n (qs.map (·.2)) → Q (.ref p) H'
set_option maxHeartbeats 4000000 in
theorem ok__law_due (F : Fun K "_law_due" "_law_due" s__law_due f fd) (m_tuple : mg "tuple" = none) (m_sorted : mg "sorted" = none) (m_range : mg "range" = none) (m_len : mg "len" = none) : FnOk P w K mg base CX0 1 f fd ["kind"] (sp__law_due K) := by
  refine F.ok sc__law_due (fun vs H Q E h => ?_) (fun cdv A outer s H vs Q E hr h => ?_)
  · obtain ⟨kp, n, qs, rfl, _⟩ := h
    rfl
  obtain ⟨kp, n, qs, rfl, ⟨sa, at_, ss, hk1, hk2, hk3, hk4, hk5⟩, hok, q⟩ := h
  have hn := hok.hi
  have h30 := hok.few
  refine ⟨_, (pss_cons (ps_setLc (i := 3) (own := [("slot", 4)]) rfl sc__law_due.nd rfl rfl (sw_true rfl rfl rfl (by decide +kernel)) (pi_range1 (by rfl) m_range (pa_cons (pe_callB call_len_seq (by rfl) m_len (by decide +kernel) (pa_cons (pe_ix ix_tup (pv 0) pe_int (fun _ _ => rfl)) pa_nil)) pa_nil)) (blkOk_by (N := ["kind", "one", "row", "sets", "slot"]) (sc := defScope s__law_due) (by decide +kernel)) (fun _ _ _ _ _ => (pg_name (i := 4) sc__law_due.nd rfl (.inl rfl))) (fun _ _ _ _ _ => pts_nil) (fun _ _ _ _ _ => (pe_tup (pa_cons (pv 4) pa_nil))))
  (pss_cons (ps_for PassesOwn.never rfl (pi_tup (pe_ix ix_tup (pv 0) pe_int (fun _ _ => rfl))) (pg_name (i := 1) sc__law_due.nd rfl (.inr rfl))
  (pss_cons (ps_set (i := 2) sc__law_due.nd rfl (.inl rfl) (pe_callTy call_tuple_of (by rfl) m_tuple (by decide +kernel) (pa_cons (pe_lc (own := [("slot", 4)]) rfl sc__law_due.nd (pi_range1 (by rfl) m_range (pa_cons (pe_callB call_len_seq (by rfl) m_len (by decide +kernel) (pa_cons (pe_ix ix_tup (pv 0) pe_int (fun _ _ => rfl)) pa_nil)) pa_nil)) (blkOk_by (N := ["kind", "one", "row", "sets", "slot"]) (sc := defScope s__law_due) (by decide +kernel)) (fun _ _ _ _ _ => (pg_name (i := 4) sc__law_due.nd rfl (.inl rfl))) (fun _ _ _ _ _ => (pts_one (pt_cmpR (op_in_seqK K rfl) (pv 4) (pe_ix (ix_tupK K rfl) (pv 1) pe_int (fun _ _ => rfl)) (by rfl)))) (fun _ _ _ _ _ => (pv 4))) pa_nil)))
  (pss_one (ps_if (pt_cmpR (op_notInD hr.units65) (pv 2) (pv 3) (by rfl))
  (pss_one (ps_expr (pe_bm PySem.F.plainAttrs_list PySem.F.slot_list_append PySem.F.type_list_append mt_append (pv 3) (pa_cons (pv 2) pa_nil)))) pss_nil))))
  (pss_one (ps_ret (pe_callTy call_tuple_of (by rfl) m_tuple (by decide +kernel) (pa_cons (pe_callB (cr_sortedD hr.units) (by rfl) m_sorted (by decide +kernel) (pa_cons (pv 3) pa_nil)) pa_nil)))))), ?_⟩
  refine ⟨_, rfl, kp, _, 0, _, rfl, rfl, hk1, rfl, sa, _, rfl, .inr hk2, _, rfl, by omega, by rw [List.length_map]; omega, fun D nD => ?_⟩
  have tn : (((ss.map V.int).length : Nat) : Int).toNat = n := by rw [List.length_map, hk3]; omega
  rw [tn]
  refine lc_range (fun m H' => ∃ ks : List KR, H' D = some (.lst (refsV ks)) ∧ ks.map (·.2) = baseRows m ∧ TupsAt K H' ks ∧ Same H H')
    ⟨[], upd_same, rfl, (fun p hp => nomatch hp), same_new nD⟩ ?_ ?_
  · rintro m H1 hm ⟨ks, c1, c2, c3, c4⟩
    refine ⟨rfl, yes_ ?_⟩
    refine ⟨_, rfl, show 1 ≤ sizeLine by decide, fun u nu => ?_⟩
    have e0 : (0 : Int) + (m : Nat) = (m : Nat) := by omega
    rw [e0]
    have su : Same H1 (upd H1 u (.tup [.int (m : Nat)])) := same_new nu
    have eu := su _ _ c1
    have lk : ks.length ≤ 4 := by
      have z := congrArg List.length c2
      unfold baseRows at z
      rw [List.length_map, List.length_map, List.length_range] at z
      omega
    refine ⟨_, eu, small1000 (by rw [refsV_len]; omega), ks ++ [(u, [(m : Int)])], by rw [upd_same, refsV_snoc], by rw [List.map_append, c2, base_take]; rfl, ?_, Same.over nD (c4.trans su)⟩
    have tt := Tups.lst (o := .lst (refsV ks ++ [.ref u])) eu
    exact TupsAt.app ((c3.tups (Tups.same su)).tups tt) (TupsAt.one (tt _ _ _ (.inl (.inl upd_same))))
  rintro H1 ⟨ks, c1, c2, c3, c4⟩
  have lb : ks.length ≤ 4 := by
    have z := congrArg List.length c2
    unfold baseRows at z
    rw [List.length_map, List.length_map, List.length_range] at z
    omega
  refine ⟨_, rfl, kp, _, 1, _, rfl, rfl, c4.seqT hk1, rfl, at_, rfl, ⟨_, c4.seqT hk4⟩, ?_⟩
  refine for_tup (xs := apV qs) (fun i σ H' => (∃ a1 a2 a4 : Option V, σ = [some (.ref kp), a1, a2, some (.ref D), a4]) ∧ Same H H' ∧
      ∃ ks : List KR, H' D = some (.lst (refsV ks)) ∧ (ks.map (·.2)).Nodup ∧ (∀ r, r ∈ ks.map (·.2) ↔ r ∈ allK n ((qs.take i).map (·.2))) ∧ TupsAt K H' ks ∧ ks.length ≤ 4 + i)
    ⟨⟨_, _, _, rfl⟩, c4, ks, c1, by rw [c2]; exact base_nodup n, fun r => by rw [c2]; simp [allK], c3, by omega⟩ (fun i σ H' _ h => h.2.1.seqT hk4) ?_ ?_
  · rintro i v σ H2 hv ⟨⟨a1, a2, a4, rfl⟩, sm, ls, f1, f2, f3, f4, f5⟩
    obtain ⟨q0, hq0, rfl⟩ := apV_get hv
    have hok0 := hok.ok q0 (List.mem_of_getElem? hq0)
    have hi : i < qs.length := (List.getElem?_eq_some_iff.mp hq0).1
    obtain ⟨b, z1, z2⟩ := (hk5 q0 (List.mem_of_getElem? hq0)).tups (Tups.same sm)
    have etake : ∀ r, r ∈ allK n ((qs.take (i + 1)).map (·.2)) ↔ r ∈ allK n ((qs.take i).map (·.2)) ∨ r = setOf n q0.2 := fun r => by
      unfold allK
      rw [List.take_add_one, hq0, List.map_append, List.map_append, ← List.append_assoc, List.mem_append]
      simp
    -- row
    refine ⟨_, rfl, kp, _, 0, _, rfl, rfl, sm.seqT hk1, rfl, sa, _, rfl, .inr (sm.seqT hk2), _, rfl, by omega, by rw [List.length_map]; omega, fun E nE => ?_⟩
    rw [tn]
    refine lc_range (fun m H' => H' E = some (.lst ((setUp q0.2 m).map V.int)) ∧ Same H2 H') ⟨upd_same, same_new nE⟩ ?_ ?_
    · rintro m H3 hm ⟨d1, d2⟩
      have e0 : (0 : Int) + (m : Nat) = (m : Nat) := by omega
      rw [e0]
      refine ⟨rfl, _, rfl, _, rfl, q0.1, _, 1, _, rfl, rfl, d2.seqT z1, rfl, b, _, rfl, .inr (d2.seqT z2), rfl, flat_ints _, _, rfl, ?_⟩
      rw [inV_ints]
      have hl := setUp_len q0.2 m
      refine ite2 (fun e => ?_) (fun e => ?_)
      · have e1 : (m : Int) ∈ q0.2.2 := List.contains_iff_mem.mp e
        refine ⟨_, rfl, _, d1, small1000 (by rw [List.length_map]; omega), ?_, Same.over nE d2⟩
        rw [upd_same, setUp_yes e1, List.map_append]
        rfl
      · have e1 : (m : Int) ∉ q0.2.2 := fun z => e (List.contains_iff_mem.mpr z)
        refine ⟨?_, d2⟩
        rw [d1, setUp_no e1]
    rintro H3 ⟨d1, d2⟩
    have er : setUp q0.2 n = setOf n q0.2 := rfl
    rw [er] at d1
    refine ⟨E, _, rfl, .inl ⟨SqL.of d1, fun u nu => ?_⟩⟩
    have s3 := d2.trans (same_new (o := .tup ((setOf n q0.2).map V.int)) nu)
    have f1' := s3 _ _ f1
    have f4' := f4.tups (Tups.same s3)
    have qu : SqT K (upd H3 u (.tup ((setOf n q0.2).map V.int))) u ((setOf n q0.2).map V.int) := .inl (.inl upd_same)
    generalize upd H3 u (.tup ((setOf n q0.2).map V.int)) = H4 at s3 f1' f4' qu
    have hdl : Dp K H4 (.ref D) (.list ((ls.map (·.2)).map rowD)) := .lst (SqL.of f1') (rows_dp f4')
    refine ⟨_, rfl, _, rfl, rowD (setOf n q0.2), _, .tup qu (tupD_dpAll _), hdl, shaped_row _, shaped_rows _, _, rfl, ?_⟩
    rw [XT.any_rows]
    refine ite2 (fun e => ?_) (fun e => ?_)
    · have e1 : setOf n q0.2 ∉ ls.map (·.2) := fun z => by
        have z2 : (!(ls.map (·.2)).contains (setOf n q0.2)) = true := e
        rw [List.contains_iff_mem.mpr z] at z2
        cases z2
      refine ⟨_, rfl, .inl ⟨rfl, _, SqL.of f1'⟩, _, rfl, D, _, _, rfl, rfl, f1', small1000 (by rw [refsV_len]; omega), ?_⟩
      have tt := Tups.lst (o := .lst (refsV ls ++ [.ref u])) f1'
      refine ⟨⟨_, _, _, rfl⟩, Same.over nD (sm.trans s3), ls ++ [(u, setOf n q0.2)], by rw [upd_same, refsV_snoc], ?_, fun r => ?_, TupsAt.app (f4'.tups tt) (TupsAt.one (tt _ _ _ qu)), by rw [List.length_append]; show ls.length + 1 ≤ _; omega⟩
      · rw [List.map_append]
        unfold List.Nodup
        rw [List.pairwise_append]
        exact ⟨f2, List.pairwise_singleton _ _, fun a ha b hb e => e1 (by rw [← show b = setOf n q0.2 from List.mem_singleton.mp hb, ← e]; exact ha)⟩
      · rw [etake, ← f3, List.map_append, List.mem_append]
        simp
    · have e1 : setOf n q0.2 ∈ ls.map (·.2) := by
        refine Classical.byContradiction fun z => e ?_
        show (!(ls.map (·.2)).contains (setOf n q0.2)) = true
        rw [Bool.not_eq_true']
        exact Bool.eq_false_iff.mpr fun y => z (List.contains_iff_mem.mp y)
      refine ⟨⟨_, _, _, rfl⟩, sm.trans s3, ls, f1', f2, fun r => ?_, f4', by omega⟩
      rw [etake, ← f3]
      constructor
      · exact .inl
      · rintro (h | h)
        · exact h
        · rw [h]; exact e1
  · rintro σ H2 ⟨⟨a1, a2, a4, rfl⟩, sm, ls, f1, f2, f3, f4, f5⟩
    rw [apV_len] at f3 f5
    rw [List.take_length] at f3
    have hne : ∀ k ∈ ls, k.2 ≠ [] := fun k hk => allK_ne (xs := qs.map (·.2)) (fun x hx => by
      obtain ⟨q1, hq1, rfl⟩ := List.mem_map.mp hx
      exact hok.ok q1 hq1) ((f3 _).mp (List.mem_map.mpr ⟨k, hk, rfl⟩))
    have eL : (ls.map tupD).map (·.1) = refsV ls := by
      rw [List.map_map]
      rfl
    refine ⟨_, rfl, D, ls.map tupD, rfl, by rw [eL]; exact SqL.of f1, fun b hb => ?_, tupD_alike ls, tupD_sortable hne, fun b hb => ?_, fun p np => ?_⟩
    · obtain ⟨k, hk, rfl⟩ := List.mem_map.mp hb
      exact tupD_dp (f4 k hk)
    · obtain ⟨k, hk, rfl⟩ := List.mem_map.mp hb
      exact tupD_depth k
    · obtain ⟨M, pm, up, em⟩ := sorted_rows ls
      rw [em]
      have eM : (M.map tupD).map (·.1) = refsV M := by
        rw [List.map_map]
        rfl
      rw [eM]
      refine ⟨p, _, rfl, .inl ⟨SqL.of upd_same, fun u nu => ?_⟩⟩
      have tt := (Tups.new (o := .lst (refsV M)) np).trans (Tups.new (o := .tup (refsV M)) nu)
      exact q u _ ((sm.trans (same_new np)).trans (same_new nu)) ⟨M, .inl (.inl upd_same), fun k hk => tt _ _ _ (f4 k (pm.mem_iff.mp hk)), List.pairwise_map.mpr up, (pm.map (·.2)).nodup_iff.mpr f2, by rw [pm.length_eq]; omega, fun r => by rw [(pm.map (·.2)).mem_iff, f3]⟩

def sp_guarded_slots (K : PySem.W.Frag) : Sp := sp__law_due K
set_option maxHeartbeats 4000000 in
theorem ok_guarded_slots (F : Fun K "guarded_slots" "guarded_slots" s_guarded_slots f fd) (m_tuple : mg "tuple" = none) (m_sorted : mg "sorted" = none) (m_range : mg "range" = none) (m_set : mg "set" = none) (m_len : mg "len" = none) : FnOk P w K mg base CX0 1 f fd ["kind"] (sp_guarded_slots K) := by
  refine F.ok sc_guarded_slots (fun vs H Q E h => ?_) (fun cdv A outer s H vs Q E hr h => ?_)
  · obtain ⟨kp, n, qs, rfl, _⟩ := h
    rfl
  obtain ⟨kp, n, qs, rfl, ⟨sa, at_, ss, hk1, hk2, hk3, hk4, hk5⟩, hok, q⟩ := h
  have hn := hok.hi
  have h30 := hok.few
  refine ⟨_, (pss_cons (ps_setLc (i := 1) (own := [("slot", 2)]) rfl sc_guarded_slots.nd rfl rfl (sw_true rfl rfl rfl (by decide +kernel)) (pi_range1 (by rfl) m_range (pa_cons (pe_callB call_len_seq (by rfl) m_len (by decide +kernel) (pa_cons (pe_ix ix_tup (pv 0) pe_int (fun _ _ => rfl)) pa_nil)) pa_nil)) (blkOk_by (N := ["kind", "found", "slot", "_", "slots"]) (sc := defScope s_guarded_slots) (by decide +kernel)) (fun _ _ _ _ _ => (pg_name (i := 2) sc_guarded_slots.nd rfl (.inl rfl))) (fun _ _ _ _ _ => pts_nil) (fun _ _ _ _ _ => (pe_tup (pa_cons (pv 2) pa_nil))))
  (pss_cons (ps_expr (pe_bm PySem.F.plainAttrs_list PySem.F.slot_list_extend PySem.F.type_list_extend mt_extend (pv 1) (pa_cons (pe_lc (own := [("_", 3), ("slots", 4)]) rfl sc_guarded_slots.nd (pi_tup (pe_ix ix_tup (pv 0) pe_int (fun _ _ => rfl))) (blkOk_by (N := ["kind", "found", "slot", "_", "slots"]) (sc := defScope s_guarded_slots) (by decide +kernel)) (fun _ _ _ _ _ => (pg_tupK K rfl 2 rfl (pgs_cons (pg_name (i := 3) sc_guarded_slots.nd rfl (.inl rfl)) (pgs_cons (pg_name (i := 4) sc_guarded_slots.nd rfl (.inl rfl)) pgs_nil)))) (fun _ _ _ _ _ => pts_nil) (fun _ _ _ _ _ => (pe_callTy (call_tuple_ofK K rfl) (by rfl) m_tuple (by decide +kernel) (pa_cons (pe_callB (cr_sortedSetK w rfl K rfl rfl) (by rfl) m_sorted (by decide +kernel) (pa_cons (pe_callTy (cr_setITK w rfl K rfl rfl) (by rfl) m_set (by decide +kernel) (pa_cons (pv 4) pa_nil)) pa_nil)) pa_nil)))) pa_nil)))
  (pss_one (ps_ret (pe_callTy call_tuple_of (by rfl) m_tuple (by decide +kernel) (pa_cons (pe_callB (cr_sortedTD rfl hr.units) (by rfl) m_sorted (by decide +kernel) (pa_cons (pe_callTy (cr_setOfTN rfl hr.units) (by rfl) m_set (by decide +kernel) (pa_cons (pv 1) pa_nil)) pa_nil)) pa_nil)))))), ?_⟩
  refine ⟨_, rfl, kp, _, 0, _, rfl, rfl, hk1, rfl, sa, _, rfl, .inr hk2, _, rfl, by omega, by rw [List.length_map]; omega, fun D nD => ?_⟩
  have tn : (((ss.map V.int).length : Nat) : Int).toNat = n := by rw [List.length_map, hk3]; omega
  rw [tn]
  refine lc_range (fun m H' => ∃ ks : List KR, H' D = some (.lst (refsV ks)) ∧ ks.map (·.2) = baseRows m ∧ TupsAt K H' ks ∧ Same H H')
    ⟨[], upd_same, rfl, (fun p hp => nomatch hp), same_new nD⟩ ?_ ?_
  · rintro m H1 hm ⟨ks, c1, c2, c3, c4⟩
    refine ⟨rfl, yes_ ?_⟩
    refine ⟨_, rfl, show 1 ≤ sizeLine by decide, fun u nu => ?_⟩
    have e0 : (0 : Int) + (m : Nat) = (m : Nat) := by omega
    rw [e0]
    have su : Same H1 (upd H1 u (.tup [.int (m : Nat)])) := same_new nu
    have eu := su _ _ c1
    have lk : ks.length ≤ 4 := by
      have z := congrArg List.length c2
      unfold baseRows at z
      rw [List.length_map, List.length_map, List.length_range] at z
      omega
    refine ⟨_, eu, small1000 (by rw [refsV_len]; omega), ks ++ [(u, [(m : Int)])], by rw [upd_same, refsV_snoc], by rw [List.map_append, c2, base_take]; rfl, ?_, Same.over nD (c4.trans su)⟩
    have tt := Tups.lst (o := .lst (refsV ks ++ [.ref u])) eu
    exact TupsAt.app ((c3.tups (Tups.same su)).tups tt) (TupsAt.one (tt _ _ _ (.inl (.inl upd_same))))
  rintro H1 ⟨ks, c1, c2, c3, c4⟩
  have lb : ks.length ≤ 4 := by
    have z := congrArg List.length c2
    unfold baseRows at z
    rw [List.length_map, List.length_map, List.length_range] at z
    omega
  refine ⟨_, rfl, .inl ⟨rfl, _, SqL.of c1⟩, ?_⟩
  refine ⟨_, rfl, kp, _, 1, _, rfl, rfl, c4.seqT hk1, rfl, at_, rfl, ⟨_, c4.seqT hk4⟩, fun E nE => ?_⟩
  refine lc_it (walk_tup (xs := apV qs)) (fun i H' => ∃ ls : List KR, H' E = some (.lst (refsV ls)) ∧ ls.map (·.2) = ((qs.take i).map (·.2)).map (setOf n) ∧ TupsAt K H' ls ∧ Same H1 H')
    ⟨[], upd_same, rfl, (fun p hp => nomatch hp), same_new nE⟩ (fun i H' _ ⟨_, _, _, _, z⟩ => (c4.trans z).seqT hk4) ?_ ?_
  · rintro i v _ H2 hi ⟨ls, d1, d2, d3, d4⟩ ⟨rfl, hx⟩
    obtain ⟨q0, hq0, rfl⟩ := apV_get hx
    have hok0 := hok.ok q0 (List.mem_of_getElem? hq0)
    obtain ⟨b, z1, z2⟩ := (hk5 q0 (List.mem_of_getElem? hq0)).tups (Tups.same (c4.trans d4))
    have lls : ls.length ≤ 30 := by
      have z := congrArg List.length d2
      rw [List.length_map, List.length_map, List.length_map, List.length_take] at z
      omega
    refine ⟨q0.1, _, rfl, z1, rfl, .int q0.2.1, [.ref b], rfl, .ref b, [], rfl, rfl, rfl, yes_ ?_⟩
    have h4 := hok0.2.1
    refine ⟨_, rfl, b, q0.2.2, rfl, z2, by omega, fun a m na hm => ?_⟩
    have na' : H2 a = none := na
    have s1 : Same H2 (upd H2 a (SetO w a (fun j => decide (j ∈ q0.2.2)) m)) := same_new na'
    refine ⟨a, fun j => decide (j ∈ q0.2.2), m, rfl, upd_same, by omega, fun ns p pw hmem hlen np => ?_⟩
    have np' : (upd H2 a (SetO w a (fun j => decide (j ∈ q0.2.2)) m)) p = none := np
    have s2 := s1.trans (same_new (o := .lst (ns.map V.int)) np')
    have e1 : ns = setOf n q0.2 := setOf_eq hok0 pw fun k => by rw [hmem k]; exact decide_eq_true_iff
    refine ⟨p, _, rfl, .inl ⟨SqL.of upd_same, fun u nu => ?_⟩⟩
    have nu' : (upd (upd H2 a (SetO w a (fun j => decide (j ∈ q0.2.2)) m)) p (.lst (ns.map V.int))) u = none := nu
    have s3 := s2.trans (same_new (o := .tup (ns.map V.int)) nu')
    have eE := s3 _ _ d1
    refine ⟨_, eE, small1000 (by rw [refsV_len]; omega), ls ++ [(u, setOf n q0.2)], by rw [upd_same, refsV_snoc], ?_, ?_, Same.over nE (d4.trans s3)⟩
    · rw [List.map_append, d2, List.take_add_one, hq0, List.map_append, List.map_append]
      rfl
    · have tt := Tups.lst (o := .lst (refsV ls ++ [.ref u])) eE
      refine TupsAt.app ((d3.tups (Tups.same s3)).tups tt) (TupsAt.one ?_)
      rw [← e1]
      exact tt _ _ _ (.inl (.inl upd_same))
  rintro H2 ⟨ls, d1, d2, d3, d4⟩
  rw [apV_len, List.take_length] at d2
  have lls : ls.length ≤ 30 := by
    have z := congrArg List.length d2
    rw [List.length_map, List.length_map, List.length_map] at z
    omega
  have e2 := d4 _ _ c1
  refine ⟨D, E, _, _, rfl, rfl, e2, d1, fits (by rw [refsV_len, refsV_len]; omega), ?_⟩
  have tt := Tups.lst (o := .lst (refsV ks ++ refsV ls)) e2
  have ts : TupsAt K (upd H2 D (.lst (refsV ks ++ refsV ls))) (ks ++ ls) := TupsAt.app ((c3.tups (Tups.same d4)).tups tt) (d3.tups tt)
  have sm : Same H (upd H2 D (.lst (refsV ks ++ refsV ls))) := Same.over nD (c4.trans d4)
  have eD : (upd H2 D (.lst (refsV ks ++ refsV ls))) D = some (.lst (refsV (ks ++ ls))) := by rw [upd_same, refsV_app]
  have em : (ks ++ ls).map (·.2) = allK n (qs.map (·.2)) := by
    unfold allK
    rw [List.map_append, c2, d2]
  have ll : (ks ++ ls).length ≤ 40 := by
    rw [List.length_append]
    omega
  generalize upd H2 D (.lst (refsV ks ++ refsV ls)) = H3 at ts sm eD
  generalize ks ++ ls = all at ts eD em ll
  have hmem : ∀ k ∈ all, k.2 ∈ allK n (qs.map (·.2)) := fun k hk => by
    rw [← em]
    exact List.mem_map.mpr ⟨k, hk, rfl⟩
  have hokx : ∀ x ∈ qs.map (·.2), AtOk n x := fun x hx => by
    obtain ⟨q1, hq1, rfl⟩ := List.mem_map.mp hx
    exact hok.ok q1 hq1
  refine ⟨_, rfl, D, all, rfl, SqL.of eD, ts, fun M nd hs => ?_, fun a M na hs hall => ?_⟩
  · have z := nodup_sub_len (m := all.map (·.2)) nd fun r hr => by
      obtain ⟨k, hk, rfl⟩ := List.mem_map.mp hr
      exact List.mem_map.mpr ⟨k, hs k hk, rfl⟩
    rw [List.length_map, List.length_map] at z
    omega
  · have na' : H3 a = none := na
    have tn2 := Tups.new (o := SetTO P w a M) na'
    refine ⟨a, M, rfl, upd_same, fun p hp => tn2 _ _ _ (ts p (hs p hp)), fun p hp => allK_ne hokx (hmem p (hs p hp)), fun M' p pm up nd h64 np => ?_⟩
    refine ⟨p, _, rfl, .inl ⟨SqL.of upd_same, fun u nu => ?_⟩⟩
    have np' : (upd H3 a (SetTO P w a M)) p = none := np
    have nu' : (upd (upd H3 a (SetTO P w a M)) p (.lst (refsV M'))) u = none := nu
    have tt := (tn2.trans (Tups.new (o := .lst (refsV M')) np')).trans (Tups.new (o := .tup (refsV M')) nu')
    have sss := ((sm.trans (same_new (o := SetTO P w a M) na')).trans (same_new (o := .lst (refsV M')) np')).trans (same_new (o := .tup (refsV M')) nu')
    refine q u (upd (upd (upd H3 a (SetTO P w a M)) p (.lst (refsV M'))) u (.tup (refsV M'))) sss ⟨M', .inl (.inl upd_same), fun k hk => tt _ _ _ (ts k (hs k (pm.mem_iff.mp hk))), List.pairwise_map.mpr up, nd, by omega, fun r => ?_⟩
    rw [← em, (pm.map (·.2)).mem_iff]
    constructor
    · intro hr
      obtain ⟨k, hk, rfl⟩ := List.mem_map.mp hr
      exact List.mem_map.mpr ⟨k, hs k hk, rfl⟩
    · intro hr
      obtain ⟨k, hk, rfl⟩ := List.mem_map.mp hr
      exact hall k hk

theorem shapedAll_rows (l : List (List Int)) : PyData.canLayAll0 (l.map rowD) = true := canLay_rows l
def sp_is_guarded (K : PySem.W.Frag) : Sp := fun vs H Q _ => ∃ (kp : Addr) (n : Nat) (qs : List AP), vs = [.ref kp] ∧ KindAt K H kp n qs ∧ KindOk n qs ∧ ∀ (H' : Hp), Same H H' → Q (.bl (decide (rangeI n ∈ allK n (qs.map (·.2))))) H'
theorem contains_eq {ls : List (List Int)} {n : Nat} {xs : List AT} (h : ∀ r, r ∈ ls ↔ r ∈ allK n xs) (r : List Int) : ls.contains r = decide (r ∈ allK n xs) := by
  by_cases e : r ∈ allK n xs
  · rw [decide_eq_true e, List.contains_iff_mem]
    exact (h r).mpr e
  · rw [decide_eq_false e]
    exact Bool.eq_false_iff.mpr fun z => e ((h r).mp (List.contains_iff_mem.mp z))
set_option maxHeartbeats 1000000 in
theorem ok_is_guarded (F : Fun K "is_guarded" "is_guarded" s_is_guarded f fd) (C_guarded_slots : Cal P w K mg base 1 "guarded_slots" s_guarded_slots ["kind"] (sp_guarded_slots K)) (m_tuple : mg "tuple" = none) (m_range : mg "range" = none) (m_len : mg "len" = none) : FnOk P w K mg base CX0 2 f fd ["kind"] (sp_is_guarded K) := by
  refine F.ok sc_is_guarded (fun vs H Q E h => ?_) (fun cdv A outer s H vs Q E hr h => ?_)
  · obtain ⟨kp, n, qs, rfl, _⟩ := h
    rfl
  obtain ⟨kp, n, qs, rfl, hk, hok, q⟩ := h
  have hk0 := hk
  obtain ⟨sa, at_, ss, hk1, hk2, hk3, hk4, hk5⟩ := hk
  have hn := hok.hi
  refine ⟨_, (pss_one (ps_ret (pe_cmpR (op_inTD hr.units65) (pe_tupRg rfl (by rfl) m_tuple (prg_1 (by rfl) m_range (pe_callB call_len_seq (by rfl) m_len (by decide +kernel) (pa_cons (pe_ix ix_tup (pv 0) pe_int (fun _ _ => rfl)) pa_nil)))) (pe_cal C_guarded_slots hr (by first | decide | exact Nat.le_refl _) (by rfl) (pa_cons (pv 0) pa_nil)) (by rfl)))), ?_⟩
  refine ⟨_, rfl, kp, _, 0, _, rfl, rfl, hk1, rfl, sa, _, rfl, .inr hk2, _, rfl, RgOk.of_le (by omega) (by rw [List.length_map]; omega) (by omega) (by omega), fun u nu => ?_⟩
  rw [show ((ss.map V.int).length : Int) = (n : Int) by rw [List.length_map, hk3], rgV_range]
  have su := same_new (o := .tup ((rangeI n).map V.int)) nu
  have qu : SqT K (upd H u (.tup ((rangeI n).map V.int))) u ((rangeI n).map V.int) := .inl (.inl upd_same)
  generalize upd H u (.tup ((rangeI n).map V.int)) = H1 at su qu
  refine ⟨_, rfl, kp, n, qs, rfl, hk0.tups (Tups.same su), hok, fun p H2 s2 hrows => ?_⟩
  obtain ⟨ks, r1, r2, r3, r4, r5, r6⟩ := hrows
  have dpr : Dp K H2 (.ref p) (.tuple ((ks.map (·.2)).map rowD)) := .tup r1 (rows_dp r2)
  refine ⟨rowD (rangeI n), _, .tup (s2.seqT qu) (tupD_dpAll _), dpr, shaped_row _, canLay_rows _, ?_⟩
  show Q (.bl (((ks.map (·.2)).map rowD).any fun z => PyData.eqv z (rowD (rangeI n)))) H2
  rw [XT.any_rows, contains_eq r6]
  exact q H2 (su.trans s2)
theorem rowsK_data {H1 H2 : Hp} {p1 p2 : Addr} {n : Nat} {xs : List AT} (hn : n ≤ 4) (h1 : RowsK K H1 p1 n xs) (h2 : RowsK K H2 p2 n xs) : ∃ d, Dp K H1 (.ref p1) d ∧ Dp K H2 (.ref p2) d ∧ okD 8 d := by
  obtain ⟨ls, a1, a2, a3, a4, a5, a6⟩ := h1
  obtain ⟨ms, b1, b2, b3, b4, b5, b6⟩ := h2
  have e : ls.map (·.2) = ms.map (·.2) := by
    refine List.Perm.eq_of_pairwise (le := (· ≤ ·)) (fun a b _ _ h1 h2 => List.le_antisymm h1 h2) a3 b3 ?_
    exact (List.perm_ext_iff_of_nodup a4 b4).mpr fun r => by rw [a6, b6]
  refine ⟨.tuple ((ls.map (·.2)).map rowD), .tup a1 (rows_dp a2), ?_, ?_, fun d hd => ?_⟩
  · rw [e]
    exact .tup b1 (rows_dp b2)
  · rw [List.length_map, List.length_map]
    omega
  · obtain ⟨r, hr, rfl⟩ := List.mem_map.mp hd
    have hl := allK_len hn ((a6 r).mp hr)
    refine ⟨by rw [List.length_map]; omega, fun d hd => ?_⟩
    obtain ⟨x, _, rfl⟩ := List.mem_map.mp hd
    trivial
def sp__law_is_told (K : PySem.W.Frag) : Sp := fun vs H Q _ => ∃ (kp : Addr) (n : Nat) (qs : List AP), vs = [.ref kp] ∧ KindAt K H kp n qs ∧ KindOk n qs ∧ ∀ (H' : Hp), Same H H' → Q (.bl true) H'
set_option maxHeartbeats 1000000 in
theorem ok__law_is_told (F : Fun K "_law_is_told" "_law_is_told" s__law_is_told f fd) (C__law_due : Cal P w K mg base 1 "_law_due" s__law_due ["kind"] (sp__law_due K)) (C__law_same : Cal P w K mg base 8 "_law_same" s__law_same ["actual", "due"] (sp__law_same K)) (C_is_guarded : Cal P w K mg base 2 "is_guarded" s_is_guarded ["kind"] (sp_is_guarded K)) (C_guarded_slots : Cal P w K mg base 1 "guarded_slots" s_guarded_slots ["kind"] (sp_guarded_slots K)) (m_tuple : mg "tuple" = none) (m_range : mg "range" = none) (m_len : mg "len" = none) : FnOk P w K mg base CX0 9 f fd ["kind"] (sp__law_is_told K) := by
  refine F.ok sc__law_is_told (fun vs H Q E h => ?_) (fun cdv A outer s H vs Q E hr h => ?_)
  · obtain ⟨kp, n, qs, rfl, _⟩ := h
    rfl
  obtain ⟨kp, n, qs, rfl, hk, hok, q⟩ := h
  have hk0 := hk
  obtain ⟨sa, at_, ss, hk1, hk2, hk3, hk4, hk5⟩ := hk
  have hn := hok.hi
  refine ⟨_, (pss_cons (ps_set (i := 1) sc__law_is_told.nd rfl (.inl rfl) (pe_cal C__law_due hr (by first | decide | exact Nat.le_refl _) (by rfl) (pa_cons (pv 0) pa_nil)))
  (pss_cons (ps_if (pt_not (pt_val (pe_cal C__law_same hr (by first | decide | exact Nat.le_refl _) (by rfl) (pa_cons (pe_cal C_guarded_slots hr (by first | decide | exact Nat.le_refl _) (by rfl) (pa_cons (pv 0) pa_nil)) (pa_cons (pv 1) pa_nil)))))
  (pss_one (ps_ret pe_bl)) pss_nil)
  (pss_one (ps_ret (pe_cal C__law_same hr (by first | decide | exact Nat.le_refl _) (by rfl) (pa_cons (pe_cal C_is_guarded hr (by first | decide | exact Nat.le_refl _) (by rfl) (pa_cons (pv 0) pa_nil)) (pa_cons (pe_cmpR (op_inTD hr.units65) (pe_tupRg rfl (by rfl) m_tuple (prg_1 (by rfl) m_range (pe_callB call_len_seq (by rfl) m_len (by decide +kernel) (pa_cons (pe_ix ix_tup (pv 0) pe_int (fun _ _ => rfl)) pa_nil)))) (pv 1) (by rfl)) pa_nil))))))), ?_⟩
  refine ⟨_, rfl, kp, n, qs, rfl, hk0, hok, fun p1 H1 s1 r1 => ?_⟩
  refine ⟨_, rfl, kp, n, qs, rfl, hk0.tups (Tups.same s1), hok, fun p2 H2 s2 r2 => ?_⟩
  have r1' := r1.tups (Tups.same s2)
  obtain ⟨d, dd1, dd2, okd⟩ := rowsK_data hn r2 r1'
  refine ⟨_, rfl, _, _, d, rfl, dd1, dd2, okd, fun H3 s3 => ⟨_, rfl, iteF ?_⟩⟩
  have s13 := (s1.trans s2).trans s3
  refine ⟨_, rfl, kp, n, qs, rfl, hk0.tups (Tups.same s13), hok, fun H4 s4 => ?_⟩
  have s14 := s13.trans s4
  refine ⟨_, rfl, kp, _, 0, _, rfl, rfl, s14.seqT hk1, rfl, sa, _, rfl, .inr (s14.seqT hk2), _, rfl, RgOk.of_le (by omega) (by rw [List.length_map]; omega) (by omega) (by omega), fun u nu => ?_⟩
  rw [show ((ss.map V.int).length : Int) = (n : Int) by rw [List.length_map, hk3], rgV_range]
  have su := same_new (o := .tup ((rangeI n).map V.int)) nu
  have qu : SqT K (upd H4 u (.tup ((rangeI n).map V.int))) u ((rangeI n).map V.int) := .inl (.inl upd_same)
  generalize upd H4 u (.tup ((rangeI n).map V.int)) = H5 at su qu
  obtain ⟨ks, b1, b2, b3, b4, b5, b6⟩ := r1'.tups (Tups.same ((s3.trans s4).trans su))
  have dpr : Dp K H5 (.ref p1) (.tuple ((ks.map (·.2)).map rowD)) := .tup b1 (rows_dp b2)
  refine ⟨_, rfl, rowD (rangeI n), _, .tup qu (tupD_dpAll _), dpr, shaped_row _, canLay_rows _, ?_⟩
  refine ⟨_, _, .bool (decide (rangeI n ∈ allK n (qs.map (·.2)))), rfl, .bl _, ?_, trivial, fun H6 s6 => q H6 ((s14.trans su).trans s6)⟩
  show Dp K H5 (.bl (((ks.map (·.2)).map rowD).any fun z => PyData.eqv z (rowD (rangeI n)))) _
  rw [XT.any_rows, contains_eq b6]
  exact .bl _


theorem kb_guarded_slots_kind : KwB s_guarded_slots ["kind"] ["kind"] (fun {α} (l : List α) => l) where
  to := fun x qual kV doc pm an cdv ct ws hl => match ws, hl with | [_], _ => rfl
  rel := fun {zs ws} hl r => r
theorem kb_is_guarded_kind : KwB s_is_guarded ["kind"] ["kind"] (fun {α} (l : List α) => l) where
  to := fun x qual kV doc pm an cdv ct ws hl => match ws, hl with | [_], _ => rfl
  rel := fun {zs ws} hl r => r
theorem nums_int {B : Nat} {xs : List V} (h : ∀ v ∈ xs, Nums B v) : ∃ l : List Int, xs = l.map V.int := by
  obtain ⟨l, rfl, _⟩ := nums_ints h
  exact ⟨l.map fun n : Nat => (n : Int), intsV_map l⟩
/-- the slot of the kind -/
def KindIn (K : PySem.W.Frag) (H : Hp) (v : Option V) : Prop := ∃ (kp : Addr) (n : Nat) (qs : List AP), v = some (.ref kp) ∧ KindAt K H kp n qs ∧ KindOk n qs
theorem KindIn.tups {H H' : Hp} {v : Option V} (e : Tups H H') (h : KindIn K H v) : KindIn K H' v := by
  obtain ⟨kp, n, qs, h1, h2, h3⟩ := h
  exact ⟨kp, n, qs, h1, h2.tups e, h3⟩
def sp_law (K : PySem.W.Frag) : Sp := fun vs H Q _ => ∃ (a : Addr) (ns : List Int), vs = [.ref a] ∧ SqL K H a (ns.map V.int) ∧ ns.length ≤ 63 ∧ ∀ H', Q (.bl true) H'
set_option maxHeartbeats 4000000 in
theorem ok_law (F : Fun K "law" "law" s_law f fd) (C__law_start : Cal P w K mg base 2 "_law_start" s__law_start ["script"] (sp__law_start K)) (C__law_language : Cal P w K mg base 3 "_law_language" s__law_language ["state", "many"] (sp__law_language K)) (C__law_due : Cal P w K mg base 1 "_law_due" s__law_due ["kind"] (sp__law_due K)) (C__law_same : Cal P w K mg base 8 "_law_same" s__law_same ["actual", "due"] (sp__law_same K)) (C__law_take : Cal P w K mg base 2 "_law_take" s__law_take ["state", "limit"] (sp__law_take K)) (C__law_some_atoms : Cal P w K mg base 4 "_law_some_atoms" s__law_some_atoms ["state", "language", "sorts", "most"] (sp__law_some_atoms K)) (C_guarded_slots : Cal P w K mg base 1 "guarded_slots" s_guarded_slots ["kind"] (sp_guarded_slots K)) (C_is_guarded : Cal P w K mg base 2 "is_guarded" s_is_guarded ["kind"] (sp_is_guarded K)) (C__law_canonical : Cal P w K mg base 2 "_law_canonical" s__law_canonical ["sorts", "atoms"] (sp__law_canonical K)) (C__law_is_told : Cal P w K mg base 9 "_law_is_told" s__law_is_told ["kind"] (sp__law_is_told K)) (C__law_guard : Cal P w K mg base 3 "_law_guard" s__law_guard ["state", "language", "sorts"] (sp__law_guard K)) (m_range : mg "range" = none) (m_tuple : mg "tuple" = none) (m_len : mg "len" = none) : FnOk P w K mg base CX0 10 f fd ["script"] (sp_law K) := by
  refine F.ok sc_law (fun vs H Q E h => ?_) (fun cdv A outer s H vs Q E hr h => ?_)
  · obtain ⟨a, ns, rfl, _⟩ := h
    rfl
  obtain ⟨a, ns, rfl, hS, h63, q⟩ := h
  refine ⟨_, (pss_cons (ps_set (i := 8) sc_law.nd rfl (.inr rfl) (pe_cal C__law_start hr (by first | decide | exact Nat.le_refl _) (by rfl) (pa_cons (pv 0) pa_nil)))
  (pss_cons (ps_for PassesOwn.never rfl (pi_range1 (by rfl) m_range (pa_cons pe_int pa_nil)) (pg_name (i := 9) sc_law.nd rfl (.inl rfl))
  (pss_cons (ps_set (i := 6) sc_law.nd rfl (.inr rfl) (pe_cal C__law_language hr (by first | decide | exact Nat.le_refl _) (by rfl) (pa_cons (pv 8) (pa_cons (pe_cal C__law_take hr (by first | decide | exact Nat.le_refl _) (by rfl) (pa_cons (pv 8) (pa_cons pe_int pa_nil))) pa_nil))))
  (pss_one (ps_for PassesOwn.never rfl (pi_range1 (by rfl) m_range (pa_cons pe_int pa_nil)) (pg_name (i := 1) sc_law.nd rfl (.inl rfl))
  (pss_cons (ps_setLc (i := 7) (own := [("k", 10)]) rfl sc_law.nd rfl rfl (sw_true rfl rfl rfl (by decide +kernel)) (pi_range1 (by rfl) m_range (pa_cons (pe_op op_add pe_int (pe_cal C__law_take hr (by first | decide | exact Nat.le_refl _) (by rfl) (pa_cons (pv 8) (pa_cons pe_int pa_nil)))) pa_nil)) (blkOk_by (N := ["script", "again", "atoms", "guards", "is_whole", "kind", "language", "sorts", "state", "turn", "k", "one"]) (sc := defScope s_law) (by decide +kernel)) (fun _ _ _ _ _ => (pg_name (i := 10) sc_law.nd rfl (.inl rfl))) (fun _ _ _ _ _ => pts_nil) (fun _ _ _ _ _ => (pe_cal C__law_take hr (by first | decide | exact Nat.le_refl _) (by rfl) (pa_cons (pv 8) (pa_cons (pe_ix (ix_tupK K rfl) (pv 6) pe_int (fun _ _ => rfl)) pa_nil)))))
  (pss_cons (ps_set (i := 2) sc_law.nd rfl (.inr rfl) (pe_cal C__law_some_atoms hr (by first | decide | exact Nat.le_refl _) (by rfl) (pa_cons (pv 8) (pa_cons (pv 6) (pa_cons (pv 7) (pa_cons pe_int pa_nil))))))
  (pss_cons (ps_set (i := 5) sc_law.nd rfl (.inl rfl) (pe_ix ix_list (pe_cal C__law_canonical hr (by first | decide | exact Nat.le_refl _) (by rfl) (pa_cons (pv 7) (pa_cons (pv 2) pa_nil))) pe_int (fun _ _ => rfl)))
  (pss_cons (ps_if (pt_not (pt_val (pe_cal C__law_is_told hr (by first | decide | exact Nat.le_refl _) (by rfl) (pa_cons (pv 5) pa_nil))))
  (pss_one (ps_ret pe_bl)) pss_nil)
  (pss_cons (ps_setLc (i := 3) (own := [("one", 11)]) rfl sc_law.nd rfl rfl (sw_true rfl rfl rfl (by decide +kernel)) (pi_list (pe_cal C__law_guard hr (by first | decide | exact Nat.le_refl _) (by rfl) (pa_cons (pv 8) (pa_cons (pv 6) (pa_cons (pv 7) pa_nil))))) (blkOk_by (N := ["script", "again", "atoms", "guards", "is_whole", "kind", "language", "sorts", "state", "turn", "k", "one"]) (sc := defScope s_law) (by decide +kernel)) (fun _ _ _ _ _ => (pg_name (i := 11) sc_law.nd rfl (.inl rfl))) (fun _ _ _ _ _ => (pts_one (pt_cmpR (op_notInDK K rfl hr.units65) (pv 11) (pv 2) (by rfl)))) (fun _ _ _ _ _ => (pv 11)))
  (pss_one (ps_if (PW.pt (pw_and (pt_cmpR (op_neD hr.units) (pv 3) (pe_lst pa_nil) (nomark _)) (pw_and1 (pt_not (pt_val (pe_cal C__law_is_told hr (by first | decide | exact Nat.le_refl _) (by rfl) (pa_cons (pe_ix ix_list (pe_cal C__law_canonical hr (by first | decide | exact Nat.le_refl _) (by rfl) (pa_cons (pv 7) (pa_cons (pe_op op_cat (pe_ix ix_list (pe_lst (pa_cons (pe_lst pa_nil) (pa_cons (pv 2) pa_nil))) (pe_cal C__law_take hr (by first | decide | exact Nat.le_refl _) (by rfl) (pa_cons (pv 8) (pa_cons pe_int pa_nil))) (fun _ _ => rfl)) (pv 3)) pa_nil))) pe_int (fun _ _ => rfl)) pa_nil)))))))
  (pss_one (ps_ret pe_bl)) pss_nil)))))))))))
  (pss_cons (ps_set (i := 4) sc_law.nd rfl (.inl rfl) (pe_cmpR (op_inTD hr.units65) (pe_tupRg rfl (by rfl) m_tuple (prg_1 (by rfl) m_range (pe_callB call_len_seq (by rfl) m_len (by decide +kernel) (pa_cons (pe_ix ix_tup (pv 5) pe_int (fun _ _ => rfl)) pa_nil)))) (pe_cal C__law_due hr (by first | decide | exact Nat.le_refl _) (by rfl) (pa_cons (pv 5) pa_nil)) (by rfl)))
  (pss_one (ps_ret (pe_and (pe_cal C__law_same hr (by first | decide | exact Nat.le_refl _) (by rfl) (pa_cons (pe_calK C_guarded_slots hr (by first | decide | exact Nat.le_refl _) (by rfl) kb_guarded_slots_kind (pk_cons (pv 5) pk_nil)) (pa_cons (pe_cal C__law_due hr (by first | decide | exact Nat.le_refl _) (by rfl) (pa_cons (pv 5) pa_nil)) pa_nil))) (pe_one (pe_cal C__law_same hr (by first | decide | exact Nat.le_refl _) (by rfl) (pa_cons (pe_calK C_is_guarded hr (by first | decide | exact Nat.le_refl _) (by rfl) kb_is_guarded_kind (pk_cons (pv 5) pk_nil)) (pa_cons (pv 4) pa_nil)))))))))), ?_⟩
  refine ⟨_, rfl, a, ns, rfl, hS, h63, fun st c H1 sm1 nst nc s1 => ?_⟩
  have W := drw st c ns
  refine ⟨_, rfl, by decide, by decide, for_range (n := 2) (fun i σ H' => (∃ a1 a2 a3 a5 a6 a7 a9 a10 a11 : Option V, σ = [some (.ref a), a1, a2, a3, none, a5, a6, a7, some (.ref st), a9, a10, a11] ∧ (0 < i → KindIn K H' a5)) ∧ StAt st c ns H')
    ⟨⟨_, _, _, _, _, _, _, _, _, rfl, fun e => absurd e (Nat.lt_irrefl 0)⟩, s1⟩ ?_ ?_⟩
  · rintro i σ H2 hi ⟨⟨a1, a2, a3, a5, a6, a7, a9, a10, a11, rfl, hk⟩, s2⟩
    refine ⟨_, rfl, _, rfl, st, c, ns, 7, rfl, s2, by decide, by decide, fun d H3 d0 d1 k3 s3 => ?_⟩
    obtain ⟨m, rfl⟩ := Int.eq_ofNat_of_zero_le d0
    refine ⟨st, c, ns, m, rfl, s3, by omega, fun t L H4 hok hlen k4 s4 hLF => ?_⟩
    have hL := hLF.lang
    have hk4 : 0 < i → KindIn K H4 a5 := fun e => ((hk e).tups (W.tups s2 k3)).tups (W.tups s3 k4)
    clear hk k3 s3 k4 s2 hLF
    refine ⟨_, rfl, by decide, by decide, for_range (n := 3) (fun j σ H' => (∃ a1 a2 a3 a5 a7 a9 a10 a11 : Option V, σ = [some (.ref a), a1, a2, a3, none, a5, some (.ref t), a7, some (.ref st), a9, a10, a11] ∧ (0 < i ∨ 0 < j → KindIn K H' a5)) ∧ StAt st c ns H' ∧ LangAt K H' t L)
      ⟨⟨_, _, _, _, _, _, _, _, rfl, fun e => hk4 (e.resolve_right (Nat.lt_irrefl 0))⟩, s4, hL⟩ ?_ ?_⟩
    · rintro j σ H5 hj ⟨⟨a1, a2, a3, a5, a7, a9, a10, a11, rfl, hk5⟩, s5, hL5⟩
      obtain ⟨rt, rs, g1, g2⟩ := id hL5
      -- sorts
      refine ⟨_, rfl, st, c, ns, 4, rfl, s5, by decide, by decide, fun d H6 d0 d1 k6 s6 => ?_⟩
      obtain ⟨n0, rfl⟩ := Int.eq_ofNat_of_zero_le d0
      have tn : ((1 : Int) + (n0 : Nat)).toNat = 1 + n0 := by omega
      refine ⟨_, _, rfl, rfl, _, rfl, by omega, by omega, ?_⟩
      rw [tn]
      intro SO nSO
      have t6 := W.tups s5 k6
      refine lc_draw W (fun _ v => Nums L.sorts v) (fun _ _ _ _ h => h) (by omega) s6 nSO (fun _ => rfl) ?_ ?_
      · intro m' H7 hm' s7 k7 R hR
        have lo := hok.lo
        have hi' := hok.hi
        refine ⟨_, rfl, _, rfl, t, _, 0, _, rfl, rfl, W.seqT s6 k7 (t6 _ _ _ g1), rfl, st, c, ns, _, rfl, s7, by omega, by omega, fun d' H8 h0 h1 k8 s8 => hR _ _ ?_ k8 s8⟩
        obtain ⟨x, rfl⟩ := Int.eq_ofNat_of_zero_le h0
        exact ⟨x, rfl, by omega⟩
      intro H7 xs l7 o7 e7 k7 s7
      obtain ⟨srt, rfl⟩ := nums_int o7
      rw [List.length_map] at l7
      have nSOs := (W.fresh _ _ s6 nSO).1
      have t7 := t6.trans (W.tups s6 k7)
      have hL7 : LangAt K H7 t L := hL5.keep fun _ _ z => t7 _ _ _ z
      have hk7 : 0 < i ∨ 0 < j → KindIn K H7 a5 := fun e => (hk5 e).tups t7
      clear t7 t6 hk5 hL5 k6 k7 s5 s6 o7 g1 g2
      -- atoms
      refine ⟨_, rfl, _, rfl, _, rfl, st, c, ns, t, SO, L, srt, 10, rfl, s7, hL7, hok, e7, nSOs, by omega, Nat.le_refl _, fun D ps H8 nDs eD lps okp atp k8 s8 => ?_⟩
      have t8 := W.tups s7 k8
      have e8 := k8 _ _ nSOs e7
      have hL8 : LangAt K H8 t L := hL7.keep fun _ _ z => t8 _ _ _ z
      -- kind
      refine ⟨_, rfl, _, rfl, SO, D, srt, ps, rfl, e8, by omega, by omega, eD, atp, okp, by omega, fun R kp rw_ qs H9 m9 eR hkd hko => ?_⟩
      refine ⟨R, _, 0, _, rfl, rfl, SqL.of eR, rfl, ?_⟩
      refine ⟨_, rfl, kp, _, qs, rfl, hkd, hko, fun H10 m10 => ⟨_, rfl, iteF ?_⟩⟩
      have m8 := m9.trans m10
      have s10 := StAt.same m8 s8
      have e10 := m8 _ _ e8
      have eD10 := m8 _ _ eD
      have hL10 := hL8.same m8
      have atp10 := atp.tups (Tups.same m8)
      have hk10 := hkd.tups (Tups.same m10)
      clear hL8 hL7 t8 k8 s8 s7 hk7 e7 e8 m9 eR hkd atp eD m8 m10
      -- guards
      refine ⟨_, rfl, _, rfl, _, rfl, st, c, ns, t, SO, L, srt, rfl, s10, hL10, hok, e10, nSOs, by omega, fun G gs H11 nGs eG lgs okg atg k11 s11 => ?_⟩
      have t11 := W.tups s10 k11
      have e11 := k11 _ _ nSOs e10
      have eD11 := k11 _ _ nDs eD10
      have hL11 : LangAt K H11 t L := hL10.keep fun _ _ z => t11 _ _ _ z
      have atp11 := atp10.tups t11
      have hk11 := hk10.tups t11
      clear hL10 k11 s10 e10 eD10 atp10 hk10 t11
      refine ⟨G, rfl, ⟨_, SqL.of eG⟩, fun E nE => ?_⟩
      refine lc_it (walk_list (xs := apV gs)) (fun m H' => ∃ es : List AP, H' E = some (.lst (apV es)) ∧ es.length ≤ m ∧ (∀ q ∈ es, AtOk srt.length q.2) ∧ AtomsP K H' es ∧ Same H11 H')
        ⟨[], upd_same, Nat.zero_le _, by simp, (fun p hp => nomatch hp), same_new nE⟩ (fun m H' _ ⟨_, _, _, _, _, z⟩ => SqL.of (z _ _ eG)) ?_ ?_
      · rintro m v _ H12 hm ⟨es, f1, f2, f3, f4, f5⟩ ⟨rfl, hx⟩
        obtain ⟨q0, hq0, rfl⟩ := apV_get hx
        rw [apV_len] at hm
        have hq := (atg q0 (List.mem_of_getElem? hq0)).tups (Tups.same f5)
        refine ⟨rfl, _, rfl, _, rfl, atomD q0.2, _, atom_dp hq, .lst (SqL.of (f5 _ _ eD11)) (atoms_dpA (atp11.tups (Tups.same f5))), shaped_atom _, shaped_atoms _, _, rfl, ite2 (fun _ => ?_) (fun _ => ?_)⟩
        · refine ⟨_, rfl, _, f1, small1000 (by rw [apV_len]; omega), es ++ [q0], by rw [upd_same, apV_snoc], by rw [List.length_append]; show es.length + 1 ≤ m + 1; omega, fun q hq => ?_, fun q hq2 => ?_, Same.over nE f5⟩
          · rcases List.mem_append.mp hq with hq | hq
            · exact f3 q hq
            · rw [List.mem_singleton.mp hq]
              exact okg q0 (List.mem_of_getElem? hq0)
          · have tt := Tups.lst (o := .lst (apV es ++ [.ref q0.1])) f1
            rcases List.mem_append.mp hq2 with hq2 | hq2
            · exact (f4 q hq2).tups tt
            · rw [List.mem_singleton.mp hq2]
              exact hq.tups tt
        · exact ⟨es, f1, by omega, f3, f4, f5⟩
      rintro H12 ⟨es, f1, f2, f3, f4, f5⟩
      rw [apV_len] at f2
      have s12 := StAt.same f5 s11
      have e12 := f5 _ _ e11
      have eD12 := f5 _ _ eD11
      have hL12 := hL11.same f5
      have atp12 := atp11.tups (Tups.same f5)
      have hk12 := hk11.tups (Tups.same f5)
      have nEs : E ≠ st := (W.fresh _ _ s11 nE).1
      clear hL11 s11 e11 eD11 atp11 hk11 eG atg nE f5
      -- if guards != [] and ..
      refine ⟨_, rfl, Nat.zero_le _, fun z0 nz0 => ?_⟩
      have mz := same_new (o := .lst ([] : List V)) nz0
      have s13 := StAt.same mz s12
      have e13 := mz _ _ e12
      have eD13 := mz _ _ eD12
      have eE13 := mz _ _ f1
      have hL13 := hL12.same mz
      have atp13 := atp12.tups (Tups.same mz)
      have ate13 := f4.tups (Tups.same mz)
      have hk13 := hk12.tups (Tups.same mz)
      have dpe : Dp K (upd H12 z0 (.lst ([] : List V))) (.ref E) (.list ((es.map (·.2)).map atomD)) := .lst (SqL.of eE13) (atoms_dpA ate13)
      have dpn : Dp K (upd H12 z0 (.lst ([] : List V))) (.ref z0) (.list (([] : List AT).map atomD)) := .lst (SqL.of upd_same) .nil
      refine ⟨_, _, dpe, dpn, shaped_atoms _, shaped_atoms _, _, rfl, ?_⟩
      clear dpe dpn
      generalize upd H12 z0 (.lst ([] : List V)) = H13 at s13 e13 eD13 eE13 hL13 atp13 ate13 hk13
      clear s12 e12 eD12 f1 hL12 atp12 f4 hk12
      refine ite2 (fun _ => ?_) (fun _ => iteF ⟨⟨_, _, _, _, _, _, _, _, rfl, fun _ => ⟨kp, _, qs, rfl, hk13, hko⟩⟩, s13, hL13⟩)
      refine ⟨_, rfl, Nat.zero_le _, fun z1 nz1 => ⟨_, rfl, two_fits, fun l nl => ?_⟩⟩
      have mz1 := same_new (o := .lst ([] : List V)) nz1
      have ml := mz1.trans (same_new (o := .lst [V.ref z1, V.ref D]) nl)
      have n1l : z1 ≠ l := ne_of_none (by rw [upd_same]) nl
      have ez1 : (upd (upd H13 z1 (.lst ([] : List V))) l (.lst [V.ref z1, V.ref D])) z1 = some (.lst (apV [])) := by rw [upd_ne n1l, upd_same]; rfl
      have el : (upd (upd H13 z1 (.lst ([] : List V))) l (.lst [V.ref z1, V.ref D])) l = some (.lst [V.ref z1, V.ref D]) := upd_same
      have s14 := StAt.same ml s13
      have nz1s : z1 ≠ st := (W.fresh _ _ s13 nz1).1
      have nls : l ≠ st := (W.fresh _ _ (StAt.same mz1 s13) nl).1
      refine ⟨_, rfl, st, c, ns, 2, rfl, s14, by decide, by decide, fun d H14 d0 d1 k14 s15 => ?_⟩
      have kk := ml.kept.trans k14
      have tt := W.tups s13 kk
      have hX : ∃ (X : Addr) (bs : List AP), atI [V.ref z1, V.ref D] d = some (.ref X) ∧ H14 X = some (.lst (apV bs)) ∧ AtomsP K H14 bs ∧ (∀ q ∈ bs, AtOk srt.length q.2) ∧ bs.length ≤ 10 := by
        have cs : d = 0 ∨ d = 1 := by omega
        rcases cs with rfl | rfl
        · exact ⟨z1, [], rfl, k14 _ _ nz1s ez1, (fun p hp => nomatch hp), by simp, Nat.zero_le _⟩
        · exact ⟨D, ps, rfl, kk _ _ nDs eD13, atp13.tups tt, okp, lps⟩
      obtain ⟨X, bs, x1, x2, x3, x4, x5⟩ := hX
      refine ⟨l, _, d, _, rfl, rfl, SqL.of (k14 _ _ nls el), x1, ?_⟩
      have eE14 := kk _ _ nEs eE13
      refine ⟨_, rfl, X, E, _, _, rfl, rfl, x2, eE14, fits (by rw [apV_len, apV_len]; omega), fun N nN => ?_⟩
      have mN := same_new (o := .lst (apV bs ++ apV es)) nN
      have eN : (upd H14 N (.lst (apV bs ++ apV es))) N = some (.lst (apV (bs ++ es))) := by
        rw [upd_same]
        unfold apV
        rw [List.map_append]
      have tN := tt.trans (Tups.same mN)
      refine ⟨SO, N, srt, bs ++ es, rfl, mN _ _ (kk _ _ nSOs e13), by omega, by omega, eN, fun q hq => ?_, fun q hq => ?_, by rw [List.length_append]; omega, fun R2 kp2 rw2 qs2 H15 m15 eR2 hkd2 hko2 => ?_⟩
      · rcases List.mem_append.mp hq with hq | hq
        · exact (x3 q hq).tups (Tups.same mN)
        · exact (ate13 q hq).tups tN
      · rcases List.mem_append.mp hq with hq | hq
        · exact x4 q hq
        · exact f3 q hq
      refine ⟨R2, _, 0, _, rfl, rfl, SqL.of eR2, rfl, ?_⟩
      refine ⟨kp2, _, qs2, rfl, hkd2, hko2, fun H16 m16 => ⟨_, rfl, iteF ?_⟩⟩
      have mm := (mN.trans m15).trans m16
      have tA := tt.trans (Tups.same mm)
      exact ⟨⟨_, _, _, _, _, _, _, _, rfl, fun _ => ⟨kp, _, qs, rfl, hk13.tups tA, hko⟩⟩, StAt.same mm s15, hL13.keep fun _ _ z => tA _ _ _ z⟩
    · rintro σ H5 ⟨⟨a1, a2, a3, a5, a7, a9, a10, a11, rfl, hk5⟩, s5, hL5⟩
      exact ⟨⟨_, _, _, _, _, _, _, _, _, rfl, fun _ => hk5 (.inr (by decide))⟩, s5⟩
  · rintro σ H2 ⟨⟨a1, a2, a3, a5, a6, a7, a9, a10, a11, rfl, hk⟩, s2⟩
    obtain ⟨kp, n, qs, rfl, hk0, hok⟩ := hk (by decide)
    obtain ⟨sa, at_, ss, hk1, hk2, hk3, hk4, hk5⟩ := id hk0
    have hn := hok.hi
    refine ⟨_, rfl, kp, _, 0, _, rfl, rfl, hk1, rfl, sa, _, rfl, .inr hk2, _, rfl, RgOk.of_le (by omega) (by rw [List.length_map]; omega) (by omega) (by omega), fun u nu => ?_⟩
    rw [show ((ss.map V.int).length : Int) = (n : Int) by rw [List.length_map, hk3], rgV_range]
    have su := same_new (o := .tup ((rangeI n).map V.int)) nu
    have qu : SqT K (upd H2 u (.tup ((rangeI n).map V.int))) u ((rangeI n).map V.int) := .inl (.inl upd_same)
    generalize upd H2 u (.tup ((rangeI n).map V.int)) = H3 at su qu
    refine ⟨_, rfl, kp, n, qs, rfl, hk0.tups (Tups.same su), hok, fun p1 H4 s4 r1 => ?_⟩
    obtain ⟨ks, b1, b2, b3, b4, b5, b6⟩ := r1
    have dpr : Dp K H4 (.ref p1) (.tuple ((ks.map (·.2)).map rowD)) := .tup b1 (rows_dp b2)
    refine ⟨rowD (rangeI n), _, .tup (s4.seqT qu) (tupD_dpAll _), dpr, shaped_row _, canLay_rows _, ?_⟩
    have m4 := su.trans s4
    refine ⟨_, rfl, rfl, kp, n, qs, rfl, hk0.tups (Tups.same m4), hok, fun p2 H5 s5 r2 => ?_⟩
    have m5 := m4.trans s5
    refine ⟨_, rfl, kp, n, qs, rfl, hk0.tups (Tups.same m5), hok, fun p3 H6 s6 r3 => ?_⟩
    have m6 := m5.trans s6
    obtain ⟨d, dd1, dd2, okd⟩ := rowsK_data hn (r2.tups (Tups.same s6)) r3
    refine ⟨_, _, d, rfl, dd1, dd2, okd, fun H7 s7 => ⟨_, rfl, iteT ?_⟩⟩
    refine ⟨_, rfl, rfl, kp, n, qs, rfl, hk0.tups (Tups.same (m6.trans s7)), hok, fun H8 s8 => ?_⟩
    refine ⟨_, rfl, _, _, .bool (decide (rangeI n ∈ allK n (qs.map (·.2)))), rfl, .bl _, ?_, trivial, fun H9 s9 => q H9⟩
    show Dp K H8 (.bl (((ks.map (·.2)).map rowD).any fun z => PyData.eqv z (rowD (rangeI n)))) _
    rw [XT.any_rows, contains_eq b6]
    exact .bl _
end
theorem all_mk {l : PySem.W.OpenLaw} {w : World} {K : PySem.W.Frag} {h : Heap} {mg : Str → Option Value} {fa : Addr} {f0 f1 f2 f3 f4 f5 f6 f7 f8 f9 f10 f11 f12 f13 f14 f15 : Addr} (X : K.In h) (G : h.Ns mainGlobals mg) (hfa : mg "law" = some (.ref fa))
    {od0 an0 od1 an1 od2 an2 od3 an3 od4 an4 od5 an5 od6 an6 od7 an7 od8 an8 od9 an9 od10 an10 od11 an11 od12 an12 od13 an13 od14 an14 od15 an15 : Option Addr} {sl0 sl1 sl2 sl3 sl4 sl5 sl6 sl7 sl8 sl9 sl10 sl11 sl12 sl13 sl14 sl15 : Array (Option Value)} {oc0 kV0 dc0 pm0 cd0 ct0 oc1 kV1 dc1 pm1 cd1 ct1 oc2 kV2 dc2 pm2 cd2 ct2 oc3 kV3 dc3 pm3 cd3 ct3 oc4 kV4 dc4 pm4 cd4 ct4 oc5 kV5 dc5 pm5 cd5 ct5 oc6 kV6 dc6 pm6 cd6 ct6 oc7 kV7 dc7 pm7 cd7 ct7 oc8 kV8 dc8 pm8 cd8 ct8 oc9 kV9 dc9 pm9 cd9 ct9 oc10 kV10 dc10 pm10 cd10 ct10 oc11 kV11 dc11 pm11 cd11 ct11 oc12 kV12 dc12 pm12 cd12 ct12 oc13 kV13 dc13 pm13 cd13 ct13 oc14 kV14 dc14 pm14 cd14 ct14 oc15 kV15 dc15 pm15 cd15 ct15 : Value}
    (a0 : PySem.W.nsIn K mainGlobals "_law_mixed" = some (some (.ref f0))) (l0 : K.lookup f0 = some ⟨oc0, od0, .func (PySem.W.fnOf "_law_mixed" "_law_mixed" (defArgs s__law_mixed) (defBody s__law_mixed) (defScope s__law_mixed) .none kV0 dc0 pm0 an0 cd0 ct0), sl0⟩) (c0 : PySem.W.codeIn K cd0 "_law_mixed" = true) (k0 : PySem.W.keepIn K (.ref f0) = true)
    (a1 : PySem.W.nsIn K mainGlobals "_law_start" = some (some (.ref f1))) (l1 : K.lookup f1 = some ⟨oc1, od1, .func (PySem.W.fnOf "_law_start" "_law_start" (defArgs s__law_start) (defBody s__law_start) (defScope s__law_start) .none kV1 dc1 pm1 an1 cd1 ct1), sl1⟩) (c1 : PySem.W.codeIn K cd1 "_law_start" = true) (k1 : PySem.W.keepIn K (.ref f1) = true)
    (a2 : PySem.W.nsIn K mainGlobals "_law_take" = some (some (.ref f2))) (l2 : K.lookup f2 = some ⟨oc2, od2, .func (PySem.W.fnOf "_law_take" "_law_take" (defArgs s__law_take) (defBody s__law_take) (defScope s__law_take) .none kV2 dc2 pm2 an2 cd2 ct2), sl2⟩) (c2 : PySem.W.codeIn K cd2 "_law_take" = true) (k2 : PySem.W.keepIn K (.ref f2) = true)
    (a3 : PySem.W.nsIn K mainGlobals "_law_language" = some (some (.ref f3))) (l3 : K.lookup f3 = some ⟨oc3, od3, .func (PySem.W.fnOf "_law_language" "_law_language" (defArgs s__law_language) (defBody s__law_language) (defScope s__law_language) .none kV3 dc3 pm3 an3 cd3 ct3), sl3⟩) (c3 : PySem.W.codeIn K cd3 "_law_language" = true) (k3 : PySem.W.keepIn K (.ref f3) = true)
    (a4 : PySem.W.nsIn K mainGlobals "_law_due" = some (some (.ref f4))) (l4 : K.lookup f4 = some ⟨oc4, od4, .func (PySem.W.fnOf "_law_due" "_law_due" (defArgs s__law_due) (defBody s__law_due) (defScope s__law_due) .none kV4 dc4 pm4 an4 cd4 ct4), sl4⟩) (c4 : PySem.W.codeIn K cd4 "_law_due" = true) (k4 : PySem.W.keepIn K (.ref f4) = true)
    (a5 : PySem.W.nsIn K mainGlobals "_law_same" = some (some (.ref f5))) (l5 : K.lookup f5 = some ⟨oc5, od5, .func (PySem.W.fnOf "_law_same" "_law_same" (defArgs s__law_same) (defBody s__law_same) (defScope s__law_same) .none kV5 dc5 pm5 an5 cd5 ct5), sl5⟩) (c5 : PySem.W.codeIn K cd5 "_law_same" = true) (k5 : PySem.W.keepIn K (.ref f5) = true)
    (a6 : PySem.W.nsIn K mainGlobals "_law_atom" = some (some (.ref f6))) (l6 : K.lookup f6 = some ⟨oc6, od6, .func (PySem.W.fnOf "_law_atom" "_law_atom" (defArgs s__law_atom) (defBody s__law_atom) (defScope s__law_atom) .none kV6 dc6 pm6 an6 cd6 ct6), sl6⟩) (c6 : PySem.W.codeIn K cd6 "_law_atom" = true) (k6 : PySem.W.keepIn K (.ref f6) = true)
    (a7 : PySem.W.nsIn K mainGlobals "_law_some_atoms" = some (some (.ref f7))) (l7 : K.lookup f7 = some ⟨oc7, od7, .func (PySem.W.fnOf "_law_some_atoms" "_law_some_atoms" (defArgs s__law_some_atoms) (defBody s__law_some_atoms) (defScope s__law_some_atoms) .none kV7 dc7 pm7 an7 cd7 ct7), sl7⟩) (c7 : PySem.W.codeIn K cd7 "_law_some_atoms" = true) (k7 : PySem.W.keepIn K (.ref f7) = true)
    (a8 : PySem.W.nsIn K mainGlobals "guarded_slots" = some (some (.ref f8))) (l8 : K.lookup f8 = some ⟨oc8, od8, .func (PySem.W.fnOf "guarded_slots" "guarded_slots" (defArgs s_guarded_slots) (defBody s_guarded_slots) (defScope s_guarded_slots) .none kV8 dc8 pm8 an8 cd8 ct8), sl8⟩) (c8 : PySem.W.codeIn K cd8 "guarded_slots" = true) (k8 : PySem.W.keepIn K (.ref f8) = true)
    (a9 : PySem.W.nsIn K mainGlobals "is_guarded" = some (some (.ref f9))) (l9 : K.lookup f9 = some ⟨oc9, od9, .func (PySem.W.fnOf "is_guarded" "is_guarded" (defArgs s_is_guarded) (defBody s_is_guarded) (defScope s_is_guarded) .none kV9 dc9 pm9 an9 cd9 ct9), sl9⟩) (c9 : PySem.W.codeIn K cd9 "is_guarded" = true) (k9 : PySem.W.keepIn K (.ref f9) = true)
    (a10 : PySem.W.nsIn K mainGlobals "_law_exchanges" = some (some (.ref f10))) (l10 : K.lookup f10 = some ⟨oc10, od10, .func (PySem.W.fnOf "_law_exchanges" "_law_exchanges" (defArgs s__law_exchanges) (defBody s__law_exchanges) (defScope s__law_exchanges) .none kV10 dc10 pm10 an10 cd10 ct10), sl10⟩) (c10 : PySem.W.codeIn K cd10 "_law_exchanges" = true) (k10 : PySem.W.keepIn K (.ref f10) = true)
    (a11 : PySem.W.nsIn K mainGlobals "_law_put" = some (some (.ref f11))) (l11 : K.lookup f11 = some ⟨oc11, od11, .func (PySem.W.fnOf "_law_put" "_law_put" (defArgs s__law_put) (defBody s__law_put) (defScope s__law_put) .none kV11 dc11 pm11 an11 cd11 ct11), sl11⟩) (c11 : PySem.W.codeIn K cd11 "_law_put" = true) (k11 : PySem.W.keepIn K (.ref f11) = true)
    (a12 : PySem.W.nsIn K mainGlobals "_law_canonical" = some (some (.ref f12))) (l12 : K.lookup f12 = some ⟨oc12, od12, .func (PySem.W.fnOf "_law_canonical" "_law_canonical" (defArgs s__law_canonical) (defBody s__law_canonical) (defScope s__law_canonical) .none kV12 dc12 pm12 an12 cd12 ct12), sl12⟩) (c12 : PySem.W.codeIn K cd12 "_law_canonical" = true) (k12 : PySem.W.keepIn K (.ref f12) = true)
    (a13 : PySem.W.nsIn K mainGlobals "_law_is_told" = some (some (.ref f13))) (l13 : K.lookup f13 = some ⟨oc13, od13, .func (PySem.W.fnOf "_law_is_told" "_law_is_told" (defArgs s__law_is_told) (defBody s__law_is_told) (defScope s__law_is_told) .none kV13 dc13 pm13 an13 cd13 ct13), sl13⟩) (c13 : PySem.W.codeIn K cd13 "_law_is_told" = true) (k13 : PySem.W.keepIn K (.ref f13) = true)
    (a14 : PySem.W.nsIn K mainGlobals "_law_guard" = some (some (.ref f14))) (l14 : K.lookup f14 = some ⟨oc14, od14, .func (PySem.W.fnOf "_law_guard" "_law_guard" (defArgs s__law_guard) (defBody s__law_guard) (defScope s__law_guard) .none kV14 dc14 pm14 an14 cd14 ct14), sl14⟩) (c14 : PySem.W.codeIn K cd14 "_law_guard" = true) (k14 : PySem.W.keepIn K (.ref f14) = true)
    (a15 : PySem.W.nsIn K mainGlobals "law" = some (some (.ref f15))) (l15 : K.lookup f15 = some ⟨oc15, od15, .func (PySem.W.fnOf "law" "law" (defArgs s_law) (defBody s_law) (defScope s_law) .none kV15 dc15 pm15 an15 cd15 ct15), sl15⟩) (c15 : PySem.W.codeIn K cd15 "law" = true) (k15 : PySem.W.keepIn K (.ref f15) = true)
    (z0 : PySem.W.nsIn K mainGlobals "int" = some none) (z1 : PySem.W.nsIn K mainGlobals "len" = some none) (z2 : PySem.W.nsIn K mainGlobals "list" = some none) (z3 : PySem.W.nsIn K mainGlobals "abs" = some none) (z4 : PySem.W.nsIn K mainGlobals "range" = some none) (z5 : PySem.W.nsIn K mainGlobals "tuple" = some none) (z6 : PySem.W.nsIn K mainGlobals "sorted" = some none) (z7 : PySem.W.nsIn K mainGlobals "isinstance" = some none) (z8 : PySem.W.nsIn K mainGlobals "bool" = some none) (z9 : PySem.W.nsIn K mainGlobals "str" = some none) (z10 : PySem.W.nsIn K mainGlobals "set" = some none) :
    ∃ fd : FuncData, (∀ (s : Shared) (v : Value), BindsTo s fd ⟨[v], []⟩ [("script", v)]) ∧ ∀ base : Heap, K.In base → base.Ns mainGlobals mg → FnOk l.prog w K mg base CX0 10 fa fd ["script"] (sp_law K) := by
  have e := hfa.symm.trans (PySem.W.mg_of X G a15)
  cases e
  have m_int := PySem.W.mg_none_of X G z0
  have m_len := PySem.W.mg_none_of X G z1
  have m_list := PySem.W.mg_none_of X G z2
  have m_abs := PySem.W.mg_none_of X G z3
  have m_range := PySem.W.mg_none_of X G z4
  have m_tuple := PySem.W.mg_none_of X G z5
  have m_sorted := PySem.W.mg_none_of X G z6
  have m_isinstance := PySem.W.mg_none_of X G z7
  have m_bool := PySem.W.mg_none_of X G z8
  have m_str := PySem.W.mg_none_of X G z9
  have m_set := PySem.W.mg_none_of X G z10
  have F0 := fun_mk (st := s__law_mixed) l0 c0 k0
  have b0 := F0.binds (ps := ["number", "k"]) fun _ _ _ _ _ _ us hl => match us, hl with | [_, _], _ => rfl
  have g0 := PySem.W.mg_of X G a0
  have F1 := fun_mk (st := s__law_start) l1 c1 k1
  have b1 := F1.binds (ps := ["script"]) fun _ _ _ _ _ _ us hl => match us, hl with | [_], _ => rfl
  have g1 := PySem.W.mg_of X G a1
  have F2 := fun_mk (st := s__law_take) l2 c2 k2
  have b2 := F2.binds (ps := ["state", "limit"]) fun _ _ _ _ _ _ us hl => match us, hl with | [_, _], _ => rfl
  have g2 := PySem.W.mg_of X G a2
  have F3 := fun_mk (st := s__law_language) l3 c3 k3
  have b3 := F3.binds (ps := ["state", "many"]) fun _ _ _ _ _ _ us hl => match us, hl with | [_, _], _ => rfl
  have g3 := PySem.W.mg_of X G a3
  have F4 := fun_mk (st := s__law_due) l4 c4 k4
  have b4 := F4.binds (ps := ["kind"]) fun _ _ _ _ _ _ us hl => match us, hl with | [_], _ => rfl
  have g4 := PySem.W.mg_of X G a4
  have F5 := fun_mk (st := s__law_same) l5 c5 k5
  have b5 := F5.binds (ps := ["actual", "due"]) fun _ _ _ _ _ _ us hl => match us, hl with | [_, _], _ => rfl
  have g5 := PySem.W.mg_of X G a5
  have F6 := fun_mk (st := s__law_atom) l6 c6 k6
  have b6 := F6.binds (ps := ["state", "language", "sorts"]) fun _ _ _ _ _ _ us hl => match us, hl with | [_, _, _], _ => rfl
  have g6 := PySem.W.mg_of X G a6
  have F7 := fun_mk (st := s__law_some_atoms) l7 c7 k7
  have b7 := F7.binds (ps := ["state", "language", "sorts", "most"]) fun _ _ _ _ _ _ us hl => match us, hl with | [_, _, _, _], _ => rfl
  have g7 := PySem.W.mg_of X G a7
  have F8 := fun_mk (st := s_guarded_slots) l8 c8 k8
  have b8 := F8.binds (ps := ["kind"]) fun _ _ _ _ _ _ us hl => match us, hl with | [_], _ => rfl
  have g8 := PySem.W.mg_of X G a8
  have F9 := fun_mk (st := s_is_guarded) l9 c9 k9
  have b9 := F9.binds (ps := ["kind"]) fun _ _ _ _ _ _ us hl => match us, hl with | [_], _ => rfl
  have g9 := PySem.W.mg_of X G a9
  have F10 := fun_mk (st := s__law_exchanges) l10 c10 k10
  have b10 := F10.binds (ps := ["sorts"]) fun _ _ _ _ _ _ us hl => match us, hl with | [_], _ => rfl
  have g10 := PySem.W.mg_of X G a10
  have F11 := fun_mk (st := s__law_put) l11 c11 k11
  have b11 := F11.binds (ps := ["atoms", "row"]) fun _ _ _ _ _ _ us hl => match us, hl with | [_, _], _ => rfl
  have g11 := PySem.W.mg_of X G a11
  have F12 := fun_mk (st := s__law_canonical) l12 c12 k12
  have b12 := F12.binds (ps := ["sorts", "atoms"]) fun _ _ _ _ _ _ us hl => match us, hl with | [_, _], _ => rfl
  have g12 := PySem.W.mg_of X G a12
  have F13 := fun_mk (st := s__law_is_told) l13 c13 k13
  have b13 := F13.binds (ps := ["kind"]) fun _ _ _ _ _ _ us hl => match us, hl with | [_], _ => rfl
  have g13 := PySem.W.mg_of X G a13
  have F14 := fun_mk (st := s__law_guard) l14 c14 k14
  have b14 := F14.binds (ps := ["state", "language", "sorts"]) fun _ _ _ _ _ _ us hl => match us, hl with | [_, _, _], _ => rfl
  have g14 := PySem.W.mg_of X G a14
  have F15 := fun_mk (st := s_law) l15 c15 k15
  refine ⟨PySem.W.fnOf "law" "law" (defArgs s_law) (defBody s_law) (defScope s_law) .none kV15 dc15 pm15 an15 cd15 ct15, fun s v => .of_eq rfl, fun base _ _ => ?_⟩
  have C__law_mixed : Cal l.prog w K mg base 1 "_law_mixed" s__law_mixed ["number", "k"] (sp__law_mixed K) := ⟨_, _, ok__law_mixed F0 m_int, F0, b0, g0⟩
  have C__law_start : Cal l.prog w K mg base 2 "_law_start" s__law_start ["script"] (sp__law_start K) := ⟨_, _, ok__law_start F1 C__law_mixed m_len m_list, F1, b1, g1⟩
  have C__law_take : Cal l.prog w K mg base 2 "_law_take" s__law_take ["state", "limit"] (sp__law_take K) := ⟨_, _, ok__law_take F2 C__law_mixed m_int m_len m_abs, F2, b2, g2⟩
  have C__law_language : Cal l.prog w K mg base 3 "_law_language" s__law_language ["state", "many"] (sp__law_language K) := ⟨_, _, ok__law_language F3 C__law_take m_list m_range m_tuple m_len, F3, b3, g3⟩
  have C__law_due : Cal l.prog w K mg base 1 "_law_due" s__law_due ["kind"] (sp__law_due K) := ⟨_, _, ok__law_due F4 m_tuple m_sorted m_range m_len, F4, b4, g4⟩
  have C__law_same : Cal l.prog w K mg base 8 "_law_same" s__law_same ["actual", "due"] (sp__law_same K) := ⟨_, _, ok__law_same F5 b5 g5 m_isinstance m_bool m_int m_str m_range m_len m_list m_tuple 8, F5, b5, g5⟩
  have C__law_atom : Cal l.prog w K mg base 3 "_law_atom" s__law_atom ["state", "language", "sorts"] (sp__law_atom K) := ⟨_, _, ok__law_atom F6 C__law_take m_len m_range, F6, b6, g6⟩
  have C__law_some_atoms : Cal l.prog w K mg base 4 "_law_some_atoms" s__law_some_atoms ["state", "language", "sorts", "most"] (sp__law_some_atoms K) := ⟨_, _, ok__law_some_atoms F7 C__law_take C__law_atom m_range, F7, b7, g7⟩
  have C_guarded_slots : Cal l.prog w K mg base 1 "guarded_slots" s_guarded_slots ["kind"] (sp_guarded_slots K) := ⟨_, _, ok_guarded_slots F8 m_tuple m_sorted m_range m_set m_len, F8, b8, g8⟩
  have C_is_guarded : Cal l.prog w K mg base 2 "is_guarded" s_is_guarded ["kind"] (sp_is_guarded K) := ⟨_, _, ok_is_guarded F9 C_guarded_slots m_tuple m_range m_len, F9, b9, g9⟩
  have C__law_exchanges : Cal l.prog w K mg base 1 "_law_exchanges" s__law_exchanges ["sorts"] (sp__law_exchanges K) := ⟨_, _, ok__law_exchanges F10 m_sorted m_range m_len, F10, b10, g10⟩
  have C__law_put : Cal l.prog w K mg base 1 "_law_put" s__law_put ["atoms", "row"] (sp__law_put K) := ⟨_, _, ok__law_put F11 m_tuple m_sorted, F11, b11, g11⟩
  have C__law_canonical : Cal l.prog w K mg base 2 "_law_canonical" s__law_canonical ["sorts", "atoms"] (sp__law_canonical K) := ⟨_, _, ok__law_canonical F12 C__law_exchanges C__law_put m_tuple m_sorted, F12, b12, g12⟩
  have C__law_is_told : Cal l.prog w K mg base 9 "_law_is_told" s__law_is_told ["kind"] (sp__law_is_told K) := ⟨_, _, ok__law_is_told F13 C__law_due C__law_same C_is_guarded C_guarded_slots m_tuple m_range m_len, F13, b13, g13⟩
  have C__law_guard : Cal l.prog w K mg base 3 "_law_guard" s__law_guard ["state", "language", "sorts"] (sp__law_guard K) := ⟨_, _, ok__law_guard F14 C__law_take m_range m_len m_sorted m_list m_tuple, F14, b14, g14⟩
  exact ok_law F15 C__law_start C__law_language C__law_due C__law_same C__law_take C__law_some_atoms C_guarded_slots C_is_guarded C__law_canonical C__law_is_told C__law_guard m_range m_tuple m_len
end K19
open PySem PySem.W PyProof.Rows
set_option maxHeartbeats 0 in
theorem PySem.Challenge.cw_bagkinds_k19_guarded_slots_holds : PySem.Challenge.rw_bagkinds_k19_guarded_slots.Holds := by
  w_on; o_law; k_head; (case hw => w_witness2)
  k_fill
  refine L2.walk_of (l := PySem.Challenge.rw_bagkinds_k19_guarded_slots) (n := 63) (k := 10) (x := "script") (CX := fun _ => L2.CX0) (sp := fun w => K19.sp_law _) rfl (by decide) rfl ⟨rfl, by decide, by decide⟩ (fun w h Y => PySem.W.kIn_of Y) ?F (fun _ _ a ns hl _ hS => ⟨a, ns, rfl, hS, hl, fun _ => rfl⟩) (fun _ _ _ _ _ h => h)
  case F =>
    intro w mg fa h KX G hmg
    refine' K19.all_mk KX G hmg ?a0 ?l0 ?c0 ?k0 ?a1 ?l1 ?c1 ?k1 ?a2 ?l2 ?c2 ?k2 ?a3 ?l3 ?c3 ?k3 ?a4 ?l4 ?c4 ?k4 ?a5 ?l5 ?c5 ?k5 ?a6 ?l6 ?c6 ?k6 ?a7 ?l7 ?c7 ?k7 ?a8 ?l8 ?c8 ?k8 ?a9 ?l9 ?c9 ?k9 ?a10 ?l10 ?c10 ?k10 ?a11 ?l11 ?c11 ?k11 ?a12 ?l12 ?c12 ?k12 ?a13 ?l13 ?c13 ?k13 ?a14 ?l14 ?c14 ?k14 ?a15 ?l15 ?c15 ?k15 ?z0 ?z1 ?z2 ?z3 ?z4 ?z5 ?z6 ?z7 ?z8 ?z9 ?z10
    (case a0 => k_is); (case l0 => k_is); (case c0 => k_is); (case k0 => k_is)
    (case a1 => k_is); (case l1 => k_is); (case c1 => k_is); (case k1 => k_is)
    (case a2 => k_is); (case l2 => k_is); (case c2 => k_is); (case k2 => k_is)
    (case a3 => k_is); (case l3 => k_is); (case c3 => k_is); (case k3 => k_is)
    (case a4 => k_is); (case l4 => k_is); (case c4 => k_is); (case k4 => k_is)
    (case a5 => k_is); (case l5 => k_is); (case c5 => k_is); (case k5 => k_is)
    (case a6 => k_is); (case l6 => k_is); (case c6 => k_is); (case k6 => k_is)
    (case a7 => k_is); (case l7 => k_is); (case c7 => k_is); (case k7 => k_is)
    (case a8 => k_is); (case l8 => k_is); (case c8 => k_is); (case k8 => k_is)
    (case a9 => k_is); (case l9 => k_is); (case c9 => k_is); (case k9 => k_is)
    (case a10 => k_is); (case l10 => k_is); (case c10 => k_is); (case k10 => k_is)
    (case a11 => k_is); (case l11 => k_is); (case c11 => k_is); (case k11 => k_is)
    (case a12 => k_is); (case l12 => k_is); (case c12 => k_is); (case k12 => k_is)
    (case a13 => k_is); (case l13 => k_is); (case c13 => k_is); (case k13 => k_is)
    (case a14 => k_is); (case l14 => k_is); (case c14 => k_is); (case k14 => k_is)
    (case a15 => k_is); (case l15 => k_is); (case c15 => k_is); (case k15 => k_is)
    (case z0 => k_is); (case z1 => k_is); (case z2 => k_is); (case z3 => k_is)
    (case z4 => k_is); (case z5 => k_is); (case z6 => k_is); (case z7 => k_is)
    (case z8 => k_is); (case z9 => k_is); (case z10 => k_is)
