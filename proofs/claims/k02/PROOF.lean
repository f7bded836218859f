import PyProof.Rows.All
import Wide.All
import OpenK.AllK
import Wide.FinOn
import HandS.Base
import HandS.Call
import HandS.List
import HandS.Comp
import HandS.Ends
import HandS.Dict
import HandS.Iter
import HandS.Text
import HandS.Words
import HandS.WordsList
import HandS.Walk
import HandS.Defaults
import HandS.IsInst
import HandS.TupAny
import HandS.Deep
import KE.GoesEnum
import KE.LtData
import PyProof.ListStr
import HandS.ForMost
import HandS.Codes
import HandS.Zip
import HandS.Rev
import HandS.Conv
import HandS.SortKw
import KE.KMinKey
import HandS.TryOnly
import PySem.Challenge.RW_bagkinds_k02_widths_and_numbers
set_option Elab.async false
set_option linter.all false
set_option maxRecDepth 100000
/-! rules that the layer lacks: enumerate of a tuple, list of a text, the order of nested data -/
namespace XT
open PySem PySem.Spec PyProof.Rows L2

/-! enumerate of anything that begins an iterator -/
/-- a new enumerate object over the iterator at b -/
abbrev enumObj (b : Addr) : Obj := { cls := .type "enumerate", data := .fields #[.none, .bool false, .ref b, rawInt 0, .none, .none] }
set_option maxHeartbeats 1000000 in
theorem enum_made {v : Value} {ob : Obj} {G : Heap → Prop} (B : Begins v ob G) :
    Meets (Builtin.«enumerate.__new__» ⟨[.type "enumerate", v], []⟩)
      (fun _ R s => G s.heap ∧
        R (.ok (.ret (.ref (s.heap.push ob).objs.size)))
          { s with heap := (s.heap.push ob).push (enumObj s.heap.objs.size) }) :=
  .of_wp fun prog w A R s hs => by
    obtain ⟨hp, gs, dr, tk, os⟩ := s
    obtain ⟨hg, hr⟩ := hs
    have subE := sub_enumerate
    have begin_it : ∀ {A' : Around} {E Q : Value → Shared → Prop},
        Q (.ref hp.objs.size) ⟨hp.push ob, gs, dr, tk, os⟩ → wpAny (model prog w) A' (pyIter v) Q E ⟨hp, gs, dr, tk, os⟩ :=
      fun q => B.iter prog w _ _ ⟨hp, gs, dr, tk, os⟩ _ hg q
    wp_walk using begin_it
    refine wpAny_stack_any fun _ => wpAny_pure ?_
    split
    · rename_i c _ _ _ _ _
      cases (c == Value.type "enumerate") <;> (wp_walk using begin_it; exact ⟨_, rfl, hr⟩)
    · wp_walk using begin_it
      exact ⟨_, rfl, hr⟩
section
variable {prog : Program} {w : World} {A : Around} {E : Value → Shared → Prop} {s : Shared}
theorem call_enum_of {v : Value} {ob : Obj} {G : Heap → Prop} {Q : Value → Shared → Prop} (B : Begins v ob G) (hg : G s.heap)
    (hq : ∀ h', IsEnum h' (s.heap.objs.size + 1) s.heap.objs.size 0 .none → h'.get? s.heap.objs.size = some ob →
      (∀ b o, s.heap.get? b = some o → h'.get? b = some o) → Q (.ref (s.heap.objs.size + 1)) { s with heap := h' }) :
    wpAny (model prog w) A (call (.type "enumerate") [v]) Q E s := by
  refine callType_new F.called_enumerate (by decide) (F.typeCall_enumerate_1 _) (F.newCall_enumerate_1 _)
    (fun obj => F.args_object_init_2 obj _) F.entry_enumerate_new (enum_made B) ⟨hg, ?_⟩
  have hz : (s.heap.push ob).objs.size = s.heap.objs.size + 1 := Heap.size_push ..
  show _ ∧ _
  rw [hz]
  have en : IsEnum ((s.heap.push ob).push (enumObj s.heap.objs.size)) (s.heap.objs.size + 1) s.heap.objs.size 0 .none := by
    have z := Heap.get?_push_size (s.heap.push ob) (o := enumObj s.heap.objs.size) rfl
    rwa [hz] at z
  exact ⟨⟨_, en, rfl⟩, hq _ en (Heap.get?_push_of_some _ (Heap.get?_push_size _ B.free))
    fun b o x => Heap.get?_push_of_some _ (Heap.get?_push_of_some _ x)⟩
end

/-- the tuple at a as it stands at each turn, each item in a new pair with its number -/
def IteT (K : PySem.W.Frag) (a : Addr) : It where
  go i H := ∃ (xs : List V) (x : V), SqT K H a xs ∧ xs[i]? = some x
  yld i H v H' := ∃ (T : Addr) (x : V), v = .ref T ∧ H T = none ∧ H' = upd H T (.tup [.int (i : Nat), x]) ∧ ∀ xs, SqT K H a xs → xs[i]? = some x
  stop i H := ∃ xs : List V, SqT K H a xs ∧ xs.length = i

theorem turn_enumT {P : Program} {w : World} {K : PySem.W.Frag} {elts : List Expr} {kk : Nat} {tpos : Pos} (a e it : Addr) :
    Turn P w K (.Tuple elts kk tpos) (IteT K a) [e, it] e
      (fun i h => (∃ old, IsEnum h e it ((i : Nat) : Int) old) ∧ h.IsTupleIter it a i ∧ e ≠ it) where
  mem := by simp
  obj := fun i h ⟨⟨_, he⟩, ⟨o, ho, _, hd⟩, _⟩ b hb => by
    rcases (show b = e ∨ b = it by simpa using hb) with rfl | rfl
    · exact ⟨_, he, fun v q => nomatch q⟩
    · exact ⟨o, ho, fun v q => by rw [hd] at q; cases q⟩
  keep := fun i h h' ⟨⟨old, he⟩, hi, hne⟩ k => ⟨⟨old, k e (by simp) _ he⟩, hi.at fun o q => k it (by simp) o q, hne⟩
  item := by
    intro X hP hw hK hc i pins s σ H E I hf ⟨⟨old, he⟩, hit, hne⟩ ⟨xs, x, hq, hx⟩
    subst hP hw hK
    obtain ⟨its, rv, p, hz⟩ := I.tuple hq
    obtain ⟨u, hu, ru⟩ := rv.get hx
    have hel : e < s.heap.objs.size := Heap.lt_size he
    have hil : it < s.heap.objs.size := let ⟨_, q, _⟩ := hit; Heap.lt_size q
    have hai : a ≠ it := fun z => by
      obtain ⟨o, ho, hcl, _⟩ := hit
      obtain ⟨o2, ho2, hcl2, _⟩ := id p
      rw [z, ho] at ho2
      cases ho2
      rw [hcl] at hcl2
      exact absurd hcl2 (by decide)
    have hae : e ≠ a := fun z => by
      obtain ⟨o2, ho2, hcl2, _⟩ := id p
      rw [← z, show s.heap.get? e = _ from he] at ho2
      cases ho2
      have z2 : Value.type "enumerate" = Value.type "tuple" := hcl2
      injection z2 with z3
      exact absurd z3 (by decide)
    have hh : X.A.in1.in1.handled = none := I.ok.hd hc
    have Dr := Draws.tuple (prog := X.prog) (w := X.w) (A := X.A.in1) hh it a hai its.toArray
    refine wpAny_pyNext_enum_itemC Dr he ⟨hit, p⟩ (by simpa using (List.getElem?_eq_some_iff.mp hu).1) hne (by simp [hne, hae])
      fun x' h' tk hP' ho hst hT hsz hk => ?_
    have ex : x' = u := by
      have z : its[i]? = some x' := by simpa using hP'
      rw [hu] at z
      exact (Option.some.inj z).symm
    subst ex
    refine ⟨_, rfl, wpAny_letOwnedTupleGo_enum (s := { s with heap := h', toks := tk + 1 }) ho fun h2 he2 sb => ?_⟩
    have hT2 : h2.get? s.heap.objs.size = some { cls := .type "tuple", data := .seq #[.int i tk, x'] } := (sb.2 _ (Nat.ne_of_gt hel)).trans hT
    have laid : ObjOk X.prog X.w (upd H s.heap.objs.size (.tup [.int (i : Nat), x])) h2 s.heap.objs.size (.tup [.int (i : Nat), x]) :=
      ⟨show 2 ≤ sizeLine by decide, [.int i tk, x'], .cons ⟨_, rfl⟩ (.cons ru .nil), _, hT2, rfl, _, rfl⟩
    have I1 := I.turnedNew (t' := tk + 1) (ch := [e, it]) (fun b o hb q =>
      (sb.2 b fun z => hb (by simp [z])).trans (hk b o (fun z => hb (by simp [z])) (fun z => hb (by simp [z])) q)) hf (Nat.le_refl _) laid
    refine ⟨.ref s.heap.objs.size, _, I1, rfl, ⟨_, x, rfl, I.hok.fresh (Nat.le_refl _), rfl, fun ys hy => by rw [I.tuple_inj hy hq]; exact hx⟩,
      ⟨⟨x', ?_⟩, hst.1.at fun o q => (sb.2 it (Ne.symm hne)).trans q, hne⟩, fun b hb => ?_⟩
    · rw [show ((i + 1 : Nat) : Int) = (i : Int) + 1 by omega]
      exact he2
    · have hb2 : b < s.heap.objs.size := by
        rcases (show b = e ∨ b = it by simpa using hb) with rfl | rfl
        · exact hel
        · exact hil
      rw [upd_ne (Nat.ne_of_lt hb2)]
      exact (hf b hb).1
  done := by
    intro X hP hw hK hc i pins s σ H E I hf ⟨⟨old, he⟩, hit, hne⟩ ⟨xs, hq, hx⟩
    subst hP hw hK
    obtain ⟨its, rv, p, hz⟩ := I.tuple hq
    have hai : a ≠ it := fun z => by
      obtain ⟨o, ho, hcl, _⟩ := hit
      obtain ⟨o2, ho2, hcl2, _⟩ := id p
      rw [z, ho] at ho2
      cases ho2
      rw [hcl] at hcl2
      exact absurd hcl2 (by decide)
    have hh : X.A.in1.in1.handled = none := I.ok.hd hc
    have Dr := Draws.tuple (prog := X.prog) (w := X.w) (A := X.A.in1) hh it a hai its.toArray
    obtain ⟨f0, f1, f2, f3, f4, f5⟩ := hf it (by simp)
    have en : i = its.toArray.size := by
      rw [List.size_toArray, ← rv.length, hx]
    subst en
    exact wpAny_pyNext_enum_endD Dr he ⟨hit, p⟩ fun h' eb => ⟨rfl, I.turned (t' := s.toks) (fun b o hb q => eb b o hb q) f0 f1 f3 f4 f5⟩
  self := fun A i s Q E ⟨⟨_, he⟩, _⟩ h => wpAny_pyIter_enum he h

def iEnumT (K : PySem.W.Frag) (ta : TA) : TI := fun σ H R =>
  ta σ H fun vs H1 => ∃ (a : Addr) (xs : List V), vs = [.ref a] ∧ SqT K H1 a xs ∧ R (IteT K a) H1
theorem pi_enumT {X : Cx} (K : PySem.W.Frag) (hK : X.K = K) {e : Expr} {ta : TA} {p pos tpos : Pos} {elts : List Expr} {kk : Nat} (hg : Gl X "enumerate") (hm : X.mg "enumerate" = none)
    (ha : PA X [e] ta) (hs : starEach [e] X.env = [(false, eval e X.env)] := by rfl) :
    PI X (.Tuple elts kk tpos) (.Call (.Name "enumerate" p) [e] [] pos) (iEnumT K ta) := by
  subst hK
  refine ⟨fun pins s σ H R I h => ?_⟩
  refine Call_ (ld_blt I hg hm boot_enumerate (PyProof.Rows.callWith_type1 (thn (ha.run pos pins s σ H _ I h)
    fun us s1 ⟨vs, H1, I1, r1, a, xs, ex, hq, q⟩ => ?_) hs rfl))
  subst ex
  rcases r1 with _ | ⟨r, rr⟩
  rcases rr with _ | _
  cases r
  obtain ⟨its, rv, pt, hz⟩ := I1.tuple hq
  refine call_enum_of (begins_tuple a its.toArray) pt fun h' he hit hk => wpAny_pyIter_enum he ?_
  have I2 : Inv X pins σ H1 { s1 with heap := h' } := I1.kept (t' := s1.toks) hk
  refine ⟨s1.heap.objs.size + 1, [s1.heap.objs.size + 1, s1.heap.objs.size], _, _, H1, rfl, I2, turn_enumT a (s1.heap.objs.size + 1) s1.heap.objs.size,
    ⟨⟨.none, he⟩, ⟨_, hit, rfl, rfl⟩, Nat.succ_ne_self _⟩, fun b hb => ?_, q⟩
  have hle : s1.heap.objs.size ≤ b := by
    rcases (show b = s1.heap.objs.size + 1 ∨ b = s1.heap.objs.size by simpa using hb) with rfl | rfl
    · exact Nat.le_succ _
    · exact Nat.le_refl _
  exact I1.fpOk hle (I1.hok.fresh hle)
theorem walk_enumT {K : PySem.W.Frag} {a : Addr} {xs : List V} :
    Walk (IteT K a) xs.length (fun H => SqT K H a xs) (YPair (fun i => some (.int (i : Nat))) (fun i => xs[i]?)) :=
  ⟨fun i _ hi q => ⟨xs, xs[i], q, by simp [hi]⟩, fun _ q => ⟨xs, q, rfl⟩,
   fun i H v H' _ q ⟨T, x, h1, h2, h3, h4⟩ => ⟨T, .int (i : Nat), x, h1, h2, h3, rfl, h4 xs q⟩⟩

/-! list(text) -/
theorem paired_of {α β : Type} {R : α → β → Prop} : ∀ {xs : List α} {us : List β}, xs.length = us.length →
    (∀ (i : Nat) x u, xs[i]? = some x → us[i]? = some u → R x u) → Paired R xs us
  | [], [], _, _ => .nil
  | [], _ :: _, e, _ => by cases e
  | _ :: _, [], e, _ => by cases e
  | x :: xs, u :: us, e, h => .cons (h 0 x u rfl rfl) (paired_of (by simpa using e) fun i y v h1 h2 => h (i + 1) y v (by simpa using h1) (by simpa using h2))
/-- a text as the list of its signsV -/
def signsV (z : Str) : List V := z.cps.toList.map fun c => V.str ⟨#[c]⟩
theorem signsV_vals {x : Str} {acc : Array Value} (h : ItemsOf (SignAt x) acc x.cps.size) : Vals (signsV x) acc.toList := by
  obtain ⟨h1, h2⟩ := h
  refine paired_of (by simp [signsV, h1]) fun i y v e1 e2 => ?_
  obtain ⟨c, t, e3, rfl⟩ := h2 i v (by simpa using e2)
  have e4 : y = V.str ⟨#[c]⟩ := by
    simp only [signsV, List.getElem?_map, Array.getElem?_toList, e3, Option.map_some, Option.some.injEq] at e1
    exact e1.symm
  subst e4
  exact ⟨t, rfl⟩
theorem call_list_txt {X : Cx} (hc : X.calm = true) : CallR X (.type "list") (fun xs H Q =>
    ∃ z : Str, xs = [.str z] ∧ z.length ≤ sizeLine ∧ ∀ p, H p = none → Q (.ref p) (upd H p (.lst (signsV z)))) := by
  intro pins s σ H xs us Q I r ⟨z, ex, hz, q⟩
  subst ex
  obtain ⟨u, rfl, rx⟩ := vals1 r
  obtain ⟨t, rfl⟩ := rx
  refine call_list_str (hn := hz) (I.ok.hd hc) z t fun h' tk acc c' k e it => ?_
  have vs := signsV_vals it
  have hl : (signsV z).length ≤ sizeLine := by
    have e1 : (signsV z).length = z.cps.size := by simp [signsV]
    rw [e1]
    exact hz
  exact ⟨.ref s.heap.objs.size, _, I.laid (t' := tk) k (Nat.le_refl _) (show ObjOk X.prog X.w _ h' _ (.lst (signsV z)) from ⟨hl, acc.toList, c', vs, by simpa using e⟩),
    rfl, q _ (I.hok.fresh (Nat.le_refl _))⟩
section
variable {X : Cx}
/-- < of nested data, place by place of one kind -/
def rLtD (K : PySem.W.Frag) : R2 := fun x y H Q =>
  ∃ d e : PyData, (Dp K H x d ∧ Dp K H y e) ∧ PySem.W.alike d e = true ∧ (d ≠ .none ∧ d.depth ≤ 60) ∧ Q (.bl (PySem.W.dataLt d e)) H
theorem op_ltD (hu : X.A.units + 64 < cLine) : OpR X (compareOp .Lt) (rLtD X.K) := by
  intro pins s σ H x y v u Q I rx ry ⟨d, e, ⟨hd, he⟩, al, ⟨nn, dp⟩, q⟩
  obtain ⟨as, r1⟩ := Dp.reads I d x v hd rx
  obtain ⟨bs, r2⟩ := Dp.reads I e y u he ry
  have hr := PySem.W.rcLt_alike d e X.A s v u as bs r1 r2 al nn (by omega)
  exact hr _ _ _ _ ⟨.bl _, H, I, rfl, q⟩
end
end XT

/-! defs of the text with their promises, by name; the state of the draws -/
namespace XT
open PySem PySem.Spec PyProof.Rows L2
/-- the def x of the text keeps its promise -/
structure Cal (P : Program) (w : World) (K : PySem.W.Frag) (mg : Str → Option Value) (base : Heap) (k : Nat) (x : Str) (st : Stmt) (ps : List Str) (sp : Sp) : Prop where
  ex : ∃ (f : Addr) (fd : FuncData), FnOk P w K mg base CX0 k f fd ps sp ∧ Fun K x x st f fd ∧ Binds K fd ps [] ∧ mg x = some (.ref f)
theorem Cal.mk' {P : Program} {w : World} {K : PySem.W.Frag} {mg : Str → Option Value} {base : Heap} {k : Nat} {x : Str} {st : Stmt} {ps : List Str} {sp : Sp} {f : Addr} {fd : FuncData}
    (F : FnOk P w K mg base CX0 k f fd ps sp) (G : Fun K x x st f fd) (b : Binds K fd ps []) (m : mg x = some (.ref f)) : Cal P w K mg base k x st ps sp := ⟨f, fd, F, G, b, m⟩
section
variable {X : Cx} {k j : Nat} {x : Str} {st : Stmt} {ps : List Str} {sp : Sp} {p pos : Pos} {e : Expr} {es : List Expr} {t : TA}
theorem pe_cal (c : Cal X.prog X.w X.K X.mg X.base k x st ps sp) (hr : Room j X.A) (hk : k ≤ j) (hg : Gl X x) (ha : PA X (e :: es) t)
    (hdb : (x == ("__debug__" : Str)) = false := by decide) (he : starEach (e :: es) X.env = (false, eval e X.env) :: starEach es X.env := by rfl)
    (hpl : (backTo pos (starEach es X.env)).any (·.1) = false := by rfl) : PE X (.Call (.Name x p) (e :: es) [] pos) (tCall sp [] E0 t) := by
  obtain ⟨f, fd, F, G, b, m⟩ := c.ex
  exact pe_call F (hr.mono hk) hg m G.kp b .nil pass0 ha (hdb := hdb) (he := he) (hpl := hpl)
theorem pe_cal0 (c : Cal X.prog X.w X.K X.mg X.base k x st ps sp) (hr : Room j X.A) (hk : k ≤ j) (hg : Gl X x)
    (hdb : (x == ("__debug__" : Str)) = false := by decide) : PE X (.Call (.Name x p) [] [] pos) (tCall sp [] E0 tNil) := by
  obtain ⟨f, fd, F, G, b, m⟩ := c.ex
  exact pe_call0 F (hr.mono hk) hg m G.kp b .nil pass0 (hdb := hdb)
/-- how the keywords ks of a call of st bind -/
structure KwB (st : Stmt) (ps ks : List Str) (g : {α : Type} → List α → List α) : Prop where
  to : ∀ (x qual : Str) (kV doc pm : Value) (an : Option Addr) (cdv ct : Value) (ws : List Value), ws.length = ks.length →
    bindArgs (PySem.W.fnOf x qual (defArgs st) (defBody st) (defScope st) .none kV doc pm an cdv ct) ⟨[], ks.zip ws⟩ = pure (ps.zip (g ws))
  rel : ∀ {zs : List V} {ws : List Value}, zs.length = ks.length → Vals zs ws → Vals (g zs) (g ws)
def tCalK (n : Nat) (sp : Sp) (g : {α : Type} → List α → List α) (tk : TA) : TE := fun σ H Q => tk σ H fun zs H2 => zs.length = n ∧ sp (g zs) H2 Q E0
theorem pe_calK {ks : List Str} {g : {α : Type} → List α → List α} {kws : List Keyword} {tk : TA} (c : Cal X.prog X.w X.K X.mg X.base k x st ps sp) (hr : Room j X.A) (hk : k ≤ j) (hg : Gl X x)
    (hb : KwB st ps ks g) (hkw : PK X kws tk) (hall : (backToKw pos (keywordEach kws X.env)).all (·.1.isSome) = true := by rfl) (hks : (backToKw pos (keywordEach kws X.env)).filterMap (·.1) = ks := by rfl)
    (hdb : (x == ("__debug__" : Str)) = false := by decide)
    (hpl : ((backTo pos (starEach [] X.env)).any (·.1) || (backToKw pos (keywordEach kws X.env)).any (·.1.isNone)) = false := by rfl) :
    PE X (.Call (.Name x p) [] kws pos) (tCalK ks.length sp g tk) := by
  obtain ⟨f, fd, F, G, b, m⟩ := c.ex
  obtain ⟨oc, od, kV, doc, pm, an, cdv, ct, osl, efd, lk, hcd⟩ := G.ex
  refine ⟨fun pins s σ H Q I h => ?_⟩
  refine wpAny_Call_Name_kw (ld_glob I hg m ?_ hdb)
  refine PySem.W.callWith_KW0 (h₀ := X.base) I.ok.mod.kin G.kp hall ?_ hpl
  refine thn (hkw.run pos pins s σ H _ I h) fun ws s2 ⟨zs, H2, I2, rz, l2, q2⟩ => ⟨I2.kIn, ?_⟩
  rw [hks]
  have l3 : ws.length = ks.length := rz.length.symm.trans l2
  refine wpAny_call (codeAny_mono (F.run X.A X.stack s2 H2 ⟨[], ks.zip ws⟩ (g ws) (g zs) Q E0 (hr.mono hk) I2.env0 ?_ (hb.rel l2 rz) q2) fun r s' hq => ?_)
  · subst efd
    exact .of_eq (hb.to _ _ _ _ _ _ _ _ _ l3)
  · cases r with
    | error e => exact False.elim hq
    | ok fl =>
      cases fl with
      | ret u => exact I2.after hq
      | next => exact False.elim hq
      | brk => exact False.elim hq
      | cont => exact False.elim hq
end
/-! ### rules with K written out (for what stands within a comprehension) -/
section
variable {X : Cx} (K : PySem.W.Frag) (hK : X.K = K)
include hK
theorem ix_listK : IxR X (rIxL K) := by subst hK; exact ix_list
theorem ix_tupK : IxR X (rIxT K) := by subst hK; exact ix_tup
theorem ix_seqK : IxR X (rIx K) := by subst hK; exact ix_seq
theorem sl_listK : SlR X (rSlL K) := by subst hK; exact sl_list
theorem sl_tupAK : SlR X (rSlA K) := by subst hK; exact sl_tupA
theorem op_eqDK (hu : X.A.units + 64 < cLine) : OpR X (compareOp .Eq) (rEqD K) := by subst hK; exact op_eqD hu
theorem op_neDK (hu : X.A.units + 64 < cLine) : OpR X (compareOp .NotEq) (rNeD K) := by subst hK; exact op_neD hu
theorem op_ltDK (hu : X.A.units + 64 < cLine) : OpR X (compareOp .Lt) (rLtD K) := by subst hK; exact op_ltD hu
theorem op_in_seqK : OpR X (compareOp .In) (rIn K false) := by subst hK; exact op_in_seq
theorem op_notIn_seqK : OpR X (compareOp .NotIn) (rIn K true) := by subst hK; exact op_notIn_seq
theorem op_inDK (hu : X.A.units + 65 < cLine) : OpR X (compareOp .In) (rInD K) := by subst hK; exact op_inD hu
theorem op_notInDK (hu : X.A.units + 65 < cLine) : OpR X (compareOp .NotIn) (rNotInD K) := by subst hK; exact op_notInD hu
theorem op_catAK : OpR X (binaryOp .Add) (rCatA K) := by subst hK; exact op_catA
def rLenS (K : PySem.W.Frag) : List V → Hp → VK → Prop := fun xs H Q => ∃ p ys, xs = [.ref p] ∧ (SqL K H p ys ∨ SqT K H p ys) ∧ Q (.int ys.length) H
theorem call_len_seqK : CallR X (.builtin "len") (rLenS K) := by subst hK; exact call_len_seq
theorem call_isiK' : CallR X (.builtin "isinstance") (rIsi K) := by subst hK; exact call_isi
theorem call_isiTK : CallR X (.builtin "isinstance") (rIsiT K) := by subst hK; exact call_isiT
def rTupOf (K : PySem.W.Frag) : List V → Hp → VK → Prop := fun xs H Q => ∃ p ys, xs = [.ref p] ∧ ((SqL K H p ys ∧ ∀ l, H l = none → Q (.ref l) (upd H l (.tup ys))) ∨ (SqT K H p ys ∧ Q (.ref p) H))
theorem call_tuple_ofK : CallR X (.type "tuple") (rTupOf K) := by subst hK; exact call_tuple_of
def rLstOf (K : PySem.W.Frag) : List V → Hp → VK → Prop := fun xs H Q => ∃ p ys, xs = [.ref p] ∧ (SqL K H p ys ∨ SqT K H p ys) ∧ ∀ l, H l = none → Q (.ref l) (upd H l (.lst ys))
theorem call_list_ofK : CallR X (.type "list") (rLstOf K) := by subst hK; exact call_list_of
theorem cr_anyK (hc : X.calm = true) : CallR X (.builtin "any") (rAny K) := by subst hK; exact cr_any hc
theorem cr_allK (hc : X.calm = true) : CallR X (.builtin "all") (rAll K) := by subst hK; exact cr_all hc
theorem pi_listK {tg l : Expr} {tl : TE} (hl : PE X l tl) : PI X tg l (iList K tl) := by subst hK; exact pi_list hl
theorem pi_tupK {tg l : Expr} {tl : TE} (hl : PE X l tl) : PI X tg l (iTup K tl) := by subst hK; exact pi_tup hl
theorem pg_tupK (n : Nat) {pos : Pos} {es : List Expr} {k : Nat} {t : TGs} (hc : X.calm = true) (h : PGs X es t)
    (hn : (assignEach es X.env).length = n := by rfl) (hst : (assignEach es X.env).findIdx? (·.1) = none := by rfl) : PG X (.Tuple es k pos) (gTup K n t) := by subst hK; exact pg_tup hc h hn hst
end
theorem _root_.L2.Room.units65 {k : Nat} {A : Around} (r : Room k A) : A.units + 65 < cLine := by have := r.un; omega

/-! ### heaps -/
theorem same_new {H : Hp} {p : Addr} {o : HO} (h : H p = none) : Same H (upd H p o) := fun b u q => by rw [upd_ne (ne_of_none q h)]; exact q
/-- all but the state is as it was -/
def Kept (st : Addr) (H H' : Hp) : Prop := ∀ b o, b ≠ st → H b = some o → H' b = some o
theorem Kept.refl (st : Addr) (H : Hp) : Kept st H H := fun _ _ _ h => h
theorem Kept.trans {st : Addr} {H H1 H2 : Hp} (a : Kept st H H1) (b : Kept st H1 H2) : Kept st H H2 := fun c o n h => b c o n (a c o n h)
theorem Kept.new {st : Addr} {H : Hp} {p : Addr} {o : HO} (h : H p = none) : Kept st H (upd H p o) := fun b u _ q => by
  rw [upd_ne (ne_of_none q h)]; exact q
theorem Kept.own {st : Addr} {H : Hp} {o : HO} : Kept st H (upd H st o) := fun b u n q => by rw [upd_ne n]; exact q
theorem _root_.L2.Same.kept {st : Addr} {H H' : Hp} (h : Same H H') : Kept st H H' := fun b o _ q => h b o q
theorem Kept.seqT {st : Addr} {K : PySem.W.Frag} {H H' : Hp} {a : Addr} {xs ys : List V} (k : Kept st H H') (hs : H st = some (.lst ys)) (h : SqT K H a xs) : SqT K H' a xs := by
  rcases h with (h | ⟨o, h⟩) | h
  · exact .inl (.inl (k _ _ (fun e => by rw [e, hs] at h; cases h) h))
  · exact .inl (.inr ⟨o, k _ _ (fun e => by rw [e, hs] at h; cases h) h⟩)
  · exact .inr h
theorem _root_.L2.Same.seqT {K : PySem.W.Frag} {H H' : Hp} {a : Addr} {xs : List V} (e : Same H H') (h : SqT K H a xs) : SqT K H' a xs := by
  rcases h with (h | ⟨o, h⟩) | h
  · exact .inl (.inl (e _ _ h))
  · exact .inl (.inr ⟨o, e _ _ h⟩)
  · exact .inr h
end XT
namespace L2
open PySem PySem.Spec PyProof.Rows
mutual
/-- data without lists stay where tuples stay -/
theorem Dp.keep {K : PySem.W.Frag} {H H' : Hp} (hT : ∀ a xs, SqT K H a xs → SqT K H' a xs) (hL : ∀ a xs, SqL K H a xs → SqL K H' a xs) : ∀ {v : V} {d : PyData}, Dp K H v d → Dp K H' v d
  | _, _, .non => .non
  | _, _, .bl b => .bl b
  | _, _, .int i => .int i
  | _, _, .str x => .str x
  | _, _, .lst h a => .lst (hL _ _ h) (DpAll.keep hT hL a)
  | _, _, .tup h a => .tup (hT _ _ h) (DpAll.keep hT hL a)
theorem DpAll.keep {K : PySem.W.Frag} {H H' : Hp} (hT : ∀ a xs, SqT K H a xs → SqT K H' a xs) (hL : ∀ a xs, SqL K H a xs → SqL K H' a xs) : ∀ {vs : List V} {ds : List PyData}, DpAll K H vs ds → DpAll K H' vs ds
  | _, _, .nil => .nil
  | _, _, .cons h t => .cons (Dp.keep hT hL h) (DpAll.keep hT hL t)
end
theorem Dp.same {K : PySem.W.Frag} {H H' : Hp} (e : Same H H') {v : V} {d : PyData} (h : Dp K H v d) : Dp K H' v d := Dp.keep (fun _ _ q => e.seqT q) (fun _ _ q => e.seq q) h
theorem DpAll.same {K : PySem.W.Frag} {H H' : Hp} (e : Same H H') {v : List V} {d : List PyData} (h : DpAll K H v d) : DpAll K H' v d := DpAll.keep (fun _ _ q => e.seqT q) (fun _ _ q => e.seq q) h
end L2
namespace XT
open PySem PySem.Spec PyProof.Rows L2
end XT

/-! data: what is told of them, isinstance, texts, comprehensions over walks -/
namespace XT
open PySem PySem.Spec PyProof.Rows L2
end XT
namespace L2
open PySem PySem.Spec PyProof.Rows
/-! ### data -/
theorem Dp.tupI {K : PySem.W.Frag} {H : Hp} {v : V} {ds : List PyData} (h : Dp K H v (.tuple ds)) : ∃ a xs, v = .ref a ∧ SqT K H a xs ∧ DpAll K H xs ds := by
  cases h with
  | tup h1 h2 => exact ⟨_, _, rfl, h1, h2⟩
theorem Dp.lstI {K : PySem.W.Frag} {H : Hp} {v : V} {ds : List PyData} (h : Dp K H v (.list ds)) : ∃ a xs, v = .ref a ∧ SqL K H a xs ∧ DpAll K H xs ds := by
  cases h with
  | lst h1 h2 => exact ⟨_, _, rfl, h1, h2⟩
theorem DpAll.len {K : PySem.W.Frag} {H : Hp} : ∀ {xs : List V} {ds : List PyData}, DpAll K H xs ds → xs.length = ds.length
  | _, _, .nil => rfl
  | _, _, .cons _ t => congrArg Nat.succ (DpAll.len t)
theorem DpAll.get {K : PySem.W.Frag} {H : Hp} : ∀ {xs : List V} {ds : List PyData} {i : Nat} {d : PyData}, DpAll K H xs ds → ds[i]? = some d → ∃ v, xs[i]? = some v ∧ Dp K H v d
  | _, _, _, _, .nil, h => by simp at h
  | _, _, 0, _, .cons h _, e => by
    cases (show some _ = some _ from e)
    exact ⟨_, rfl, h⟩
  | _, _, i + 1, _, .cons _ t, e => DpAll.get (i := i) t e
theorem DpAll.of_get {K : PySem.W.Frag} {H : Hp} : ∀ {xs : List V} {ds : List PyData}, xs.length = ds.length → (∀ (i : Nat) (v : V) (d : PyData), xs[i]? = some v → ds[i]? = some d → Dp K H v d) → DpAll K H xs ds
  | [], [], _, _ => .nil
  | [], _ :: _, e, _ => by cases e
  | _ :: _, [], e, _ => by cases e
  | x :: xs, d :: ds, e, h => .cons (h 0 x d rfl rfl) (DpAll.of_get (Nat.succ.inj e) fun i v d h1 h2 => h (i + 1) v d h1 h2)
theorem DpAll.ints {K : PySem.W.Frag} {H : Hp} : ∀ (l : List Int), DpAll K H (l.map V.int) (l.map PyData.int)
  | [] => .nil
  | _ :: l => .cons (.int _) (DpAll.ints l)
theorem DpAll.ints_inv {K : PySem.W.Frag} {H : Hp} : ∀ {xs : List V} (l : List Int), DpAll K H xs (l.map PyData.int) → xs = l.map V.int
  | _, [], .nil => rfl
  | _, _ :: l, .cons h t => by
    cases h
    rw [DpAll.ints_inv l t]
    rfl
theorem DpAll.append {K : PySem.W.Frag} {H : Hp} : ∀ {xs ys : List V} {ds es : List PyData}, DpAll K H xs ds → DpAll K H ys es → DpAll K H (xs ++ ys) (ds ++ es)
  | _, _, _, _, .nil, t => t
  | _, _, _, _, .cons h r, t => .cons h (DpAll.append r t)
end L2
namespace XT
open PySem PySem.Spec PyProof.Rows L2
/-- at most n levels, rows of at most 100000 -/
def okD : Nat → PyData → Prop
  | 0, _ => False
  | n + 1, .list ds => ds.length ≤ 100000 ∧ ∀ d ∈ ds, okD n d
  | n + 1, .tuple ds => ds.length ≤ 100000 ∧ ∀ d ∈ ds, okD n d
  | _ + 1, _ => True
def tyN : PyData → String
  | .none => "NoneType"
  | .bool _ => "bool"
  | .int _ => "int"
  | .str _ => "str"
  | .list _ => "list"
  | .tuple _ => "tuple"
  | .dict _ => "dict"
theorem SqT.ty {K : PySem.W.Frag} {H : Hp} {a : Addr} {xs : List V} (h : SqT K H a xs) : TyX K H (.ref a) (.type "tuple") := by
  rcases h with (h | ⟨o, h⟩) | ⟨o, its, n, hk, hc, _⟩
  · exact .base (.tup h)
  · exact .fTuple h
  · exact .kTuple hk hc
theorem SqL.ty {K : PySem.W.Frag} {H : Hp} {a : Addr} {xs : List V} (h : SqL K H a xs) : TyX K H (.ref a) (.type "list") := by
  rcases h with (h | ⟨o, h⟩) | ⟨o, its, n, hk, hc, _⟩
  · exact .base (.lst h)
  · exact .base (.frz h)
  · exact .kList hk hc
end XT
namespace L2
open PySem PySem.Spec PyProof.Rows XT
theorem Dp.ty {K : PySem.W.Frag} {H : Hp} {v : V} {d : PyData} (h : Dp K H v d) : TyX K H v (.type (tyN d)) := by
  cases h with
  | non => exact .base .non
  | bl b => exact .base (.bl b)
  | int i => exact .base (.int i)
  | str x => exact .base (.str x)
  | lst h _ => exact SqL.ty h
  | tup h _ => exact SqT.ty h
end L2
namespace XT
open PySem PySem.Spec PyProof.Rows L2
theorem rd_isi {K : PySem.W.Frag} {H : Hp} {x : V} {T C : String} {b : Bool} {Q : VK} (ty : TyX K H x (.type T)) (h : kitB T C = some b) (q : Q (.bl b) H) : rIsi K [x, .ty C] H Q :=
  ⟨x, .ty C, .type T, .type C, b, rfl, .ty C, ty, kit_ty h, q⟩
/-! ### texts -/
theorem join_len : ∀ ys : List Str, (Txt.join Str.empty ys).length = (ys.map (·.length)).sum := by
  have go : ∀ ys : List Str, (Str.join Str.empty ys).length = (ys.map (·.length)).sum := by
    intro ys
    induction ys with
    | nil => rfl
    | cons x r ih =>
      cases r with
      | nil => simp [Str.join]
      | cons z r =>
        show (x ++ Str.empty ++ Str.join Str.empty (z :: r)).length = _
        rw [PySem.Str.length_append, PySem.Str.length_append, ih]
        simp only [List.map_cons, List.sum_cons]
        show x.length + 0 + _ = _
        omega
  intro ys
  rw [TL.join_eq, go]
theorem sum_le {l : List Nat} {c : Nat} (h : ∀ x ∈ l, x ≤ c) : l.sum ≤ l.length * c := by
  induction l with
  | nil => simp
  | cons a l ih =>
    have h1 := h a List.mem_cons_self
    have h2 := ih fun x hx => h x (List.mem_cons_of_mem _ hx)
    rw [List.sum_cons, List.length_cons, Nat.succ_mul]
    omega
theorem atI_pick {α : Type} {l : List α} {d : Int} (h0 : 0 ≤ d) (h1 : d < (l.length : Int)) : ∃ c, atI l d = some c ∧ c ∈ l := by
  obtain ⟨j, rfl⟩ := Int.eq_ofNat_of_zero_le h0
  have hj : j < l.length := by omega
  exact ⟨l[j], atI_nat (List.getElem?_eq_getElem hj), List.getElem_mem hj⟩
theorem Kept.over {st D : Addr} {H H' : Hp} {o : HO} (h : H D = none) (k : Kept st H H') : Kept st H (upd H' D o) := fun b u n e => by
  rw [upd_ne (ne_of_none e h)]
  exact k b u n e
theorem yes_ {F G : Hp → Prop} {σ : L2.St} {H : Hp} (h : F H) : tYes σ H (fun b H3 => if b = true then F H3 else G H3) := L2.iteT (B := G H) h
/-! ### comprehensions with two walks -/
/-- what the inner walk asks -/
def InL (Nx : Hp → Prop) (g1 : TG) (tt1 : TT) (te : TE) (D : Addr) (vs1 : List Nat) (σ2 : L2.St) : It → Hp → Prop := fun J1 H4 => ∃ W1 : Nat → Nat → Hp → Prop, (∃ m, W1 0 m H4) ∧ ∀ j k H, W1 j k H →
  (J1.stop j H ∧ Nx H) ∨ (J1.go j H ∧ ∃ Nx1 : Hp → Prop, (∀ H', Nx1 H' → ∃ k', k' < k ∧ W1 (j + 1) k' H') ∧ ∀ x H', J1.yld j H x H' → g1 x (wipe σ2 vs1) H' fun σ3 H5 => wipe σ3 vs1 = wipe σ2 vs1 ∧ tt1 σ3 H5 fun b H6 =>
    if b = true then te σ3 H6 fun y H7 => ∃ acc, H7 D = some (.lst acc) ∧ acc.length < sizeLine ∧ Nx1 (upd H7 D (.lst (acc ++ [y]))) else Nx1 H6)
theorem in_it {J : It} {n : Nat} {G : Hp → Prop} {Y : Nat → Hp → V → Hp → Prop} (w : Walk J n G Y) {g : TG} {tt : TT} {te : TE} {vs : List Nat} {σ : L2.St} {H1 : Hp} {D : Addr} {Nx : Hp → Prop} (Pv : Nat → Hp → Prop)
    (h0 : Pv 0 H1) (hG : ∀ i H, i ≤ n → Pv i H → G H)
    (hs : ∀ i x H H', i < n → Pv i H → Y i H x H' → g x (wipe σ vs) H' fun σ2 H2 => wipe σ2 vs = wipe σ vs ∧ tt σ2 H2 fun b H3 =>
      if b = true then te σ2 H3 fun y H4 => ∃ acc, H4 D = some (.lst acc) ∧ acc.length < sizeLine ∧ Pv (i + 1) (upd H4 D (.lst (acc ++ [y]))) else Pv (i + 1) H3)
    (hd : ∀ H, Pv n H → Nx H) : InL Nx g tt te D vs σ J H1 := by
  refine ⟨fun i m H => m = n - i ∧ i ≤ n ∧ Pv i H, ⟨n, rfl, Nat.zero_le _, h0⟩, ?_⟩
  rintro i m H ⟨rfl, hi, p⟩
  have q := hG i H hi p
  rcases Nat.lt_or_ge i n with hlt | hge
  · exact .inr ⟨w.goes i H hlt q, Pv (i + 1), fun H' p' => ⟨n - (i + 1), by omega, rfl, hlt, p'⟩, fun x H' y => hs i x H H' hlt p (w.yields i H x H' hlt q y)⟩
  · obtain rfl : i = n := Nat.le_antisymm hi hge
    exact .inl ⟨w.stops H q, hd H p⟩
theorem lc2_it {J : It} {n : Nat} {G : Hp → Prop} {Y : Nat → Hp → V → Hp → Prop} (w : Walk J n G Y) {g : TG} {tt : TT} {wi1 : TI} {g1 : TG} {tt1 : TT} {te : TE} {vs vs1 : List Nat} {σ : L2.St} {H1 : Hp} {D : Addr} {Qd : Hp → Prop}
    (Pv : Nat → Hp → Prop) (h0 : Pv 0 (upd H1 D (.lst []))) (hG : ∀ i H, i ≤ n → Pv i H → G H)
    (hs : ∀ i x H H', i < n → Pv i H → Y i H x H' → g x (wipe σ vs) H' fun σ2 H2 => wipe σ2 vs = wipe σ vs ∧ tt σ2 H2 fun b H3 =>
      if b = true then wi1 σ2 H3 (InL (Pv (i + 1)) g1 tt1 te D vs1 σ2) else Pv (i + 1) H3)
    (hd : ∀ H, Pv n H → Qd H) :
    ∃ W : Nat → Nat → Hp → Prop, (∃ m, W 0 m (upd H1 D (.lst []))) ∧ ∀ i m H, W i m H →
      (J.stop i H ∧ Qd H) ∨ (J.go i H ∧ ∃ Nx : Hp → Prop, (∀ H', Nx H' → ∃ m', m' < m ∧ W (i + 1) m' H') ∧ ∀ x H', J.yld i H x H' → g x (wipe σ vs) H' fun σ2 H2 => wipe σ2 vs = wipe σ vs ∧ tt σ2 H2 fun b H3 =>
        if b = true then wi1 σ2 H3 (InL Nx g1 tt1 te D vs1 σ2) else Nx H3) := by
  refine ⟨fun i m H => m = n - i ∧ i ≤ n ∧ Pv i H, ⟨n, rfl, Nat.zero_le _, h0⟩, ?_⟩
  rintro i m H ⟨rfl, hi, p⟩
  have q := hG i H hi p
  rcases Nat.lt_or_ge i n with hlt | hge
  · exact .inr ⟨w.goes i H hlt q, Pv (i + 1), fun H' p' => ⟨n - (i + 1), by omega, rfl, hlt, p'⟩, fun x H' y => hs i x H H' hlt p (w.yields i H x H' hlt q y)⟩
  · obtain rfl : i = n := Nat.le_antisymm hi hge
    exact .inl ⟨w.stops H q, hd H p⟩
/-! ### languages -/
structure Lg where
  sorts : Nat
  rels : List (Str × List Nat)
def intsV (l : List Nat) : List V := l.map fun n : Nat => V.int (n : Int)
structure LgOk (L : Lg) : Prop where
  lo : 1 ≤ L.sorts
  hi : L.sorts ≤ 4
  few : L.rels.length ≤ 16
  pl : ∀ r ∈ L.rels, 1 ≤ r.2.length ∧ r.2.length ≤ 4 ∧ ∀ s ∈ r.2, s < L.sorts
/-- the language L stands at t -/
def LangAt (K : PySem.W.Frag) (H : Hp) (t : Addr) (L : Lg) : Prop := ∃ (rt : Addr) (rs : List (Addr × Addr)),
  SqT K H t [.int (L.sorts : Int), .ref rt] ∧ SqT K H rt (rs.map fun p => .ref p.1) ∧ rs.length = L.rels.length ∧
  ∀ (i : Nat) (p : Addr × Addr) (r : Str × List Nat), rs[i]? = some p → L.rels[i]? = some r → SqT K H p.1 [.str r.1, .ref p.2] ∧ SqT K H p.2 (intsV r.2)
theorem LangAt.keep {K : PySem.W.Frag} {H H' : Hp} {t : Addr} {L : Lg} (hT : ∀ a xs, SqT K H a xs → SqT K H' a xs) (h : LangAt K H t L) : LangAt K H' t L := by
  obtain ⟨rt, rs, h1, h2, h3, h4⟩ := h
  exact ⟨rt, rs, hT _ _ h1, hT _ _ h2, h3, fun i p r e1 e2 => ⟨hT _ _ (h4 i p r e1 e2).1, hT _ _ (h4 i p r e1 e2).2⟩⟩
theorem LangAt.same {K : PySem.W.Frag} {H H' : Hp} {t : Addr} {L : Lg} (e : Same H H') (h : LangAt K H t L) : LangAt K H' t L := h.keep fun _ _ q => e.seqT q
end XT

/-! draws out of a state that is a list: what holds of it, comprehensions of draws -/
namespace XT
open PySem PySem.Spec PyProof.Rows L2
theorem _root_.L2.Same.over {D : Addr} {H H' : Hp} {o : HO} (h : H D = none) (k : Same H H') : Same H (upd H' D o) := fun b u e => by
  rw [upd_ne (ne_of_none e h)]
  exact k b u e
/-- tuples stay -/
def Tups (H H' : Hp) : Prop := ∀ (K : PySem.W.Frag) (a : Addr) (xs : List V), SqT K H a xs → SqT K H' a xs
theorem Tups.refl (H : Hp) : Tups H H := fun _ _ _ h => h
theorem Tups.trans {H H1 H2 : Hp} (a : Tups H H1) (b : Tups H1 H2) : Tups H H2 := fun K c xs h => b K c xs (a K c xs h)
theorem Tups.same {H H' : Hp} (e : Same H H') : Tups H H' := fun _ _ _ h => e.seqT h
theorem Tups.lst {H : Hp} {D : Addr} {xs : List V} {o : HO} (e : H D = some (.lst xs)) : Tups H (upd H D o) := fun K a zs h =>
  Kept.seqT (st := D) Kept.own e h
theorem Tups.new {H : Hp} {D : Addr} {o : HO} (e : H D = none) : Tups H (upd H D o) := Tups.same (same_new e)
/-- S holds of the heap while the list at st is a state of draws -/
structure Drw (st : Addr) (S : Hp → Prop) : Prop where
  lst : ∀ H, S H → ∃ xs, H st = some (.lst xs)
  fresh : ∀ H D, S H → H D = none → D ≠ st ∧ ∀ H' o, S H' → S (upd H' D o)
theorem Drw.new {st : Addr} {S : Hp → Prop} (W : Drw st S) {H : Hp} {D : Addr} {o : HO} (s : S H) (h : H D = none) : S (upd H D o) := (W.fresh H D s h).2 H o s
theorem Drw.seqT {st : Addr} {S : Hp → Prop} (W : Drw st S) {K : PySem.W.Frag} {H H' : Hp} {a : Addr} {xs : List V} (s : S H) (k : Kept st H H') (h : SqT K H a xs) : SqT K H' a xs := by
  obtain ⟨ys, e⟩ := W.lst H s
  exact k.seqT e h
theorem Drw.lang {st : Addr} {S : Hp → Prop} (W : Drw st S) {K : PySem.W.Frag} {H H' : Hp} {t : Addr} {L : Lg} (s : S H) (k : Kept st H H') (h : LangAt K H t L) : LangAt K H' t L := h.keep fun _ _ q => W.seqT s k q
theorem Drw.tups {st : Addr} {S : Hp → Prop} (W : Drw st S) {H H' : Hp} (s : S H) (k : Kept st H H') : Tups H H' := fun _ _ _ h => W.seqT s k h
/-- [e for k in range(n)], e a draw -/
theorem lc_draw {st : Addr} {S : Hp → Prop} (W : Drw st S) {n iv : Nat} {te : TE} {vs : List Nat} {σ : L2.St} {H1 : Hp} {D : Addr} {Qd : Hp → Prop} (P : Hp → V → Prop)
    (mono : ∀ H H' v, Tups H H' → P H v → P H' v) (hn : n ≤ 1000) (h1 : S H1) (nD : H1 D = none) (hw : ∀ x, wipe ((wipe σ vs).set iv x) vs = wipe σ vs)
    (hte : ∀ (i : Nat) (H3 : Hp), i < n → S H3 → Kept st H1 H3 → ∀ Q' : VK, (∀ y H4, P H4 y → Kept st H3 H4 → S H4 → Q' y H4) → te ((wipe σ vs).set iv (some (.int (0 + (i : Nat))))) H3 Q')
    (hd : ∀ (H' : Hp) (xs : List V), xs.length = n → (∀ v ∈ xs, P H' v) → H' D = some (.lst xs) → Kept st H1 H' → S H' → Qd H') :
    ∃ W : Nat → Nat → Hp → Prop, (∃ m, W 0 m (upd H1 D (.lst []))) ∧ ∀ i m H, W i m H →
      ((Itr 0 n).stop i H ∧ Qd H) ∨ ((Itr 0 n).go i H ∧ ∃ Nx : Hp → Prop, (∀ H', Nx H' → ∃ m', m' < m ∧ W (i + 1) m' H') ∧ ∀ x H', (Itr 0 n).yld i H x H' → gName iv x (wipe σ vs) H' fun σ2 H2 => wipe σ2 vs = wipe σ vs ∧ tYes σ2 H2 fun b H3 =>
        if b = true then te σ2 H3 fun y H4 => ∃ acc, H4 D = some (.lst acc) ∧ acc.length < sizeLine ∧ Nx (upd H4 D (.lst (acc ++ [y]))) else Nx H3) := by
  have nst := (W.fresh H1 D h1 nD).1
  have put := (W.fresh H1 D h1 nD).2
  refine lc_range (fun i H' => ∃ xs : List V, H' D = some (.lst xs) ∧ xs.length = i ∧ (∀ v ∈ xs, P H' v) ∧ Kept st H1 H' ∧ S H') ⟨[], upd_same, rfl, by simp, Kept.new nD, W.new h1 nD⟩ ?_ ?_
  · rintro i H3 hi ⟨xs, f1, f2, f3, f4, f5⟩
    refine ⟨hw _, yes_ ?_⟩
    refine hte i H3 hi f5 f4 _ fun y H4 py k4 s4 => ?_
    have eD := k4 _ _ nst f1
    refine ⟨xs, eD, small1000 (by omega), xs ++ [y], upd_same, by simp [f2], fun v hv => ?_, Kept.over nD (f4.trans k4), put _ _ s4⟩
    refine mono _ _ v (Tups.lst eD) ?_
    rcases List.mem_append.mp hv with hv | hv
    · exact mono _ _ v (W.tups f5 k4) (f3 v hv)
    · rw [List.mem_singleton.mp hv]
      exact py
  · rintro H' ⟨xs, f1, f2, f3, f4, f5⟩
    exact hd H' xs f2 f3 f1 f4 f5
end XT

/-! the draws of the family «take» -/
namespace XT
open PySem PySem.Spec PyProof.Rows L2
/-- the state of the draws at st, its cells at c -/
def StAt (st c : Addr) (ns : List Int) (H : Hp) : Prop := ∃ (a i k sd n : Int),
  H st = some (.lst [.int a, .int i, .int k, .int sd, .ref c, .int n]) ∧ H c = some (.lst (ns.map V.int)) ∧ 0 ≤ i ∧ i ≤ ns.length ∧ c ≠ st
theorem drw (st c : Addr) (ns : List Int) : Drw st (StAt st c ns) where
  lst := fun H ⟨a, i, k, sd, n, e, _⟩ => ⟨_, e⟩
  fresh := fun H D ⟨a, i, k, sd, n, e1, e2, _⟩ hD => ⟨(ne_of_none e1 hD).symm, fun H' o ⟨a', i', k', sd', n', f1, f2, r⟩ =>
    ⟨a', i', k', sd', n', by rw [upd_ne (ne_of_none e1 hD)]; exact f1, by rw [upd_ne (ne_of_none e2 hD)]; exact f2, r⟩⟩
/-! texts of one sign -/
def One (v : V) : Prop := ∃ c : Nat, v = .str ⟨#[c]⟩
theorem one_len (c : Nat) : (⟨#[c]⟩ : Str).length = 1 := rfl
theorem ones_strs : ∀ {xs : List V}, (∀ v ∈ xs, One v) → ∃ ys : List Str, xs = ys.map V.str ∧ ∀ y ∈ ys, y.length ≤ 1
  | [], _ => ⟨[], rfl, by simp⟩
  | x :: xs, h => by
    obtain ⟨c, rfl⟩ := h x List.mem_cons_self
    obtain ⟨ys, rfl, h2⟩ := ones_strs fun v hv => h v (List.mem_cons_of_mem _ hv)
    refine ⟨⟨#[c]⟩ :: ys, rfl, fun y hy => ?_⟩
    rcases List.mem_cons.mp hy with rfl | hy
    · exact Nat.le_refl 1
    · exact h2 y hy
theorem ones_signs (z : Str) : ∀ v ∈ signsV z, One v := fun v hv => by
  obtain ⟨c, _, rfl⟩ := List.mem_map.mp hv
  exact ⟨c, rfl⟩
theorem empty_eq : (Str.ofString "") = Str.empty := by decide
theorem word_len {ys : List Str} {n : Nat} (hn : ys.length ≤ n) (h : ∀ y ∈ ys, y.length ≤ 1) : (Txt.join Str.empty ys).length ≤ n := by
  rw [join_len]
  have z := sum_le (l := ys.map (·.length)) (c := 1) fun x hx => by
    obtain ⟨y, hy, rfl⟩ := List.mem_map.mp hx
    exact h y hy
  rw [List.length_map] at z
  omega
theorem word_sum {ys : List Str} {n : Nat} (hn : ys.length ≤ n) (h : ∀ y ∈ ys, y.length ≤ 1) (h2 : n ≤ 1000) : (ys.map (·.length)).sum + ys.length * (Str.empty).length ≤ 16777216 := by
  have z := sum_le (l := ys.map (·.length)) (c := 1) fun x hx => by
    obtain ⟨y, hy, rfl⟩ := List.mem_map.mp hx
    exact h y hy
  rw [List.length_map] at z
  have e : (Str.empty).length = 0 := rfl
  rw [e]
  omega
/-- numbers of a list below a bound -/
def Nums (B : Nat) (v : V) : Prop := ∃ x : Nat, v = .int (x : Int) ∧ x < B
theorem nums_ints : ∀ {B : Nat} {xs : List V}, (∀ v ∈ xs, Nums B v) → ∃ l : List Nat, xs = intsV l ∧ ∀ x ∈ l, x < B
  | _, [], _ => ⟨[], rfl, by simp⟩
  | B, x :: xs, h => by
    obtain ⟨n, rfl, hn⟩ := h x List.mem_cons_self
    obtain ⟨l, rfl, h2⟩ := nums_ints (B := B) fun v hv => h v (List.mem_cons_of_mem _ hv)
    refine ⟨n :: l, rfl, fun y hy => ?_⟩
    rcases List.mem_cons.mp hy with rfl | hy
    · exact hn
    · exact h2 y hy
theorem seqIx {d : Int} {n : Nat} (h0 : 0 ≤ d) (h1 : d < (n : Int)) : seqIndex? d n = some d.toNat := by
  unfold seqIndex?
  simp
  omega
end XT

/-! max(xs, default=d) of a list of ints -/
namespace XT
open PySem PySem.Spec PyProof.Rows L2
abbrev dfl (d : Value) : List (Str × Value) := [(Str.ofString "default", d)]
theorem args_max_dfl (a d : Value) : argsOk "max" ⟨[a], dfl d⟩ := by unfold argsOk; kernel_rfl
theorem max_loop_name : (toString "max" ++ toString ".loop" : String) = "max.loop" := by decide
section
variable {prog : Program} {w : World} {A : Around} {R : Result → Shared → Prop} {I S : Addr} {fp wr : List Addr} {n : Nat} {St : Nat → Heap → Prop}
abbrev listObj (xs : Array Value) (c : Nat) : Obj := { cls := .type "list", dict := none, data := .seq xs c, slots := #[] }
theorem mxd_loop (kf : Nat → Int) (d : Value) (W : Walks prog w A.in1 I fp wr n (fun i v => ∃ t, v = .int (kf i) t) St) (hSf : S ∉ fp) :
    ∀ (k j i : Nat) (s : Shared) (tb : Tok) (c : Nat), n - (j + 1) = k → j + 1 ≤ n → i ≤ j → (∀ j', j' ≤ j → kf j' ≤ kf i) → St (j + 1) s.heap → s.heap.get? S = some (listObj #[.int (kf i) tb, .int (kf i) tb] c) →
    (∀ i h' tk t, i < n → (∀ j, j < n → kf j ≤ kf i) → (∀ b o, b ∉ wr → b ≠ S → s.heap.get? b = some o → h'.get? b = some o) → R (.ok (.ret (.int (kf i) t))) { s with heap := h', toks := tk }) →
    codeAny (model prog w) A (.builtin "max.loop" ⟨[.ref I, .none, .ref S], dfl d⟩) R s := by
  have hSw : S ∉ wr := fun h => hSf (W.sub _ h)
  intro k
  induction k with
  | zero =>
    intro j i s tb c hk hj hij hb hst hS hR
    have hin : j + 1 = n := by omega
    refine codeAny_builtin F.entry_max_loop ?_
    rw [Around.under_plainId F.plain_max_loop _]
    show wpAny _ A.in1 (seqItems? (.ref S) >>= _) _ _ s
    refine wpAny_bind (wpAny_seqItems hS rfl ?_)
    show wpAny _ A.in1 (tryCatch (pyNext (.ref I)) _ >>= _) _ _ s
    refine wpAny_bind (wpAny_tryCatch (W.done s _ _ (hin ▸ hst) fun h' tk hk' => ?_))
    have hS' := hk' S _ hSw hS
    show wpAny _ A.in1 (updateSeq S (fun _ => #[]) >>= _) _ _ _
    refine wpAny_bind ?_
    refine wpAny_updateSeq hS' rfl (wpAny_bind (wpAny_letGo (wpAny_pure ?_)))
    exact hR i _ tk tb (by omega) (fun j' h => hb j' (by omega)) fun b o hbw hbS e => (Heap.get?_update_other _ _ (Ne.symm hbS)).trans (hk' b o hbw e)
  | succ k ih =>
    intro j i s tb c hk hj hij hb hst hS hR
    have hlt : j + 1 < n := by omega
    refine codeAny_builtin F.entry_max_loop ?_
    rw [Around.under_plainId F.plain_max_loop _]
    show wpAny _ A.in1 (seqItems? (.ref S) >>= _) _ _ s
    refine wpAny_bind (wpAny_seqItems hS rfl ?_)
    show wpAny _ A.in1 (tryCatch (pyNext (.ref I)) _ >>= _) _ _ s
    refine wpAny_bind (wpAny_tryCatch (W.item (j + 1) s _ _ hlt hst fun v h' tk hP hst' hk' => ?_))
    obtain ⟨tv, rfl⟩ := hP
    have hS' := hk' S _ hSw hS
    show wpAny _ A.in1 (tryCatch (holding [.int (kf (j + 1)) tv, .int (kf (j + 1)) tv] (richCompare .Gt (.int (kf (j + 1)) tv) (.int (kf i) tb) >>= _)) _ >>= _) _ _ _
    refine wpAny_bind (wpAny_tryCatch (wpAny_holding (wpAny_bind (CmpOf.ints_gt (prog := prog) (w := w) (A := A.in1) (P := fun i v => ∃ t, v = .int (kf i) t) kf (fun i v h => h) (j + 1) i _ _ _ _ _ ⟨tv, rfl⟩ ⟨tb, rfl⟩ ?_))))
    refine wpAny_bind (wpAny_holding (wpAny_truthy_bool ?_))
    refine wpAny_bind (wpAny_letGo (wpAny_pure ?_))
    by_cases hc : kf (j + 1) > kf i
    · simp only [hc, decide_true, if_true]
      refine wpAny_bind ?_
      refine wpAny_updateSeq hS' rfl (wpAny_bind (wpAny_letGo ?_))
      rw [max_loop_name]
      refine wpAny_pure ⟨plainId_quiet F.plain_max_loop _, ih (j + 1) (j + 1) _ tv _ (by omega) hlt (Nat.le_refl _) (fun j' h => ?_) (W.frame _ _ _ hst' fun b hbf o e => ?_) (Heap.get?_update_self _ hS' rfl) fun i' h'' tk'' t' h1 h2 hk'' => ?_⟩
      · rcases Nat.lt_or_ge j' (j + 1) with h3 | h3
        · have := hb j' (by omega)
          omega
        · rw [show j' = j + 1 by omega]
          omega
      · exact (Heap.get?_update_other _ _ (fun h : S = b => hSf (by rw [h]; exact hbf))).trans e
      · exact hR i' h'' tk'' t' h1 h2 fun b o hbw hbS e => hk'' b o hbw hbS ((Heap.get?_update_other _ _ (Ne.symm hbS)).trans (hk' b o hbw e))
    · simp only [hc, decide_false, Bool.false_eq_true, if_false]
      refine wpAny_bind (wpAny_letGo ?_)
      rw [max_loop_name]
      refine wpAny_pure ⟨plainId_quiet F.plain_max_loop _, ih (j + 1) i _ tb c (by omega) hlt (by omega) (fun j' h => ?_) hst' hS' fun i' h'' tk'' t' h1 h2 hk'' => ?_⟩
      · rcases Nat.lt_or_ge j' (j + 1) with h3 | h3
        · exact hb j' (by omega)
        · rw [show j' = j + 1 by omega]
          omega
      · exact hR i' h'' tk'' t' h1 h2 fun b o hbw hbS e => hk'' b o hbw hbS (hk' b o hbw e)
theorem mxd_first (kf : Nat → Int) (d : Value) (W : Walks prog w A.in1 I fp wr n (fun i v => ∃ t, v = .int (kf i) t) St) (hSf : S ∉ fp) {s : Shared} {c : Nat} (hst : St 0 s.heap) (hS : s.heap.get? S = some (listObj #[] c))
    (h0 : n = 0 → ∀ h' tk, (∀ b o, b ∉ wr → b ≠ S → s.heap.get? b = some o → h'.get? b = some o) → R (.ok (.ret d)) { s with heap := h', toks := tk })
    (hR : ∀ i h' tk t, i < n → (∀ j, j < n → kf j ≤ kf i) → (∀ b o, b ∉ wr → b ≠ S → s.heap.get? b = some o → h'.get? b = some o) → R (.ok (.ret (.int (kf i) t))) { s with heap := h', toks := tk }) :
    codeAny (model prog w) A (.builtin "max.loop" ⟨[.ref I, .none, .ref S], dfl d⟩) R s := by
  have hSw : S ∉ wr := fun h => hSf (W.sub _ h)
  refine codeAny_builtin F.entry_max_loop ?_
  rw [Around.under_plainId F.plain_max_loop _]
  show wpAny _ A.in1 (seqItems? (.ref S) >>= _) _ _ s
  refine wpAny_bind (wpAny_seqItems hS rfl ?_)
  show wpAny _ A.in1 (tryCatch (pyNext (.ref I)) _ >>= _) _ _ s
  rcases Nat.eq_zero_or_pos n with hn | hn
  · subst hn
    refine wpAny_bind (wpAny_tryCatch (W.done s _ _ hst fun h' tk hk' => ?_))
    show wpAny _ A.in1 (rule _ >>= _) _ _ _
    refine wpAny_bind (wpAny_rule (wpAny_pure ?_))
    exact h0 rfl h' tk fun b o hbw _ e => hk' b o hbw e
  · refine wpAny_bind (wpAny_tryCatch (W.item 0 s _ _ hn hst fun v h' tk hP hst' hk' => ?_))
    obtain ⟨tv, rfl⟩ := hP
    have hS' := hk' S _ hSw hS
    show wpAny _ A.in1 (updateSeq S (fun _ => #[.int (kf 0) tv, .int (kf 0) tv]) >>= _) _ _ _
    refine wpAny_bind ?_
    refine wpAny_updateSeq hS' rfl ?_
    rw [max_loop_name]
    refine wpAny_pure ⟨plainId_quiet F.plain_max_loop _, mxd_loop kf d W hSf _ 0 0 _ tv _ rfl hn (Nat.le_refl _) (fun j' h => ?_) (W.frame _ _ _ hst' fun b hbf o e => ?_) (Heap.get?_update_self _ hS' rfl) fun i' h'' tk'' t' h1 h2 hk'' => ?_⟩
    · rw [show j' = 0 by omega]
      omega
    · exact (Heap.get?_update_other _ _ (fun h : S = b => hSf (by rw [h]; exact hbf))).trans e
    · exact hR i' h'' tk'' t' h1 h2 fun b o hbw hbS e => hk'' b o hbw hbS ((Heap.get?_update_other _ _ (Ne.symm hbS)).trans (hk' b o hbw e))
end
section
variable {prog : Program} {w : World} {A : Around} {E : Value → Shared → Prop} {s : Shared}
theorem call_max_dfl {l : Addr} {its : List Value} {ns : List Int} {d : Value} {Q : Value → Shared → Prop} (hh : A.handled = none) (hl : s.heap.IsList l its.toArray) (hi : IntsAre its ns)
    (h0 : ns = [] → ∀ h' tk, (∀ b o, s.heap.get? b = some o → h'.get? b = some o) → Q d { s with heap := h', toks := tk })
    (h : ∀ h' tk M t', (∀ b o, s.heap.get? b = some o → h'.get? b = some o) → M ∈ ns → (∀ a, a ∈ ns → a ≤ M) → Q (.int M t') { s with heap := h', toks := tk }) :
    wpAny (model prog w) A (call (.builtin "max") [.ref l] (dfl d)) Q E s := by
  obtain ⟨xs, e⟩ := hi.allInts.items
  have hn : numsOf (intItems xs).toList = ns := by rw [← e]; exact hi.numsOf
  rw [nums_intItems] at hn
  subst hn
  rw [e] at hl
  have hlt : l < s.heap.objs.size := by obtain ⟨_, e, _⟩ := hl; exact Heap.lt_size e
  refine kmk_tree F.kind_max F.plain_max F.entry_max (args_max_dfl _ _) ?_
  show wpAny _ A.in1 (Builtin.Builtins.bindParams "max" ["key", "default"] 0 ⟨[], dfl d⟩ >>= _) _ _ s
  refine wpAny_bind (wpAny_of_eq (show Builtin.Builtins.bindParams "max" ["key", "default"] 0 ⟨[], dfl d⟩ = pure [none, some d] from rfl) ?_)
  refine wpAny_bind (wpAny_pure ?_)
  refine wpAny_bind (wpAny_pyIter_list hl ?_)
  refine wpAny_bind (wpAny_newList ?_ (Nat.zero_le _))
  rw [max_loop_name]
  have hI : (s.heap.push { cls := .type "list_iterator", data := .fields #[.ref l, .int 0 0] }).get? s.heap.objs.size = some { cls := .type "list_iterator", data := .fields #[.ref l, .int 0 0] } := Heap.get?_push_size _ rfl
  have hz : (s.heap.push { cls := .type "list_iterator", data := .fields #[.ref l, .int 0 0] }).objs.size = s.heap.objs.size + 1 := Heap.size_push ..
  have sz : (intItems xs).size = xs.size := by simp [intItems]
  have hP : ∀ (i : Nat) (v : Value), (intItems xs)[i]? = some v → ∃ t, v = .int (numAt xs i) t := fun i v => intItems_at
  have W := Walks.list (prog := prog) (w := w) (A := A.in1) hh s.heap.objs.size l (Nat.ne_of_lt hlt) (intItems xs)
  refine wpAny_pure ⟨plainId_quiet F.plain_max_loop _, mxd_first (n := (intItems xs).size) (S := (s.heap.push { cls := .type "list_iterator", data := .fields #[.ref l, .int 0 0] }).objs.size) (I := s.heap.objs.size) (numAt xs) d ⟨W.sub, W.frame, fun i s Q E hi st hQ => W.item i s Q E hi st fun v h' tk p => hQ v h' tk (hP i v p), W.done, W.self⟩ ?_ ?_ (Heap.get?_push_size _ rfl) (fun hn h' tk hk => ?_) fun i h' tk t hin hb hk => ?_⟩
  · rw [hz]
    intro hm
    rcases List.mem_cons.mp hm with e1 | hm
    · exact Nat.succ_ne_self _ e1
    · rw [← List.mem_singleton.mp hm] at hlt
      exact Nat.not_succ_lt_self hlt
  · refine W.frame _ _ _ (?_ : _ ∧ _) fun b _ o e => Heap.get?_push_of_some _ e
    exact ⟨⟨_, hI, rfl, rfl⟩, hl.push _⟩
  · have hold : ∀ b o, s.heap.get? b = some o → h'.get? b = some o := fun b o e => hk b o (fun hm => Nat.ne_of_lt (Heap.lt_size e) (List.mem_singleton.mp hm)) (by rw [hz]; exact Nat.ne_of_lt (Nat.lt_succ_of_lt (Heap.lt_size e))) (Heap.get?_push_of_some _ (Heap.get?_push_of_some _ e))
    refine h0 ?_ h' tk hold
    rw [sz] at hn
    have : xs = #[] := Array.eq_empty_of_size_eq_zero hn
    rw [this]
    rfl
  · have hold : ∀ b o, s.heap.get? b = some o → h'.get? b = some o := fun b o e => hk b o (fun hm => Nat.ne_of_lt (Heap.lt_size e) (List.mem_singleton.mp hm)) (by rw [hz]; exact Nat.ne_of_lt (Nat.lt_succ_of_lt (Heap.lt_size e))) (Heap.get?_push_of_some _ (Heap.get?_push_of_some _ e))
    rw [sz] at hin hb
    refine h h' tk _ t hold ?_ fun a ha => ?_
    · rw [numAt_eq]; exact PySem.getD_mem (by rw [List.length_map, Array.length_toList]; omega)
    · obtain ⟨j, hj, rfl⟩ := mem_getD ha
      rw [List.length_map, Array.length_toList] at hj
      rw [← numAt_eq]; exact hb j (by omega)
end
section
variable {X : Cx}
def rMaxDef (K : PySem.W.Frag) : List V → List V → Hp → VK → Prop := fun vs zs H Q => ∃ (a : Addr) (ns : List Int) (d : V), vs = [V.ref a] ∧ zs = [d] ∧ SqL K H a (ns.map V.int) ∧ (ns = [] → Q d H) ∧ ∀ m, m ∈ ns → (∀ y, y ∈ ns → y ≤ m) → Q (.int m) H
theorem cr_maxDef (hc : X.calm = true) : CallRK X (.builtin "max") [Str.ofString "default"] (rMaxDef X.K) := by
  intro pins s σ H vs zs us ws Q I r rz h
  obtain ⟨a, ns, d, rfl, rfl, hs, q0, q⟩ := h
  obtain ⟨its, rv, hl, _⟩ := I.list hs
  obtain ⟨wd, rfl, rd⟩ := vals1 rz
  rw [Vals.ref1 r]
  exact call_max_dfl (I.ok.hd hc) hl.isList rv.ints (fun e h' tk hk => ⟨d, H, I.kept hk, rd, q0 e⟩) fun h' tk m t' hk h1 h2 => ⟨.int _, H, I.kept hk, ⟨_, rfl⟩, q m h1 h2⟩
end
end XT

/-! the draws of the family «box», relations in a row -/
namespace XT
open PySem PySem.Spec PyProof.Rows L2
/-- the box at bx, its numbers at c -/
def BoxAt (bx c : Addr) (ns : List Int) (H : Hp) : Prop := ∃ (l d a dr sd : Int),
  H bx = some (.lst [.int l, .int d, .int a, .int dr, .int sd, .ref c]) ∧ H c = some (.lst (ns.map V.int)) ∧ 0 ≤ l ∧ 0 ≤ a ∧ a ≤ ns.length ∧ c ≠ bx
theorem drwB (bx c : Addr) (ns : List Int) : Drw bx (BoxAt bx c ns) where
  lst := fun H ⟨a, i, k, sd, n, e, _⟩ => ⟨_, e⟩
  fresh := fun H D ⟨a, i, k, sd, n, e1, e2, _⟩ hD => ⟨(ne_of_none e1 hD).symm, fun H' o ⟨a', i', k', sd', n', f1, f2, r⟩ =>
    ⟨a', i', k', sd', n', by rw [upd_ne (ne_of_none e1 hD)]; exact f1, by rw [upd_ne (ne_of_none e2 hD)]; exact f2, r⟩⟩
theorem BoxAt.same {bx c : Addr} {ns : List Int} {H H' : Hp} (e : Same H H') (h : BoxAt bx c ns H) : BoxAt bx c ns H' := by
  obtain ⟨x1, x2, x3, x4, x5, e1, e2, r⟩ := h
  exact ⟨x1, x2, x3, x4, x5, e _ _ e1, e _ _ e2, r⟩
abbrev RP := (Addr × Addr) × (Str × List Nat)
def RelOne (K : PySem.W.Frag) (H : Hp) (q : RP) : Prop := SqT K H q.1.1 [.str q.2.1, .ref q.1.2] ∧ SqT K H q.1.2 (intsV q.2.2)
def relV (ps : List RP) : List V := ps.map fun q => V.ref q.1.1
def RelsAt (K : PySem.W.Frag) (H : Hp) (rt : Addr) (ps : List RP) : Prop := SqT K H rt (relV ps) ∧ ∀ q ∈ ps, RelOne K H q
def RelOk (q : RP) : Prop := 1 ≤ q.2.1.length ∧ q.2.1.length ≤ 8 ∧ 1 ≤ q.2.2.length ∧ q.2.2.length ≤ 4
theorem RelOne.tups {K : PySem.W.Frag} {H H' : Hp} {q : RP} (e : Tups H H') (h : RelOne K H q) : RelOne K H' q := ⟨e _ _ _ h.1, e _ _ _ h.2⟩
theorem RelsAt.tups {K : PySem.W.Frag} {H H' : Hp} {rt : Addr} {ps : List RP} (e : Tups H H') (h : RelsAt K H rt ps) : RelsAt K H' rt ps := ⟨e _ _ _ h.1, fun q hq => (h.2 q hq).tups e⟩
theorem relV_get {ps : List RP} {i : Nat} {v : V} (h : (relV ps)[i]? = some v) : ∃ q, ps[i]? = some q ∧ v = .ref q.1.1 := by
  unfold relV at h
  rw [List.getElem?_map] at h
  obtain ⟨q, hq, rfl⟩ := Option.map_eq_some_iff.mp h
  exact ⟨q, hq, rfl⟩
theorem relV_len (ps : List RP) : (relV ps).length = ps.length := List.length_map _
/-! slices of tuples and their sums, whichever tuple comes -/
theorem slA_any {K : PySem.W.Frag} {a : Addr} {xs : List V} {lo hi : Option Int} {H : Hp} {Q : VK} (h : SqT K H a xs) (q : ∀ p H', Same H H' → SqT K H' p (cutV xs lo hi) → Q (.ref p) H') : rSlA K (.ref a) lo hi H Q := by
  refine ⟨a, xs, rfl, h, fun w => q a H (Same.refl H) ?_, fun _ p np => q p _ (same_new np) (.inl (.inl upd_same))⟩
  unfold cutV
  rw [w.1, w.2, Nat.sub_zero, List.drop_zero, List.take_length]
  exact h
theorem slA_end {K : PySem.W.Frag} {a : Addr} {xs : List V} {lo : Option Int} {σ : L2.St} {H : Hp} {Q : VK} (h : SqT K H a xs) (q : ∀ p H', Same H H' → SqT K H' p (cutV xs lo none) → Q (.ref p) H') : tNoPart σ H (fun u H3 => rSlA K (.ref a) lo u H3 Q) := slA_any h q
theorem catA_any {K : PySem.W.Frag} {a b : Addr} {xs ys : List V} {H : Hp} {Q : VK} (ha : SqT K H a xs) (hb : SqT K H b ys) (hl : xs.length + ys.length ≤ sizeLine) (q : ∀ p H', Same H H' → SqT K H' p (xs ++ ys) → Q (.ref p) H') : rCatA K (.ref a) (.ref b) H Q := by
  refine ⟨a, b, xs, ys, rfl, rfl, ha, hb, hl, fun e => q b H (Same.refl H) ?_, fun _ e => q a H (Same.refl H) ?_, fun _ _ p np => q p _ (same_new np) (.inl (.inl upd_same))⟩
  · rw [e]
    exact hb
  · rw [e, List.append_nil]
    exact ha
theorem cutV_take {xs : List V} {j : Nat} (h : j ≤ xs.length) : cutV xs none (some (j : Int)) = xs.take j := by
  unfold cutV
  rw [HT.sIx_nat, HT.sIx_none, Nat.sub_zero, List.drop_zero, Nat.min_eq_left h]
theorem cutV_drop {xs : List V} {j : Nat} (h : j ≤ xs.length) : cutV xs (some (j : Int)) none = xs.drop j := by
  unfold cutV
  rw [HT.sIx_nat, HT.sIx_none, Nat.min_eq_left h, ← List.length_drop, List.take_length]
/-! what the law reckons -/
def hasW (ps : List RP) (n : Nat) : Bool := ps.any fun q => decide (q.2.2.length = n)
def widthOf (ps : List RP) : Nat := if hasW ps 4 then 4 else if hasW ps 3 then 3 else if hasW ps 2 then 2 else 1
theorem hasW_iff {ps : List RP} {n : Nat} : hasW ps n = true ↔ ∃ q ∈ ps, q.2.2.length = n := by
  unfold hasW
  rw [List.any_eq_true]
  constructor
  · rintro ⟨q, h, e⟩
    exact ⟨q, h, of_decide_eq_true e⟩
  · rintro ⟨q, h, e⟩
    exact ⟨q, h, decide_eq_true e⟩
def lensV (ps : List RP) : List Int := ps.map fun q => (q.2.2.length : Int)
theorem width_max {ps : List RP} (hok : ∀ q ∈ ps, RelOk q) {m : Int} (hm : m ∈ lensV ps) (hb : ∀ y, y ∈ lensV ps → y ≤ m) : m = (widthOf ps : Nat) := by
  obtain ⟨q, hq, rfl⟩ := List.mem_map.mp hm
  have le : ∀ p ∈ ps, p.2.2.length ≤ q.2.2.length := fun p hp => by
    have := hb _ (List.mem_map.mpr ⟨p, hp, rfl⟩)
    omega
  obtain ⟨_, _, h1, h4⟩ := hok q hq
  have no : ∀ n, q.2.2.length < n → hasW ps n = false := fun n h => by
    cases e : hasW ps n with
    | false => rfl
    | true =>
      obtain ⟨p, hp, ep⟩ := hasW_iff.mp e
      have := le p hp
      omega
  have yes : hasW ps q.2.2.length = true := hasW_iff.mpr ⟨q, hq, rfl⟩
  unfold widthOf
  have cs : q.2.2.length = 1 ∨ q.2.2.length = 2 ∨ q.2.2.length = 3 ∨ q.2.2.length = 4 := by omega
  rcases cs with e | e | e | e
  · rw [no 4 (by omega), no 3 (by omega), no 2 (by omega), e]
    rfl
  · rw [e] at yes
    rw [no 4 (by omega), no 3 (by omega), yes, e]
    rfl
  · rw [e] at yes
    rw [no 4 (by omega), yes, e]
    rfl
  · rw [e] at yes
    rw [yes, e]
    rfl
theorem width_none : widthOf [] = 1 := rfl
/-- where the name stands -/
def isAt (ps : List RP) (z : Str) (k : Nat) : Bool := match ps[k]? with
  | some q => decide (q.2.1 = z)
  | none => false
def foundAt (ps : List RP) (z : Str) : List Nat := (List.range ps.length).filter (isAt ps z)
def placeD (ps : List RP) (z : Str) : PyData := match foundAt ps z with
  | [] => .none
  | k :: _ => .int (k : Nat)
def placeV (ps : List RP) (z : Str) : V := match foundAt ps z with
  | [] => .non
  | k :: _ => .int (k : Nat)
theorem place_dp {K : PySem.W.Frag} {H : Hp} (ps : List RP) (z : Str) : Dp K H (placeV ps z) (placeD ps z) := by
  unfold placeV placeD
  split <;> rename_i e
  · exact .non
  · exact .int _
theorem place_first {ps : List RP} {z : Str} {i : Nat} {q : RP} (h : ps[i]? = some q) (e : q.2.1 = z) (no : ∀ j, j < i → isAt ps z j = false) : placeV ps z = .int (i : Nat) := by
  have hi : i < ps.length := (List.getElem?_eq_some_iff.mp h).1
  have yes : isAt ps z i = true := by
    unfold isAt
    rw [h]
    exact decide_eq_true e
  have hf : (foundAt ps z).head? = some i := by
    unfold foundAt
    rw [List.head?_filter, List.find?_range_eq_some]
    exact ⟨yes, List.mem_range.mpr hi, fun j hj => by rw [no j hj]; rfl⟩
  unfold placeV
  cases ef : foundAt ps z with
  | nil => rw [ef] at hf; cases hf
  | cons k l =>
    rw [ef] at hf
    cases (show some k = some i from hf)
    rfl
theorem place_none {ps : List RP} {z : Str} (no : ∀ j, j < ps.length → isAt ps z j = false) : placeV ps z = .non := by
  have hf : foundAt ps z = [] := by
    unfold foundAt
    rw [List.filter_eq_nil_iff]
    intro j hj e
    rw [no j (List.mem_range.mp hj)] at e
    cases e
  unfold placeV
  rw [hf]
/-! texts -/
def Wd (v : V) : Prop := ∃ z : Str, v = .str z ∧ 1 ≤ z.length ∧ z.length ≤ 8
theorem wds : ∀ {xs : List V}, (∀ v ∈ xs, Wd v) → ∃ l : List Str, xs = l.map V.str ∧ ∀ x ∈ l, 1 ≤ x.length ∧ x.length ≤ 8
  | [], _ => ⟨[], rfl, by simp⟩
  | x :: xs, h => by
    obtain ⟨n, rfl, hn⟩ := h x List.mem_cons_self
    obtain ⟨l, rfl, h2⟩ := wds fun v hv => h v (List.mem_cons_of_mem _ hv)
    refine ⟨n :: l, rfl, fun y hy => ?_⟩
    rcases List.mem_cons.mp hy with rfl | hy
    · exact hn
    · exact h2 y hy
theorem word_lenE {ys : List Str} {n : Nat} (hn : ys.length = n) (h : ∀ y ∈ ys, y.length = 1) : (Txt.join Str.empty ys).length = n := by
  rw [join_len]
  subst hn
  induction ys with
  | nil => rfl
  | cons y ys ih =>
    rw [List.map_cons, List.sum_cons, ih fun z hz => h z (List.mem_cons_of_mem _ hz), h y List.mem_cons_self, List.length_cons]
    omega
theorem ones_strs1 : ∀ {xs : List V}, (∀ v ∈ xs, One v) → ∃ ys : List Str, xs = ys.map V.str ∧ ∀ y ∈ ys, y.length = 1
  | [], _ => ⟨[], rfl, by simp⟩
  | x :: xs, h => by
    obtain ⟨c, rfl⟩ := h x List.mem_cons_self
    obtain ⟨ys, rfl, h2⟩ := ones_strs1 fun v hv => h v (List.mem_cons_of_mem _ hv)
    refine ⟨⟨#[c]⟩ :: ys, rfl, fun y hy => ?_⟩
    rcases List.mem_cons.mp hy with rfl | hy
    · rfl
    · exact h2 y hy
theorem cutS_take7 (z : Str) : (cutS z none (some 7)).length ≤ 7 := by
  show (((z.cps.toList.drop (HT.sIx z.length 0 none)).take (HT.sIx z.length z.length (some 7) - HT.sIx z.length 0 none)).toArray).size ≤ 7
  rw [List.size_toArray, List.length_take]
  have : HT.sIx z.length z.length (some 7) ≤ 7 := by
    unfold HT.sIx
    simp
    omega
  omega
theorem flat_strs (l : List Str) : (l.map V.str).all flatV = true := by
  rw [List.all_eq_true]
  intro v hv
  obtain ⟨z, _, rfl⟩ := List.mem_map.mp hv
  rfl
end XT

namespace K02
open PySem PySem.Spec PyProof.Rows L2 XT
def topS (i : Nat) : Stmt := PySem.Challenge.pw_bagkinds_k02_widths_and_numbers.main.body.getD i (.Pass ⟨0, 0, 0, 0⟩)
abbrev s_width : Stmt := topS 1
theorem sc_width : FnScope ["language", "_", "places"] ["language"] (defScope s_width) :=
  ⟨rfl, rfl, rfl, by decide +kernel, rfl, by decide +kernel, by decide +kernel⟩
abbrev s_relation_number : Stmt := topS 2
theorem sc_relation_number : FnScope ["language", "name", "number", "relation"] ["language", "name"] (defScope s_relation_number) :=
  ⟨rfl, rfl, rfl, by decide +kernel, rfl, by decide +kernel, by decide +kernel⟩
abbrev s__law_mix : Stmt := topS 4
theorem sc__law_mix : FnScope ["cell", "salt", "one"] ["cell", "salt"] (defScope s__law_mix) :=
  ⟨rfl, rfl, rfl, by decide +kernel, rfl, by decide +kernel, by decide +kernel⟩
abbrev s__law_box : Stmt := topS 5
theorem sc__law_box : FnScope ["script", "cell"] ["script"] (defScope s__law_box) :=
  ⟨rfl, rfl, rfl, by decide +kernel, rfl, by decide +kernel, by decide +kernel⟩
abbrev s__law_draw : Stmt := topS 6
theorem sc__law_draw : FnScope ["box", "many", "cell", "drawn"] ["box", "many"] (defScope s__law_draw) :=
  ⟨rfl, rfl, rfl, by decide +kernel, rfl, by decide +kernel, by decide +kernel⟩
abbrev s__law_alike : Stmt := topS 7
theorem sc__law_alike : FnScope ["told", "due", "k"] ["told", "due"] (defScope s__law_alike) :=
  ⟨rfl, rfl, rfl, by decide +kernel, rfl, by decide +kernel, by decide +kernel⟩
abbrev s__law_word : Stmt := topS 8
theorem sc__law_word : FnScope ["box", "letters", "k"] ["box"] (defScope s__law_word) :=
  ⟨rfl, rfl, rfl, by decide +kernel, rfl, by decide +kernel, by decide +kernel⟩
abbrev s__law_names : Stmt := topS 9
theorem sc__law_names : FnScope ["box", "many", "k", "letter", "name", "names"] ["box", "many"] (defScope s__law_names) :=
  ⟨rfl, rfl, rfl, by decide +kernel, rfl, by decide +kernel, by decide +kernel⟩
abbrev s__law_language : Stmt := topS 10
theorem sc__law_language : FnScope ["box", "most", "name", "places", "relations", "sorts", "k"] ["box", "most"] (defScope s__law_language) :=
  ⟨rfl, rfl, rfl, by decide +kernel, rfl, by decide +kernel, by decide +kernel⟩
abbrev s__law_width : Stmt := topS 11
theorem sc__law_width : FnScope ["relations", "many", "pair"] ["relations"] (defScope s__law_width) :=
  ⟨rfl, rfl, rfl, by decide +kernel, rfl, by decide +kernel, by decide +kernel⟩
abbrev s__law_place : Stmt := topS 12
theorem sc__law_place : FnScope ["relations", "name", "found", "k"] ["relations", "name"] (defScope s__law_place) :=
  ⟨rfl, rfl, rfl, by decide +kernel, rfl, by decide +kernel, by decide +kernel⟩
abbrev s__law_asked_names : Stmt := topS 13
theorem sc__law_asked_names : FnScope ["box", "relations", "more", "at", "first", "name", "names", "near", "pair"] ["box", "relations", "more"] (defScope s__law_asked_names) :=
  ⟨rfl, rfl, rfl, by decide +kernel, rfl, by decide +kernel, by decide +kernel⟩
abbrev s__law_right : Stmt := topS 14
theorem sc__law_right : FnScope ["box", "sorts", "relations", "more", "due", "language", "name", "told"] ["box", "sorts", "relations", "more"] (defScope s__law_right) :=
  ⟨rfl, rfl, rfl, by decide +kernel, rfl, by decide +kernel, by decide +kernel⟩
abbrev s_law : Stmt := topS 15
theorem sc_law : FnScope ["script", "at", "box", "names", "relations", "sorts", "turn", "pair"] ["script"] (defScope s_law) :=
  ⟨rfl, rfl, rfl, by decide +kernel, rfl, by decide +kernel, by decide +kernel⟩
section
variable {P : Program} {w : World} {K : PySem.W.Frag} {mg : Str → Option Value} {base : Heap} {f : Addr} {fd : FuncData}
theorem pos1 : (0 : Int) < 2147483647 := by decide
theorem pos2 : (0 : Int) < 2147483629 := by decide
theorem two_fits : 2 ≤ sizeLine := by decide
def sp__law_mix (K : PySem.W.Frag) : Sp := fun vs H Q _ => ∃ n k : Int, vs = [.int n, .int k] ∧ ∀ d : Int, Q (.int d) H
theorem ok__law_mix (F : Fun K "_law_mix" "_law_mix" s__law_mix f fd) (m_int : mg "int" = none) : FnOk P w K mg base CX0 1 f fd ["cell", "salt"] (sp__law_mix K) := by
  refine F.ok sc__law_mix (fun vs H Q E h => ?_) (fun cdv A outer s H vs Q E hr h => ?_)
  · obtain ⟨n, k, rfl, _⟩ := h
    rfl
  obtain ⟨n, k, rfl, q⟩ := h
  refine ⟨_, (pss_cons (ps_set (i := 2) sc__law_mix.nd rfl (.inl rfl) (pe_op op_mod (pe_callTy call_int1 (by rfl) m_int (by decide +kernel) (pa_cons (pe_op op_add (pe_op op_add (pe_op op_mul (pv 0) pe_int) (pe_op op_mul (pv 1) pe_int)) pe_int) pa_nil)) pe_int))
  (pss_one (ps_ret (pe_op op_mod (pe_callTy call_int1 (by rfl) m_int (by decide +kernel) (pa_cons (pe_op op_add (pe_op op_add (pe_op op_mul (pv 2) (pv 2)) (pe_op op_mul (pv 2) pe_int)) (pe_op op_mul (pv 1) pe_int)) pa_nil)) pe_int)))), ?_⟩
  refine ⟨_, rfl, _, _, rfl, rfl, .inr ⟨by decide, by decide⟩, _, rfl, _, _, rfl, rfl, .inr ⟨by decide, by decide⟩, _, _, rfl, rfl, _, _, rfl, rfl, .inl ⟨_, rfl, _, _, rfl, rfl, pos1, ?_⟩⟩
  exact ⟨_, rfl, _, rfl, _, _, rfl, rfl, .inl ⟨by omega, by omega⟩, _, rfl, _, _, rfl, rfl, .inr ⟨by decide, by decide⟩, _, _, rfl, rfl, _, rfl, _, _, rfl, rfl, .inr ⟨by decide, by decide⟩, _, _, rfl, rfl, .inl ⟨_, rfl, _, _, rfl, rfl, pos2, q _⟩⟩

def sp__law_box (K : PySem.W.Frag) : Sp := fun vs H Q _ => ∃ (a : Addr) (ns : List Int), vs = [.ref a] ∧ SqL K H a (ns.map V.int) ∧ ns.length ≤ 63 ∧
  ∀ (bx c : Addr) (H' : Hp), Same H H' → H bx = none → H c = none → BoxAt bx c ns H' → Q (.ref bx) H'
theorem ok__law_box (F : Fun K "_law_box" "_law_box" s__law_box f fd) (m_int : mg "int" = none) : FnOk P w K mg base CX0 1 f fd ["script"] (sp__law_box K) := by
  refine F.ok sc__law_box (fun vs H Q E h => ?_) (fun cdv A outer s H vs Q E hr h => ?_)
  · obtain ⟨a, ns, rfl, _⟩ := h
    rfl
  obtain ⟨a, ns, rfl, hS, h63, q⟩ := h
  refine ⟨_, (pss_one (ps_ret (pe_lst (pa_cons pe_int (pa_cons pe_int (pa_cons pe_int (pa_cons pe_int (pa_cons pe_int (pa_cons (pe_lc (own := [("cell", 1)]) rfl sc__law_box.nd (pi_list (pv 0)) (blkOk_by (N := ["script", "cell"]) (sc := defScope s__law_box) (by decide +kernel)) (fun _ _ _ _ _ => (pg_name (i := 1) sc__law_box.nd rfl (.inl rfl))) (fun _ _ _ _ _ => pts_nil) (fun _ _ _ _ _ => (pe_callTy call_int1 (by rfl) m_int (by decide +kernel) (pa_cons (pv 1) pa_nil)))) pa_nil))))))))), ?_⟩
  refine ⟨_, rfl, a, rfl, ⟨_, hS⟩, fun c nc => ?_⟩
  refine lc_it (walk_list (xs := ns.map V.int)) (fun m H' => H' c = some (.lst ((ns.take m).map V.int)) ∧ Same H H')
    ⟨upd_same, same_new nc⟩ (fun m H' _ h => h.2.seq hS) ?_ ?_
  · rintro m v _ H3 hm ⟨c1, c2⟩ ⟨rfl, hx⟩
    rw [List.getElem?_map] at hx
    obtain ⟨n, hn, rfl⟩ := Option.map_eq_some_iff.mp hx
    refine ⟨rfl, yes_ ?_⟩
    refine ⟨_, rfl, .inl ⟨_, rfl, _, c1, ?_, ?_, Same.over nc c2⟩⟩
    · rw [List.length_map, List.length_take]
      exact small1000 (by omega)
    · rw [upd_same, List.take_add_one, hn, List.map_append]
      rfl
  · rintro H3 ⟨c1, c2⟩
    rw [List.length_map, List.take_length] at c1
    refine ⟨show 6 ≤ sizeLine by decide, fun bx nbx => ?_⟩
    have ncb : c ≠ bx := ne_of_none c1 nbx
    have hbx : H bx = none := by
      cases e : H bx with
      | none => rfl
      | some o =>
        have z := c2 _ _ e
        rw [nbx] at z
        cases z
    exact q bx c _ (c2.trans (same_new nbx)) hbx nc ⟨0, 0, 0, 0, 1, upd_same, by rw [upd_ne ncb]; exact c1, by omega, by omega, by omega, ncb⟩

def sp__law_draw (K : PySem.W.Frag) : Sp := fun vs H Q _ => ∃ (bx c : Addr) (ns : List Int) (many : Int), vs = [.ref bx, .int many] ∧ BoxAt bx c ns H ∧ 0 < many ∧ many < 1073741824 ∧
  ∀ (d : Int) (H' : Hp), 0 ≤ d → d < many → Kept bx H H' → BoxAt bx c ns H' → Q (.int d) H'
set_option maxHeartbeats 1000000 in
theorem ok__law_draw (F : Fun K "_law_draw" "_law_draw" s__law_draw f fd) (C__law_mix : Cal P w K mg base 1 "_law_mix" s__law_mix ["cell", "salt"] (sp__law_mix K)) (m_int : mg "int" = none) (m_len : mg "len" = none) (m_abs : mg "abs" = none) : FnOk P w K mg base CX0 2 f fd ["box", "many"] (sp__law_draw K) := by
  refine F.ok sc__law_draw (fun vs H Q E h => ?_) (fun cdv A outer s H vs Q E hr h => ?_)
  · obtain ⟨a, c, ns, l, rfl, _⟩ := h
    rfl
  obtain ⟨bx, c, ns, many, rfl, hb, hm0, hm1, q⟩ := h
  refine ⟨_, (C8.pss_cut (ps_if (PW.pt (pw_and (PW.pt (pw_or (pt_cmpR op_eq (pe_ix ix_list (pv 0) pe_int (fun _ _ => rfl)) pe_int (nomark _)) (pw_or1 (pt_cmpR op_eq (pe_ix ix_list (pv 0) pe_int (fun _ _ => rfl)) pe_int (nomark _))))) (pw_and1 (pt_cmpR op_lt (pe_ix ix_list (pv 0) pe_int (fun _ _ => rfl)) (pe_callB call_len_seq (by rfl) m_len (by decide +kernel) (pa_cons (pe_ix ix_list (pv 0) pe_int (fun _ _ => rfl)) pa_nil)) (nomark _)))))
  (pss_cons (ps_set (i := 2) sc__law_draw.nd rfl (.inl rfl) (pe_ix ix_list (pe_ix ix_list (pv 0) pe_int (fun _ _ => rfl)) (pe_ix ix_list (pv 0) pe_int (fun _ _ => rfl)) (fun _ _ => rfl)))
  (pss_cons (ps_asg (pe_op op_add (pe_ix ix_list (pv 0) pe_int (fun _ _ => rfl)) pe_int) (pg_sub (pv 0) pe_int set_list))
  (pss_cons (ps_asg (pe_op op_mod (pe_callTy call_int1 (by rfl) m_int (by decide +kernel) (pa_cons (pe_op op_add (pe_op op_mul (pe_ix ix_list (pv 0) pe_int (fun _ _ => rfl)) pe_int) (pv 2)) pa_nil)) pe_int) (pg_sub (pv 0) pe_int set_list))
  (pss_cons (ps_asg pe_int (pg_sub (pv 0) pe_int set_list))
  (pss_cons (ps_asg pe_int (pg_sub (pv 0) pe_int set_list))
  (pss_one (ps_if (pt_cmpR op_eq (pe_op op_mod (pe_callTy call_int1 (by rfl) m_int (by decide +kernel) (pa_cons (pv 2) pa_nil)) pe_int) pe_int (nomark _))
  (pss_one (ps_asg (pe_op op_fdiv (pe_callB call_abs (by rfl) m_abs (by decide +kernel) (pa_cons (pv 2) pa_nil)) pe_int) (pg_sub (pv 0) pe_int set_list))) pss_nil))))))) pss_nil)
  (pss_cons (ps_if (PW.pt (pw_and (pt_cmpR op_gt (pe_ix ix_list (pv 0) pe_int (fun _ _ => rfl)) pe_int (nomark _)) (pw_and1 (pt_cmpR op_gt (pe_ix ix_list (pv 0) pe_int (fun _ _ => rfl)) pe_int (nomark _)))))
  (pss_cons (ps_set (i := 3) sc__law_draw.nd rfl (.inl rfl) (pe_op op_mod (pe_callTy call_int1 (by rfl) m_int (by decide +kernel) (pa_cons (pe_ix ix_list (pv 0) pe_int (fun _ _ => rfl)) pa_nil)) (pv 1)))
  (pss_cons (ps_asg (pe_op op_fdiv (pe_ix ix_list (pv 0) pe_int (fun _ _ => rfl)) (pv 1)) (pg_sub (pv 0) pe_int set_list))
  (pss_cons (ps_asg (pe_op op_sub (pe_ix ix_list (pv 0) pe_int (fun _ _ => rfl)) pe_int) (pg_sub (pv 0) pe_int set_list))
  (pss_one (ps_ret (pv 3)))))) pss_nil)
  (pss_cons (ps_asg (pe_op op_add (pe_ix ix_list (pv 0) pe_int (fun _ _ => rfl)) pe_int) (pg_sub (pv 0) pe_int set_list))
  (pss_one (ps_ret (pe_op op_mod (pe_callTy call_int1 (by rfl) m_int (by decide +kernel) (pa_cons (pe_cal C__law_mix hr (by first | decide | exact Nat.le_refl _) (by rfl) (pa_cons (pe_ix ix_list (pv 0) pe_int (fun _ _ => rfl)) (pa_cons (pe_ix ix_list (pv 0) pe_int (fun _ _ => rfl)) pa_nil))) pa_nil)) (pv 1))))))), ?_⟩
  refine ⟨fun σ' H' => ∃ (y z : Option V), σ' = [some (.ref bx), some (.int many), y, z] ∧ Kept bx H H' ∧ BoxAt bx c ns H', ?_, ?_⟩
  · obtain ⟨l, d, a, dr, sd, h1, h2, h3, h4, h5, h6⟩ := hb
    obtain ⟨j, rfl⟩ := Int.eq_ofNat_of_zero_le h4
    have two : (0 : Int) < 2 := by decide
    refine ⟨_, rfl, bx, _, 0, _, rfl, rfl, SqL.of h1, rfl, rfl, _, rfl, ite2 (fun _ => iteT ?_) (fun _ => ⟨_, rfl, bx, _, 1, _, rfl, rfl, SqL.of h1, rfl, rfl, _, rfl, ite2 (fun _ => ?_) (fun _ => iteF ⟨_, _, rfl, Kept.refl _ _, l, d, j, dr, sd, h1, h2, h3, h4, h5, h6⟩)⟩)⟩
    all_goals
      refine ⟨_, rfl, bx, _, 2, _, rfl, rfl, SqL.of h1, rfl, _, rfl, bx, _, 5, _, rfl, rfl, SqL.of h1, rfl, c, _, rfl, .inl (SqL.of h2), _, _, rfl, rfl, _, rfl, ite2 (fun e => ?_) (fun _ => ⟨_, _, rfl, Kept.refl _ _, l, d, j, dr, sd, h1, h2, h3, h4, h5, h6⟩)⟩
      have hj : j < ns.length := by
        have z : (j : Int) < ((ns.map V.int).length : Nat) := of_decide_eq_true e
        rw [List.length_map] at z
        omega
      have hat : atI (ns.map V.int) (j : Int) = some (.int ns[j]) := atI_nat (by rw [List.getElem?_map, List.getElem?_eq_getElem hj]; rfl)
      refine ⟨_, rfl, bx, _, 5, _, rfl, rfl, SqL.of h1, rfl, _, rfl, bx, _, 2, _, rfl, rfl, SqL.of h1, rfl, c, _, _, _, rfl, rfl, SqL.of h2, hat, ?_⟩
      refine ⟨_, rfl, bx, _, 2, _, rfl, rfl, SqL.of h1, rfl, _, _, rfl, rfl, _, rfl, bx, _, _, 2, rfl, rfl, h1, rfl, ?_⟩
      refine ⟨_, rfl, bx, _, 4, _, rfl, rfl, SqL.of upd_same, rfl, _, _, rfl, rfl, .inr ⟨by decide, by decide⟩, _, rfl, _, _, rfl, rfl, .inl ⟨_, rfl, _, _, rfl, rfl, pos1, _, rfl, bx, _, _, 4, rfl, rfl, upd_same, rfl, ?_⟩⟩
      refine ⟨_, rfl, bx, _, _, 0, rfl, rfl, upd_same, rfl, _, rfl, bx, _, _, 1, rfl, rfl, upd_same, rfl, ?_⟩
      refine ⟨_, rfl, .inl ⟨_, rfl, _, _, rfl, rfl, two, rfl, _, rfl, ite2 (fun _ => ?_) (fun _ => ?_)⟩⟩
      · refine ⟨_, rfl, _, rfl, _, _, rfl, rfl, ⟨by decide, by decide⟩, _, rfl, bx, _, _, 0, rfl, rfl, upd_same, rfl, ?_⟩
        refine ⟨_, _, rfl, (Kept.own.trans (Kept.own.trans (Kept.own.trans (Kept.own.trans Kept.own)))), _, _, _, _, _, upd_same, ?_, ?_, by omega, by omega, h6⟩
        · rw [upd_ne h6, upd_ne h6, upd_ne h6, upd_ne h6, upd_ne h6]
          exact h2
        · split <;> omega
      · refine ⟨_, _, rfl, (Kept.own.trans (Kept.own.trans (Kept.own.trans Kept.own))), _, _, _, _, _, upd_same, ?_, by omega, by omega, by omega, h6⟩
        rw [upd_ne h6, upd_ne h6, upd_ne h6, upd_ne h6]
        exact h2
  · rintro σ' H' ⟨y, z, rfl, hk, l, d, a, dr, sd, h1, h2, h3, h4, h5, h6⟩
    refine ⟨_, rfl, bx, _, 0, _, rfl, rfl, SqL.of h1, rfl, _, _, rfl, rfl, _, rfl, ite2 (fun e0 => ⟨_, rfl, bx, _, 1, _, rfl, rfl, SqL.of h1, rfl, _, _, rfl, rfl, _, rfl, ite2 (fun _ => ?_) (fun _ => ?_)⟩) (fun _ => iteF ?_)⟩
    · refine ⟨_, rfl, bx, _, 0, _, rfl, rfl, SqL.of h1, rfl, .inl ⟨_, rfl, _, rfl, _, _, rfl, rfl, hm0, ?_⟩⟩
      refine ⟨_, rfl, bx, _, 0, _, rfl, rfl, SqL.of h1, rfl, _, rfl, _, _, rfl, rfl, ⟨hm0, hm1⟩, _, rfl, bx, _, _, 0, rfl, rfl, h1, rfl, ?_⟩
      refine ⟨_, rfl, bx, _, 1, _, rfl, rfl, SqL.of upd_same, rfl, _, _, rfl, rfl, _, rfl, bx, _, _, 1, rfl, rfl, upd_same, rfl, _, rfl, ?_⟩
      exact q _ _ (Int.emod_nonneg _ (by omega)) (Int.emod_lt_of_pos _ hm0) (hk.trans (Kept.own.trans Kept.own)) ⟨_, _, _, _, _, upd_same, by rw [upd_ne h6, upd_ne h6]; exact h2, Int.ediv_nonneg h3 (by omega), h4, h5, h6⟩
    all_goals
      refine ⟨_, rfl, bx, _, 3, _, rfl, rfl, SqL.of h1, rfl, _, _, rfl, rfl, _, rfl, bx, _, _, 3, rfl, rfl, h1, rfl, ?_⟩
      refine ⟨_, rfl, bx, _, 4, _, rfl, rfl, SqL.of upd_same, rfl, _, rfl, bx, _, 3, _, rfl, rfl, SqL.of upd_same, rfl, _, _, rfl, fun r => .inl ⟨_, rfl, _, rfl, _, _, rfl, rfl, hm0, ?_⟩⟩
      exact q _ _ (Int.emod_nonneg _ (by omega)) (Int.emod_lt_of_pos _ hm0) (hk.trans Kept.own) ⟨_, _, _, _, _, upd_same, by rw [upd_ne h6]; exact h2, h3, h4, h5, h6⟩

theorem kit_two {K : PySem.W.Frag} {a : String} {b1 b2 : Bool} (h1 : kitB a "tuple" = some b1) (h2 : kitB a "list" = some b2) : PySem.W.kitAny K (.type a) [.type "tuple", .type "list"] = some (b1 || b2) :=
  kitAny_cons (kit_ty h1) (fun e => kitAny_cons (kit_ty h2) (fun e2 => by rw [e, e2]; rfl) (fun e2 => by rw [e2, Bool.or_true])) (fun e => by rw [e, Bool.true_or])
theorem pair_two : Paired ClsV [V.ty "tuple", V.ty "list"] [Value.type "tuple", Value.type "list"] := .cons (.ty _) (.cons (.ty _) .nil)
def sp_alike_n (n : Nat) (K : PySem.W.Frag) : Sp := fun vs H Q _ => ∃ (x y : V) (d : PyData), vs = [x, y] ∧ Dp K H x d ∧ Dp K H y d ∧ okD n d ∧ ∀ H', Same H H' → Q (.bl true) H'
def sp__law_alike (K : PySem.W.Frag) : Sp := sp_alike_n 4 K
set_option maxHeartbeats 1000000 in
theorem ok__law_alike (F : Fun K "_law_alike" "_law_alike" s__law_alike f fd) (bs : Binds K fd ["told", "due"] []) (gs : mg "_law_alike" = some (.ref f)) (m_isinstance : mg "isinstance" = none) (m_bool : mg "bool" = none) (m_str : mg "str" = none) (m_tuple : mg "tuple" = none) (m_list : mg "list" = none) (m_range : mg "range" = none) (m_int : mg "int" = none) (m_len : mg "len" = none) :
    ∀ n : Nat, FnOk P w K mg base CX0 n f fd ["told", "due"] (sp_alike_n n K)
  | 0 => by
    have no : ∀ vs H Q E, ¬ sp_alike_n 0 K vs H Q E := fun vs H Q E h => by
      obtain ⟨x, y, d, _, _, _, ok, _⟩ := h
      exact ok
    exact ⟨fun vs H Q E h => absurd h (no vs H Q E), fun A outer s H args us vs Q E _ _ _ _ h => absurd h (no vs H Q E)⟩
  | n + 1 => by
    have ih := ok__law_alike F bs gs m_isinstance m_bool m_str m_tuple m_list m_range m_int m_len n
    have C__law_alike : Cal P w K mg base n "_law_alike" s__law_alike ["told", "due"] (sp_alike_n n K) := ⟨_, _, ih, F, bs, gs⟩
    refine F.ok sc__law_alike (fun vs H Q E h => ?_) (fun cdv A outer s H vs Q E hr h => ?_)
    · obtain ⟨x, y, d, rfl, _⟩ := h
      rfl
    obtain ⟨x, y, d, rfl, hx, hy, ok, q⟩ := h
    refine ⟨_, (pss_cons (ps_if (pt_val (pe_callB call_isiT (by rfl) m_isinstance (by decide +kernel) (pa_cons (pv 1) (pa_cons (pe_tup (pa_cons (pe_bltn (v := .ty "tuple") (by rfl) m_tuple (by decide +kernel) rfl) (pa_cons (pe_bltn (v := .ty "list") (by rfl) m_list (by decide +kernel) rfl) pa_nil))) pa_nil))))
  (pss_cons (ps_if (PW.pt (pw_or (pt_cmpR op_ne (pe_callB call_isi (by rfl) m_isinstance (by decide +kernel) (pa_cons (pv 0) (pa_cons (pe_bltn (v := .ty "tuple") (by rfl) m_tuple (by decide +kernel) rfl) pa_nil))) (pe_callB call_isi (by rfl) m_isinstance (by decide +kernel) (pa_cons (pv 1) (pa_cons (pe_bltn (v := .ty "tuple") (by rfl) m_tuple (by decide +kernel) rfl) pa_nil))) (nomark _)) (pw_or1 (pt_cmpR op_ne (pe_callB call_isi (by rfl) m_isinstance (by decide +kernel) (pa_cons (pv 0) (pa_cons (pe_bltn (v := .ty "list") (by rfl) m_list (by decide +kernel) rfl) pa_nil))) (pe_callB call_isi (by rfl) m_isinstance (by decide +kernel) (pa_cons (pv 1) (pa_cons (pe_bltn (v := .ty "list") (by rfl) m_list (by decide +kernel) rfl) pa_nil))) (nomark _)))))
  (pss_one (ps_ret pe_bl)) pss_nil)
  (pss_cons (ps_if (pt_cmpR op_ne (pe_callB call_len_seq (by rfl) m_len (by decide +kernel) (pa_cons (pv 0) pa_nil)) (pe_callB call_len_seq (by rfl) m_len (by decide +kernel) (pa_cons (pv 1) pa_nil)) (nomark _))
  (pss_one (ps_ret pe_bl)) pss_nil)
  (pss_cons (ps_for PassesOwn.never rfl (pi_range1 (by rfl) m_range (pa_cons (pe_callB call_len_seq (by rfl) m_len (by decide +kernel) (pa_cons (pv 1) pa_nil)) pa_nil)) (pg_name (i := 2) sc__law_alike.nd rfl (.inl rfl))
  (pss_one (ps_if (pt_not (pt_val (pe_cal C__law_alike hr (by first | decide | exact Nat.le_refl _) (by rfl) (pa_cons (pe_ix ix_seq (pv 0) (pv 2) (fun _ _ => rfl)) (pa_cons (pe_ix ix_seq (pv 1) (pv 2) (fun _ _ => rfl)) pa_nil)))))
  (pss_one (ps_ret pe_bl)) pss_nil)))
  (pss_one (ps_ret pe_bl))))) pss_nil)
  (pss_cons (ps_if (pt_cmpR op_isN (pv 1) pe_non (nomark _))
  (pss_one (ps_ret (pe_cmpR op_isN (pv 0) pe_non (nomark _)))) pss_nil)
  (pss_cons (ps_if (pt_val (pe_callB call_isi (by rfl) m_isinstance (by decide +kernel) (pa_cons (pv 1) (pa_cons (pe_bltn (v := .ty "bool") (by rfl) m_bool (by decide +kernel) rfl) pa_nil))))
  (pss_one (ps_ret (pe_and (pe_callB call_isi (by rfl) m_isinstance (by decide +kernel) (pa_cons (pv 0) (pa_cons (pe_bltn (v := .ty "bool") (by rfl) m_bool (by decide +kernel) rfl) pa_nil))) (pe_one (pe_cmpR op_eq (pv 0) (pv 1) (nomark _)))))) pss_nil)
  (pss_cons (ps_if (pt_val (pe_callB call_isi (by rfl) m_isinstance (by decide +kernel) (pa_cons (pv 1) (pa_cons (pe_bltn (v := .ty "str") (by rfl) m_str (by decide +kernel) rfl) pa_nil))))
  (pss_one (ps_ret (pe_and (pe_callB call_isi (by rfl) m_isinstance (by decide +kernel) (pa_cons (pv 0) (pa_cons (pe_bltn (v := .ty "str") (by rfl) m_str (by decide +kernel) rfl) pa_nil))) (pe_one (pe_cmpR op_eq (pv 0) (pv 1) (nomark _)))))) pss_nil)
  (pss_one (ps_ret (pe_and (pe_callB call_isi (by rfl) m_isinstance (by decide +kernel) (pa_cons (pv 0) (pa_cons (pe_bltn (v := .ty "int") (by rfl) m_int (by decide +kernel) rfl) pa_nil))) (pe_and (pe_not (pe_callB call_isi (by rfl) m_isinstance (by decide +kernel) (pa_cons (pv 0) (pa_cons (pe_bltn (v := .ty "bool") (by rfl) m_bool (by decide +kernel) rfl) pa_nil)))) (pe_one (pe_cmpR op_eq (pv 0) (pv 1) (nomark _))))))))))), ?_⟩
    cases d with
    | none =>
      refine ⟨_, rfl, two_fits, fun tp ntp => ?_⟩
      have sm : Same H (upd H tp (.tup [V.ty "tuple", V.ty "list"])) := same_new ntp
      cases hx
      cases hy
      refine ⟨_, tp, _, _, _, _, rfl, upd_same, pair_two, .base .non, kit_two (b1 := false) (b2 := false) (by decide +kernel) (by decide +kernel), _, rfl, iteF ?_⟩
      refine ⟨_, rfl, rfl, _, rfl, ite2 (fun _ => ?_) (fun e => absurd (decide_eq_true rfl) e)⟩
      exact ⟨_, rfl, rfl, q _ sm⟩
    | bool b =>
      refine ⟨_, rfl, two_fits, fun tp ntp => ?_⟩
      have sm : Same H (upd H tp (.tup [V.ty "tuple", V.ty "list"])) := same_new ntp
      cases hx
      cases hy
      refine ⟨_, tp, _, _, _, _, rfl, upd_same, pair_two, .base (.bl b), kit_two (b1 := false) (b2 := false) (by decide +kernel) (by decide +kernel), _, rfl, iteF ?_⟩
      refine ⟨_, rfl, rfl, _, rfl, ite2 (fun e => absurd (of_decide_eq_true e) (by simp)) (fun _ => ?_)⟩
      refine ⟨_, rfl, _, _, _, _, true, rfl, .ty _, .base (.bl b), kit_ty (by decide +kernel), _, rfl, iteT ?_⟩
      refine ⟨_, rfl, _, _, _, _, true, rfl, .ty _, .base (.bl b), kit_ty (by decide +kernel), _, rfl, iteT ?_⟩
      refine ⟨_, rfl, _, rfl, rfl, ?_⟩
      rw [decide_eq_true rfl]
      exact q _ sm
    | int i =>
      refine ⟨_, rfl, two_fits, fun tp ntp => ?_⟩
      have sm : Same H (upd H tp (.tup [V.ty "tuple", V.ty "list"])) := same_new ntp
      cases hx
      cases hy
      refine ⟨_, tp, _, _, _, _, rfl, upd_same, pair_two, .base (.int i), kit_two (b1 := false) (b2 := false) (by decide +kernel) (by decide +kernel), _, rfl, iteF ?_⟩
      refine ⟨_, rfl, rfl, _, rfl, ite2 (fun e => absurd (of_decide_eq_true e) (by simp)) (fun _ => ?_)⟩
      refine ⟨_, rfl, _, _, _, _, false, rfl, .ty _, .base (.int i), kit_ty (by decide +kernel), _, rfl, iteF ?_⟩
      refine ⟨_, rfl, _, _, _, _, false, rfl, .ty _, .base (.int i), kit_ty (by decide +kernel), _, rfl, iteF ?_⟩
      refine ⟨_, rfl, _, _, _, _, true, rfl, .ty _, .base (.int i), kit_ty (by decide +kernel), _, rfl, iteT ?_⟩
      refine ⟨_, rfl, _, _, _, _, false, rfl, .ty _, .base (.int i), kit_ty (by decide +kernel), _, rfl, _, rfl, iteT ?_⟩
      refine ⟨_, rfl, _, rfl, rfl, ?_⟩
      rw [decide_eq_true rfl]
      exact q _ sm
    | str z =>
      refine ⟨_, rfl, two_fits, fun tp ntp => ?_⟩
      have sm : Same H (upd H tp (.tup [V.ty "tuple", V.ty "list"])) := same_new ntp
      cases hx
      cases hy
      refine ⟨_, tp, _, _, _, _, rfl, upd_same, pair_two, .base (.str z), kit_two (b1 := false) (b2 := false) (by decide +kernel) (by decide +kernel), _, rfl, iteF ?_⟩
      refine ⟨_, rfl, rfl, _, rfl, ite2 (fun e => absurd (of_decide_eq_true e) (by simp)) (fun _ => ?_)⟩
      refine ⟨_, rfl, _, _, _, _, false, rfl, .ty _, .base (.str z), kit_ty (by decide +kernel), _, rfl, iteF ?_⟩
      refine ⟨_, rfl, _, _, _, _, true, rfl, .ty _, .base (.str z), kit_ty (by decide +kernel), _, rfl, iteT ?_⟩
      refine ⟨_, rfl, _, _, _, _, true, rfl, .ty _, .base (.str z), kit_ty (by decide +kernel), _, rfl, iteT ?_⟩
      refine ⟨_, rfl, _, rfl, rfl, ?_⟩
      rw [decide_eq_true rfl]
      exact q _ sm
    | list ds =>
      refine ⟨_, rfl, two_fits, fun tp ntp => ?_⟩
      have sm : Same H (upd H tp (.tup [V.ty "tuple", V.ty "list"])) := same_new ntp
      have hq : ∀ H', Same (upd H tp (.tup [V.ty "tuple", V.ty "list"])) H' → Q (.bl true) H' := fun H' e => q _ (sm.trans e)
      have eT : (upd H tp (.tup [V.ty "tuple", V.ty "list"])) tp = some (.tup [V.ty "tuple", V.ty "list"]) := upd_same
      replace hx := Dp.same sm hx
      replace hy := Dp.same sm hy
      generalize upd H tp (.tup [V.ty "tuple", V.ty "list"]) = H at *
      obtain ⟨a, xs, rfl, ha, da⟩ := hx.lstI
      obtain ⟨b, ys, rfl, hb, db⟩ := hy.lstI
      obtain ⟨ok1, ok2⟩ := ok
      have l1 := da.len
      have l2 := db.len
      refine ⟨_, tp, _, _, _, _, rfl, eT, pair_two, (SqL.ty hb), kit_two (b1 := false) (b2 := true) (by decide +kernel) (by decide +kernel), _, rfl, iteT ?_⟩
      refine ⟨_, rfl, _, _, _, _, false, rfl, .ty _, (SqL.ty ha), kit_ty (by decide +kernel), _, rfl, _, _, _, _, false, rfl, .ty _, (SqL.ty hb), kit_ty (by decide +kernel), rfl, _, rfl, iteF ?_⟩
      refine ⟨_, rfl, _, _, _, _, true, rfl, .ty _, (SqL.ty ha), kit_ty (by decide +kernel), _, rfl, _, _, _, _, true, rfl, .ty _, (SqL.ty hb), kit_ty (by decide +kernel), rfl, _, rfl, iteF ?_⟩
      refine ⟨_, rfl, a, _, rfl, .inl ha, _, rfl, b, _, rfl, .inl hb, rfl, _, rfl, iteNS (by rw [l1, l2]) ?_⟩
      refine ⟨_, rfl, b, _, rfl, .inl hb, _, rfl, by omega, by omega, ?_⟩
      have tn : ((ys.length : Nat) : Int).toNat = ds.length := by omega
      rw [tn]
      refine for_range (n := ds.length) (fun i σ H1 => (∃ z : Option V, σ = [some (.ref a), some (.ref b), z]) ∧ Same H H1) ⟨⟨_, rfl⟩, Same.refl H⟩ ?_ ?_
      · rintro i σ H1 hi ⟨⟨z, rfl⟩, sm⟩
        have hd : ds[i]? = some ds[i] := List.getElem?_eq_getElem hi
        obtain ⟨v1, e1, d1⟩ := da.get hd
        obtain ⟨v2, e2, d2⟩ := db.get hd
        have e0 : (0 : Int) + (i : Nat) = (i : Nat) := by omega
        refine ⟨_, rfl, _, rfl, .inl ⟨a, xs, _, v1, rfl, rfl, sm.seq ha, by rw [e0]; exact atI_nat e1, ?_⟩⟩
        refine ⟨_, rfl, _, rfl, .inl ⟨b, ys, _, v2, rfl, rfl, sm.seq hb, by rw [e0]; exact atI_nat e2, ?_⟩⟩
        refine ⟨_, _, _, rfl, Dp.same sm d1, Dp.same sm d2, ok2 _ (List.getElem_mem hi), fun H2 sm2 => ⟨_, rfl, iteF ?_⟩⟩
        exact ⟨⟨_, rfl⟩, sm.trans sm2⟩
      · rintro σ H1 ⟨⟨z, rfl⟩, sm⟩
        exact hq H1 sm
    | tuple ds =>
      refine ⟨_, rfl, two_fits, fun tp ntp => ?_⟩
      have sm : Same H (upd H tp (.tup [V.ty "tuple", V.ty "list"])) := same_new ntp
      have hq : ∀ H', Same (upd H tp (.tup [V.ty "tuple", V.ty "list"])) H' → Q (.bl true) H' := fun H' e => q _ (sm.trans e)
      have eT : (upd H tp (.tup [V.ty "tuple", V.ty "list"])) tp = some (.tup [V.ty "tuple", V.ty "list"]) := upd_same
      replace hx := Dp.same sm hx
      replace hy := Dp.same sm hy
      generalize upd H tp (.tup [V.ty "tuple", V.ty "list"]) = H at *
      obtain ⟨a, xs, rfl, ha, da⟩ := hx.tupI
      obtain ⟨b, ys, rfl, hb, db⟩ := hy.tupI
      obtain ⟨ok1, ok2⟩ := ok
      have l1 := da.len
      have l2 := db.len
      refine ⟨_, tp, _, _, _, _, rfl, eT, pair_two, (SqT.ty hb), kit_two (b1 := true) (b2 := false) (by decide +kernel) (by decide +kernel), _, rfl, iteT ?_⟩
      refine ⟨_, rfl, _, _, _, _, true, rfl, .ty _, (SqT.ty ha), kit_ty (by decide +kernel), _, rfl, _, _, _, _, true, rfl, .ty _, (SqT.ty hb), kit_ty (by decide +kernel), rfl, _, rfl, iteF ?_⟩
      refine ⟨_, rfl, _, _, _, _, false, rfl, .ty _, (SqT.ty ha), kit_ty (by decide +kernel), _, rfl, _, _, _, _, false, rfl, .ty _, (SqT.ty hb), kit_ty (by decide +kernel), rfl, _, rfl, iteF ?_⟩
      refine ⟨_, rfl, a, _, rfl, .inr ha, _, rfl, b, _, rfl, .inr hb, rfl, _, rfl, iteNS (by rw [l1, l2]) ?_⟩
      refine ⟨_, rfl, b, _, rfl, .inr hb, _, rfl, by omega, by omega, ?_⟩
      have tn : ((ys.length : Nat) : Int).toNat = ds.length := by omega
      rw [tn]
      refine for_range (n := ds.length) (fun i σ H1 => (∃ z : Option V, σ = [some (.ref a), some (.ref b), z]) ∧ Same H H1) ⟨⟨_, rfl⟩, Same.refl H⟩ ?_ ?_
      · rintro i σ H1 hi ⟨⟨z, rfl⟩, sm⟩
        have hd : ds[i]? = some ds[i] := List.getElem?_eq_getElem hi
        obtain ⟨v1, e1, d1⟩ := da.get hd
        obtain ⟨v2, e2, d2⟩ := db.get hd
        have e0 : (0 : Int) + (i : Nat) = (i : Nat) := by omega
        refine ⟨_, rfl, _, rfl, .inr (.inl ⟨a, xs, _, v1, rfl, rfl, sm.seqT ha, by rw [e0]; exact atI_nat e1, ?_⟩)⟩
        refine ⟨_, rfl, _, rfl, .inr (.inl ⟨b, ys, _, v2, rfl, rfl, sm.seqT hb, by rw [e0]; exact atI_nat e2, ?_⟩)⟩
        refine ⟨_, _, _, rfl, Dp.same sm d1, Dp.same sm d2, ok2 _ (List.getElem_mem hi), fun H2 sm2 => ⟨_, rfl, iteF ?_⟩⟩
        exact ⟨⟨_, rfl⟩, sm.trans sm2⟩
      · rintro σ H1 ⟨⟨z, rfl⟩, sm⟩
        exact hq H1 sm
    | dict kvs => cases hx

def abc : Str := "abcdefghijklmnopqrstuvwxyz"
theorem abc_len : abc.cps.toList.length = 26 := by decide +kernel
theorem abc_fits : abc.length ≤ sizeLine := by decide +kernel
def wordsV : List V := [V.str "r", V.str "s", V.str "rs", V.str "p", V.str "newa", V.str "abcdefgh"]
theorem words_ok : ∀ v ∈ wordsV, Wd v := by
  intro v hv
  simp only [wordsV, List.mem_cons, List.mem_singleton, List.not_mem_nil, or_false] at hv
  rcases hv with rfl | rfl | rfl | rfl | rfl | rfl
  all_goals exact ⟨_, rfl, by decide +kernel, by decide +kernel⟩
theorem two8_ok : ∀ v ∈ [V.int 2, V.int 8], ∃ x : Nat, v = .int (x : Int) ∧ 1 ≤ x ∧ x ≤ 8 := by
  intro v hv
  simp only [List.mem_cons, List.mem_singleton, List.not_mem_nil, or_false] at hv
  rcases hv with rfl | rfl
  · exact ⟨2, rfl, by omega, by omega⟩
  · exact ⟨8, rfl, by omega, by omega⟩
theorem two4_ok : ∀ v ∈ [V.int 2, V.int 4], ∃ x : Nat, v = .int (x : Int) ∧ 1 ≤ x ∧ x ≤ 4 := by
  intro v hv
  simp only [List.mem_cons, List.mem_singleton, List.not_mem_nil, or_false] at hv
  rcases hv with rfl | rfl
  · exact ⟨2, rfl, by omega, by omega⟩
  · exact ⟨4, rfl, by omega, by omega⟩
def sp__law_word (K : PySem.W.Frag) : Sp := fun vs H Q _ => ∃ (bx c : Addr) (ns : List Int), vs = [.ref bx] ∧ BoxAt bx c ns H ∧
  ∀ (z : Str) (H' : Hp), 1 ≤ z.length → z.length ≤ 8 → Kept bx H H' → BoxAt bx c ns H' → Q (.str z) H'
set_option maxHeartbeats 1000000 in
theorem ok__law_word (F : Fun K "_law_word" "_law_word" s__law_word f fd) (C__law_draw : Cal P w K mg base 2 "_law_draw" s__law_draw ["box", "many"] (sp__law_draw K)) (m_range : mg "range" = none) : FnOk P w K mg base CX0 3 f fd ["box"] (sp__law_word K) := by
  refine F.ok sc__law_word (fun vs H Q E h => ?_) (fun cdv A outer s H vs Q E hr h => ?_)
  · obtain ⟨a, c, ns, rfl, _⟩ := h
    rfl
  obtain ⟨bx, c, ns, rfl, hb, q⟩ := h
  have W := drwB bx c ns
  refine ⟨_, (pss_cons (ps_set (i := 1) sc__law_word.nd rfl (.inr rfl) pe_str)
  (pss_cons (ps_if (pt_cmpR op_eq (pe_cal C__law_draw hr (by first | decide | exact Nat.le_refl _) (by rfl) (pa_cons (pv 0) (pa_cons pe_int pa_nil))) pe_int (nomark _))
  (pss_one (ps_ret (pe_ix ix_list (pe_lst (pa_cons pe_str (pa_cons pe_str (pa_cons pe_str (pa_cons pe_str (pa_cons pe_str (pa_cons pe_str pa_nil))))))) (pe_cal C__law_draw hr (by first | decide | exact Nat.le_refl _) (by rfl) (pa_cons (pv 0) (pa_cons pe_int pa_nil))) (fun _ _ => rfl)))) pss_nil)
  (pss_one (ps_ret (pe_join pe_str (pe_lc (own := [("k", 2)]) rfl sc__law_word.nd (pi_range1 (by rfl) m_range (pa_cons (pe_op op_add pe_int (pe_cal C__law_draw hr (by first | decide | exact Nat.le_refl _) (by rfl) (pa_cons (pv 0) (pa_cons (pe_ix ix_list (pe_lst (pa_cons pe_int (pa_cons pe_int pa_nil))) (pe_cal C__law_draw hr (by first | decide | exact Nat.le_refl _) (by rfl) (pa_cons (pv 0) (pa_cons pe_int pa_nil))) (fun _ _ => rfl)) pa_nil)))) pa_nil)) (blkOk_by (N := ["box", "letters", "k"]) (sc := defScope s__law_word) (by decide +kernel)) (fun _ _ _ _ _ => (pg_name (i := 2) sc__law_word.nd rfl (.inl rfl))) (fun _ _ _ _ _ => pts_nil) (fun _ _ _ _ _ => (pe_ix ix_str (pv 1) (pe_cal C__law_draw hr (by first | decide | exact Nat.le_refl _) (by rfl) (pa_cons (pv 0) (pa_cons pe_int pa_nil))) (fun _ _ => rfl))))))))), ?_⟩
  refine ⟨_, rfl, bx, c, ns, 3, rfl, hb, by decide, by decide, fun d H1 d0 d1 k1 b1 => ⟨rfl, _, rfl, ite2 (fun _ => ?_) (fun _ => ?_)⟩⟩
  · refine ⟨show 6 ≤ sizeLine by decide, fun l nl => ?_⟩
    have s1 := W.new (o := .lst wordsV) b1 nl
    have nls := (W.fresh _ _ b1 nl).1
    refine ⟨_, rfl, bx, c, ns, 6, rfl, s1, by decide, by decide, fun d2 H2 d20 d21 k2 b2 => ?_⟩
    obtain ⟨v, hat, hv⟩ := atI_pick (l := wordsV) d20 (by exact d21)
    obtain ⟨z, rfl, z1, z8⟩ := words_ok v hv
    exact ⟨l, _, d2, _, rfl, rfl, SqL.of (k2 _ _ nls upd_same), hat, q z _ z1 z8 (k1.trans ((Kept.new nl).trans k2)) b2⟩
  · refine ⟨⟨_, rfl⟩, _, rfl, two_fits, fun l nl => ?_⟩
    have s1 := W.new (o := .lst [V.int 2, V.int 8]) b1 nl
    have nls := (W.fresh _ _ b1 nl).1
    refine ⟨_, rfl, bx, c, ns, 2, rfl, s1, by decide, by decide, fun d2 H2 d20 d21 k2 b2 => ?_⟩
    obtain ⟨v, hat, hv⟩ := atI_pick (l := [V.int 2, V.int 8]) d20 (by exact d21)
    obtain ⟨m, rfl, m1, m8⟩ := two8_ok v hv
    refine ⟨l, _, d2, _, rfl, rfl, SqL.of (k2 _ _ nls upd_same), hat, ?_⟩
    refine ⟨bx, c, ns, m, rfl, b2, by omega, by omega, fun d3 H3 d30 d31 k3 b3 => ?_⟩
    obtain ⟨j, rfl⟩ := Int.eq_ofNat_of_zero_le d30
    refine ⟨_, _, rfl, rfl, _, rfl, by omega, by omega, fun D nD => ?_⟩
    have tn : ((1 : Int) + (j : Nat)).toNat = 1 + j := by omega
    rw [tn]
    refine lc_draw W (fun _ v => One v) (fun _ _ _ _ h => h) (by omega) b3 nD (fun _ => rfl) ?_ ?_
    · intro i H4 hi s4 k4 R hR
      refine ⟨_, rfl, _, rfl, bx, c, ns, 26, rfl, s4, by decide, by decide, fun d H5 h0 h1 k5 s5 => ?_⟩
      obtain ⟨ch, hat, _⟩ := atI_pick (l := abc.cps.toList) h0 (by rw [abc_len]; exact h1)
      exact ⟨abc, d, ch, rfl, rfl, abc_fits, hat, hR _ _ ⟨ch, rfl⟩ k5 s5⟩
    intro H5 xs l5 o5 e5 k5 s5
    obtain ⟨ys, rfl, y1⟩ := ones_strs1 o5
    rw [List.length_map] at l5
    refine ⟨Str.empty, D, ys, congrArg V.str empty_eq, rfl, .inl (SqL.of e5), word_sum (n := 1 + j) (by omega) (fun y hy => Nat.le_of_eq (y1 y hy)) (by omega), ?_⟩
    have lA : (Txt.join Str.empty ys).length = 1 + j := word_lenE l5 y1
    exact q _ _ (by omega) (by omega) (k1.trans (((Kept.new nl).trans k2).trans (k3.trans k5))) s5

def abc19 : Str := "abcdefghijklmnopqrs"
def sp__law_names (K : PySem.W.Frag) : Sp := fun vs H Q _ => ∃ (bx c : Addr) (ns : List Int) (many : Nat), vs = [.ref bx, .int (many : Int)] ∧ BoxAt bx c ns H ∧ many ≤ 16 ∧
  ∀ (D : Addr) (l : List Str) (H' : Hp), l.length = many → (∀ z ∈ l, 1 ≤ z.length ∧ z.length ≤ 8) → H D = none → H' D = some (.lst (l.map V.str)) → Kept bx H H' → BoxAt bx c ns H' → Q (.ref D) H'
set_option maxHeartbeats 1000000 in
theorem ok__law_names (F : Fun K "_law_names" "_law_names" s__law_names f fd) (C__law_word : Cal P w K mg base 3 "_law_word" s__law_word ["box"] (sp__law_word K)) (m_range : mg "range" = none) : FnOk P w K mg base CX0 4 f fd ["box", "many"] (sp__law_names K) := by
  refine F.ok sc__law_names (fun vs H Q E h => ?_) (fun cdv A outer s H vs Q E hr h => ?_)
  · obtain ⟨a, c, ns, m, rfl, _⟩ := h
    rfl
  obtain ⟨bx, c, ns, many, rfl, hb, hm, q⟩ := h
  have W := drwB bx c ns
  refine ⟨_, (pss_cons (ps_set (i := 5) sc__law_names.nd rfl (.inl rfl) (pe_lst pa_nil))
  (pss_cons (ps_for PassesOwn.never rfl (pi_range1 (by rfl) m_range (pa_cons (pv 1) pa_nil)) (pg_name (i := 2) sc__law_names.nd rfl (.inl rfl))
  (pss_cons (ps_set (i := 4) sc__law_names.nd rfl (.inl rfl) (pe_cal C__law_word hr (by first | decide | exact Nat.le_refl _) (by rfl) (pa_cons (pv 0) pa_nil)))
  (pss_cons (ps_for PassesOwn.never rfl (pi_str pe_str) (pg_name (i := 3) sc__law_names.nd rfl (.inl rfl))
  (pss_one (ps_if (pt_cmpR op_in_seq (pv 4) (pv 5) (by rfl))
  (pss_one (ps_set (i := 4) sc__law_names.nd rfl (.inl rfl) (pe_op op_add_str (pe_slice sl_str (pv 4) po_none (po_some pe_int)) (pv 3)))) pss_nil)))
  (pss_one (ps_expr (pe_bm PySem.F.plainAttrs_list PySem.F.slot_list_append PySem.F.type_list_append mt_append (pv 5) (pa_cons (pv 4) pa_nil)))))))
  (pss_one (ps_ret (pv 5))))), ?_⟩
  refine ⟨Nat.zero_le _, fun D nD => ?_⟩
  have nDb := (W.fresh _ _ hb nD).1
  have put := (W.fresh _ _ hb nD).2
  refine ⟨_, rfl, _, rfl, by omega, by omega, ?_⟩
  have tn : ((many : Nat) : Int).toNat = many := by omega
  rw [tn]
  refine for_range (n := many) (fun i σ H' => (∃ (a2 a3 a4 : Option V), σ = [some (.ref bx), some (.int (many : Int)), a2, a3, a4, some (.ref D)]) ∧ ∃ l : List Str,
    H' D = some (.lst (l.map V.str)) ∧ l.length = i ∧ (∀ z ∈ l, 1 ≤ z.length ∧ z.length ≤ 8) ∧ Kept bx H H' ∧ BoxAt bx c ns H')
    ⟨⟨_, _, _, rfl⟩, [], upd_same, rfl, by simp, Kept.new nD, W.new hb nD⟩ ?_ ?_
  · rintro i σ H1 hi ⟨⟨a2, a3, a4, rfl⟩, l, f1, f2, f3, f4, f5⟩
    refine ⟨_, rfl, bx, c, ns, rfl, f5, fun z H2 z1 z8 k2 b2 => ?_⟩
    have f1' := k2 _ _ nDb f1
    refine ⟨abc19, rfl, for_it walk_str (fun j σ H' => (∃ (a2 a3 : Option V) (y : Str), σ = [some (.ref bx), some (.int (many : Int)), a2, a3, some (.str y), some (.ref D)] ∧ 1 ≤ y.length ∧ y.length ≤ 8) ∧ H' = H2)
      ⟨⟨_, _, z, rfl, z1, z8⟩, rfl⟩ (fun _ _ _ _ _ => trivial) ?_ ?_⟩
    · rintro j v σ H3 H4 hj ⟨⟨b2, b3, y, rfl, y1, y8⟩, rfl⟩ ⟨rfl, ch, hch, rfl⟩
      have small : (10 : Nat) ≤ sizeLine := by decide
      refine ⟨_, rfl, _, rfl, D, _, rfl, .inl (SqL.of f1'), rfl, flat_strs l, _, rfl, ite2 (fun _ => ?_) (fun _ => ?_)⟩
      · have h7 := cutS_take7 y
        have h1 : (⟨#[ch]⟩ : Str).length = 1 := rfl
        refine ⟨_, rfl, 7, rfl, y, rfl, by omega, _, rfl, _, _, rfl, rfl, by omega, ?_⟩
        refine ⟨⟨_, _, _, rfl, ?_, ?_⟩, rfl⟩
        · rw [PySem.Str.length_append]
          omega
        · rw [PySem.Str.length_append]
          omega
      · exact ⟨⟨_, _, _, rfl, y1, y8⟩, rfl⟩
    · rintro σ H3 ⟨⟨b2, b3, y, rfl, y1, y8⟩, rfl⟩
      refine ⟨_, rfl, .inl ⟨rfl, _, SqL.of f1'⟩, _, rfl, D, _, _, rfl, rfl, f1', small1000 (by rw [List.length_map]; omega), ?_⟩
      refine ⟨⟨_, _, _, rfl⟩, l ++ [y], by rw [upd_same, List.map_append]; rfl, by simp [f2], fun x hx => ?_, Kept.over nD (f4.trans k2), put _ _ b2⟩
      rcases List.mem_append.mp hx with hx | hx
      · exact f3 x hx
      · rw [List.mem_singleton.mp hx]
        exact ⟨y1, y8⟩
  · rintro σ H1 ⟨⟨a2, a3, a4, rfl⟩, l, f1, f2, f3, f4, f5⟩
    exact ⟨_, rfl, q D l _ f2 f3 nD f1 f4 f5⟩

def PlacesIn (sorts : Nat) (ps : List RP) : Prop := ∀ q ∈ ps, ∀ s ∈ q.2.2, s < sorts
def sp__law_language (K : PySem.W.Frag) : Sp := fun vs H Q _ => ∃ (bx c : Addr) (ns : List Int) (most : Nat), vs = [.ref bx, .int (most : Int)] ∧ BoxAt bx c ns H ∧ most ≤ 16 ∧
  ∀ (t rt : Addr) (sorts : Nat) (ps : List RP) (H' : Hp), 1 ≤ sorts → sorts ≤ 4 → ps.length ≤ most → (∀ q ∈ ps, RelOk q) → PlacesIn sorts ps → SqT K H' t [.int (sorts : Int), .ref rt] → RelsAt K H' rt ps → Kept bx H H' → BoxAt bx c ns H' → Q (.ref t) H'
set_option maxHeartbeats 2000000 in
theorem ok__law_language (F : Fun K "_law_language" "_law_language" s__law_language f fd) (C__law_names : Cal P w K mg base 4 "_law_names" s__law_names ["box", "many"] (sp__law_names K)) (C__law_draw : Cal P w K mg base 2 "_law_draw" s__law_draw ["box", "many"] (sp__law_draw K)) (m_tuple : mg "tuple" = none) (m_range : mg "range" = none) : FnOk P w K mg base CX0 5 f fd ["box", "most"] (sp__law_language K) := by
  refine F.ok sc__law_language (fun vs H Q E h => ?_) (fun cdv A outer s H vs Q E hr h => ?_)
  · obtain ⟨a, c, ns, m, rfl, _⟩ := h
    rfl
  obtain ⟨bx, c, ns, most, rfl, hb, hm, q⟩ := h
  have W := drwB bx c ns
  refine ⟨_, (pss_cons (ps_set (i := 5) sc__law_language.nd rfl (.inr rfl) (pe_op op_add pe_int (pe_cal C__law_draw hr (by first | decide | exact Nat.le_refl _) (by rfl) (pa_cons (pv 0) (pa_cons pe_int pa_nil)))))
  (pss_cons (ps_set (i := 4) sc__law_language.nd rfl (.inl rfl) (pe_lst pa_nil))
  (pss_cons (ps_for PassesOwn.never rfl (pi_list (pe_cal C__law_names hr (by first | decide | exact Nat.le_refl _) (by rfl) (pa_cons (pv 0) (pa_cons (pe_cal C__law_draw hr (by first | decide | exact Nat.le_refl _) (by rfl) (pa_cons (pv 0) (pa_cons (pe_op op_add (pv 1) pe_int) pa_nil))) pa_nil)))) (pg_name (i := 2) sc__law_language.nd rfl (.inl rfl))
  (pss_cons (ps_set (i := 3) sc__law_language.nd rfl (.inl rfl) (pe_callTy call_tuple_of (by rfl) m_tuple (by decide +kernel) (pa_cons (pe_lc (own := [("k", 6)]) rfl sc__law_language.nd (pi_range1 (by rfl) m_range (pa_cons (pe_op op_add pe_int (pe_cal C__law_draw hr (by first | decide | exact Nat.le_refl _) (by rfl) (pa_cons (pv 0) (pa_cons (pe_ix ix_list (pe_lst (pa_cons pe_int (pa_cons pe_int pa_nil))) (pe_cal C__law_draw hr (by first | decide | exact Nat.le_refl _) (by rfl) (pa_cons (pv 0) (pa_cons pe_int pa_nil))) (fun _ _ => rfl)) pa_nil)))) pa_nil)) (blkOk_by (N := ["box", "most", "name", "places", "relations", "sorts", "k"]) (sc := defScope s__law_language) (by decide +kernel)) (fun _ _ _ _ _ => (pg_name (i := 6) sc__law_language.nd rfl (.inl rfl))) (fun _ _ _ _ _ => pts_nil) (fun _ _ _ _ _ => (pe_cal C__law_draw hr (by first | decide | exact Nat.le_refl _) (by rfl) (pa_cons (pv 0) (pa_cons (pv 5) pa_nil))))) pa_nil)))
  (pss_one (ps_expr (pe_bm PySem.F.plainAttrs_list PySem.F.slot_list_append PySem.F.type_list_append mt_append (pv 4) (pa_cons (pe_tup (pa_cons (pv 2) (pa_cons (pv 3) pa_nil))) pa_nil))))))
  (pss_one (ps_ret (pe_tup (pa_cons (pv 5) (pa_cons (pe_callTy call_tuple_of (by rfl) m_tuple (by decide +kernel) (pa_cons (pv 4) pa_nil)) pa_nil)))))))), ?_⟩
  refine ⟨_, rfl, bx, c, ns, 4, rfl, hb, by decide, by decide, fun d1 H1 d10 d11 k1 b1 => ⟨_, _, rfl, rfl, ?_⟩⟩
  obtain ⟨s0, rfl⟩ := Int.eq_ofNat_of_zero_le d10
  have es : (1 : Int) + (s0 : Nat) = ((1 + s0 : Nat) : Int) := by omega
  show gName 5 (V.int ((1 : Int) + (s0 : Nat))) _ _ _
  rw [es]
  have hso : 1 ≤ 1 + s0 ∧ 1 + s0 ≤ 4 := by omega
  generalize 1 + s0 = sorts at hso
  obtain ⟨so1, so4⟩ := hso
  clear es d10 d11
  -- relations = []
  refine ⟨Nat.zero_le _, fun R nR => ?_⟩
  have b2 := W.new (o := .lst ([] : List V)) b1 nR
  have nRb := (W.fresh _ _ b1 nR).1
  have putR := (W.fresh _ _ b1 nR).2
  have k2 : Kept bx H (upd H1 R (.lst ([] : List V))) := k1.trans (Kept.new nR)
  have hR : H R = none := by
    cases e : H R with
    | none => rfl
    | some o =>
      have z := k1 R o nRb e
      rw [nR] at z
      cases z
  have eR : (upd H1 R (.lst ([] : List V))) R = some (.lst ((relV []))) := upd_same
  generalize upd H1 R (.lst ([] : List V)) = H2 at b2 k2 eR
  refine ⟨_, rfl, _, rfl, _, rfl, _, _, rfl, rfl, bx, c, ns, _, rfl, b2, by omega, by omega, fun d3 H3 d30 d31 k3 b3 => ?_⟩
  obtain ⟨many, rfl⟩ := Int.eq_ofNat_of_zero_le d30
  refine ⟨bx, c, ns, many, rfl, b3, by omega, fun D l H4 l1 l2 nD eD k4 b4 => ?_⟩
  have eR4 : H4 R = some (.lst (relV [])) := k4 _ _ nRb (k3 _ _ nRb eR)
  have nDb : D ≠ bx := (W.fresh _ _ b3 nD).1
  have nDR : D ≠ R := fun e => by
    rw [e, k3 _ _ nRb eR] at nD
    cases nD
  have k40 : Kept bx H H4 := k2.trans (k3.trans k4)
  refine ⟨D, rfl, ⟨_, SqL.of eD⟩, for_list (xs := l.map V.str) (fun i σ H' => (∃ (a2 a3 a4 : Option V), σ = [some (.ref bx), some (.int (most : Int)), a2, a3, some (.ref R), some (.int (sorts : Int)), a4]) ∧ ∃ ps : List RP,
      H' R = some (.lst (relV ps)) ∧ ps.length = i ∧ (∀ q ∈ ps, RelOk q) ∧ PlacesIn sorts ps ∧ (∀ q ∈ ps, RelOne K H' q) ∧ H' D = some (.lst (l.map V.str)) ∧ Kept bx H H' ∧ BoxAt bx c ns H')
    ⟨⟨_, _, _, rfl⟩, [], eR4, rfl, by simp, fun q hq => by simp at hq, by simp, eD, k40, b4⟩ (fun i σ H' _ h => by
      obtain ⟨_, ps, _, _, _, _, _, f6, _⟩ := h
      exact SqL.of f6) ?_ ?_⟩
  · rintro i v σ H5 hv ⟨⟨a2, a3, a4, rfl⟩, ps, f1, f2, f3, f4, f5, f6, f7, f8⟩
    rw [List.getElem?_map] at hv
    obtain ⟨z, hz, rfl⟩ := Option.map_eq_some_iff.mp hv
    obtain ⟨z1, z8⟩ := l2 z (List.mem_of_getElem? hz)
    have hi : i < l.length := (List.getElem?_eq_some_iff.mp hz).1
    refine ⟨_, rfl, two_fits, fun l3 nl3 => ?_⟩
    have t1 := W.new (o := .lst [V.int 2, V.int 4]) f8 nl3
    have nls := (W.fresh _ _ f8 nl3).1
    refine ⟨_, rfl, bx, c, ns, 2, rfl, t1, by decide, by decide, fun d5 H6 d50 d51 k6 b6 => ?_⟩
    obtain ⟨v, hat, hv⟩ := atI_pick (l := [V.int 2, V.int 4]) d50 (by exact d51)
    obtain ⟨m, rfl, m1, m4⟩ := two4_ok v hv
    refine ⟨l3, _, d5, _, rfl, rfl, SqL.of (k6 _ _ nls upd_same), hat, ?_⟩
    refine ⟨bx, c, ns, m, rfl, b6, by omega, by omega, fun d7 H7 d70 d71 k7 b7 => ?_⟩
    obtain ⟨j, rfl⟩ := Int.eq_ofNat_of_zero_le d70
    have kk : Kept bx H5 H7 := ((Kept.new nl3).trans k6).trans k7
    refine ⟨_, _, rfl, rfl, _, rfl, by omega, by omega, fun E nE => ?_⟩
    have tn : ((1 : Int) + (j : Nat)).toNat = 1 + j := by omega
    rw [tn]
    refine lc_draw W (fun _ v => Nums sorts v) (fun _ _ _ _ h => h) (by omega) b7 nE (fun _ => rfl) ?_ ?_
    · intro k H8 hk s8 k8 R hR
      refine ⟨_, rfl, _, rfl, bx, c, ns, _, rfl, s8, by omega, by omega, fun d H9 h0 h1 k9 s9 => hR _ _ ?_ k9 s9⟩
      obtain ⟨x, rfl⟩ := Int.eq_ofNat_of_zero_le h0
      exact ⟨x, rfl, by omega⟩
    intro H8 xs l8 o8 e8 k8 b8
    obtain ⟨pls, rfl, pb⟩ := nums_ints o8
    have lp : pls.length = 1 + j := by simpa [intsV] using l8
    refine ⟨E, _, rfl, .inl ⟨SqL.of e8, fun pa npa => ?_⟩⟩
    have k9 : Kept bx H5 H8 := kk.trans k8
    have k9' := k9
    have e8R : (upd H8 pa (.tup (intsV pls))) R = some (.lst (relV ps)) := by
      rw [upd_ne (ne_of_none (k9 _ _ nRb f1) npa)]
      exact k9 _ _ nRb f1
    have e8D : (upd H8 pa (.tup (intsV pls))) D = some (.lst (l.map V.str)) := by
      rw [upd_ne (ne_of_none (k9 _ _ nDb f6) npa)]
      exact k9 _ _ nDb f6
    have b9 := W.new (o := .tup (intsV pls)) b8 npa
    have t9 : Tups H5 (upd H8 pa (.tup (intsV pls))) := (W.tups f8 k9).trans (Tups.new npa)
    have qa : SqT K (upd H8 pa (.tup (intsV pls))) pa (intsV pls) := .inl (.inl upd_same)
    have k10 : Kept bx H (upd H8 pa (.tup (intsV pls))) := f7.trans (k9.trans (Kept.new npa))
    generalize upd H8 pa (.tup (intsV pls)) = H9 at e8R e8D b9 t9 qa k10
    refine ⟨_, rfl, .inl ⟨rfl, _, SqL.of e8R⟩, _, rfl, _, rfl, two_fits, fun tq ntq => ?_⟩
    have ntR := ne_of_none e8R ntq
    have ntD := ne_of_none e8D ntq
    refine ⟨R, _, _, rfl, rfl, by rw [upd_ne ntR]; exact e8R, small1000 (by rw [relV_len]; omega), ?_⟩
    have eR9 : (upd H9 tq (.tup [V.str z, V.ref pa])) R = some (.lst (relV ps)) := by rw [upd_ne ntR]; exact e8R
    have t10 : Tups H9 (upd (upd H9 tq (.tup [V.str z, V.ref pa])) R (.lst (relV ps ++ [V.ref tq]))) := (Tups.new ntq).trans (Tups.lst eR9)
    have qt : SqT K (upd (upd H9 tq (.tup [V.str z, V.ref pa])) R (.lst (relV ps ++ [V.ref tq]))) tq [V.str z, V.ref pa] := Tups.lst eR9 _ _ _ (.inl (.inl upd_same))
    refine ⟨⟨_, _, _, rfl⟩, ps ++ [((tq, pa), (z, pls))], by rw [upd_same]; simp [relV], by simp [f2], fun q hq => ?_, fun q hq => ?_, fun q hq => ?_, ?_, Kept.over hR (k10.trans (Kept.new ntq)), putR _ _ (W.new b9 ntq)⟩
    · rcases List.mem_append.mp hq with hq | hq
      · exact f3 q hq
      · rw [List.mem_singleton.mp hq]
        exact ⟨z1, z8, by show 1 ≤ pls.length; omega, by show pls.length ≤ 4; omega⟩
    · rcases List.mem_append.mp hq with hq | hq
      · exact f4 q hq
      · rw [List.mem_singleton.mp hq]
        exact pb
    · rcases List.mem_append.mp hq with hq | hq
      · exact (f5 q hq).tups (t9.trans t10)
      · rw [List.mem_singleton.mp hq]
        exact ⟨qt, t10 _ _ _ qa⟩
    · rw [upd_ne nDR, upd_ne ntD]
      exact e8D
  · rintro σ H5 ⟨⟨a2, a3, a4, rfl⟩, ps, f1, f2, f3, f4, f5, f6, f7, f8⟩
    refine ⟨_, rfl, _, rfl, R, _, rfl, .inl ⟨SqL.of f1, fun rt nrt => ?_⟩⟩
    refine ⟨two_fits, fun t nt => ?_⟩
    have n1 : rt ≠ t := fun e => by
      rw [← e, upd_same] at nt
      cases nt
    have t6 := (Tups.new (o := .tup (relV ps)) nrt).trans (Tups.new (o := .tup [.int (sorts : Int), .ref rt]) nt)
    rw [List.length_map] at f2
    exact q t rt sorts ps _ so1 so4 (by omega) f3 f4 (.inl (.inl upd_same)) ⟨Tups.new nt _ _ _ (.inl (.inl upd_same)), fun q hq => (f5 q hq).tups t6⟩ (f7.trans ((Kept.new nrt).trans (Kept.new nt))) (W.new (W.new f8 nrt) nt)


def sp_width (K : PySem.W.Frag) : Sp := fun vs H Q _ => ∃ (t rt : Addr) (so : V) (ps : List RP), vs = [.ref t] ∧ SqT K H t [so, .ref rt] ∧ RelsAt K H rt ps ∧ (∀ q ∈ ps, RelOk q) ∧ ps.length ≤ 16 ∧ ∀ H', Same H H' → Q (.int (widthOf ps : Nat)) H'
theorem intsV_len (l : List Nat) : (intsV l).length = l.length := List.length_map _
theorem lensV_take (ps : List RP) (m : Nat) (q : RP) (h : ps[m]? = some q) : (lensV (ps.take (m + 1))).map V.int = (lensV (ps.take m)).map V.int ++ [V.int (q.2.2.length : Nat)] := by
  unfold lensV
  rw [List.take_add_one, h, List.map_append, List.map_append]
  rfl
theorem ok_width (F : Fun K "width" "width" s_width f fd) (m_max : mg "max" = none) (m_len : mg "len" = none) : FnOk P w K mg base CX0 1 f fd ["language"] (sp_width K) := by
  refine F.ok sc_width (fun vs H Q E h => ?_) (fun cdv A outer s H vs Q E hr h => ?_)
  · obtain ⟨t, rt, so, ps, rfl, _⟩ := h
    rfl
  obtain ⟨t, rt, so, ps, rfl, hT, ⟨hR, hO⟩, hok, h16, q⟩ := h
  refine ⟨_, (pss_one (ps_ret (pe_callBK (cr_maxDef rfl) (by rfl) m_max (by decide +kernel) (pa_cons (pe_lc (own := [("_", 1), ("places", 2)]) rfl sc_width.nd (pi_tup (pe_ix ix_tup (pv 0) pe_int (fun _ _ => rfl))) (blkOk_by (N := ["language", "_", "places"]) (sc := defScope s_width) (by decide +kernel)) (fun _ _ _ _ _ => (pg_tupK K rfl 2 rfl (pgs_cons (pg_name (i := 1) sc_width.nd rfl (.inl rfl)) (pgs_cons (pg_name (i := 2) sc_width.nd rfl (.inl rfl)) pgs_nil)))) (fun _ _ _ _ _ => pts_nil) (fun _ _ _ _ _ => (pe_callB (call_len_seqK K rfl) (by rfl) m_len (by decide +kernel) (pa_cons (pv 2) pa_nil)))) pa_nil) (pk_cons pe_int pk_nil)))), ?_⟩
  refine ⟨_, rfl, t, _, 1, _, rfl, rfl, hT, rfl, rt, rfl, ⟨_, hR⟩, fun D nD => ?_⟩
  refine lc_it (walk_tup (xs := relV ps)) (fun m H' => H' D = some (.lst ((lensV (ps.take m)).map V.int)) ∧ Same H H')
    ⟨upd_same, same_new nD⟩ (fun m H' _ h => h.2.seqT hR) ?_ ?_
  · rintro m v _ H3 hm ⟨c1, c2⟩ ⟨rfl, hx⟩
    obtain ⟨r, hr, rfl⟩ := relV_get hx
    obtain ⟨z1, z2⟩ := hO r (List.mem_of_getElem? hr)
    refine ⟨r.1.1, _, rfl, c2.seqT z1, rfl, .str r.2.1, [.ref r.1.2], rfl, .ref r.1.2, [], rfl, rfl, rfl, yes_ ?_⟩
    refine ⟨_, rfl, r.1.2, _, rfl, .inr (c2.seqT z2), _, c1, ?_, ?_, Same.over nD c2⟩
    · rw [List.length_map]
      unfold lensV
      rw [List.length_map, List.length_take]
      exact small1000 (by omega)
    · rw [upd_same, lensV_take ps m r hr, intsV_len]
  · rintro H3 ⟨c1, c2⟩
    rw [relV_len, List.take_length] at c1
    refine ⟨D, lensV ps, _, rfl, rfl, SqL.of c1, fun e => ?_, fun m h1 h2 => ?_⟩
    · have e2 : ps = [] := List.map_eq_nil_iff.mp e
      have z := q H3 c2
      rw [e2] at z
      exact z
    · rw [width_max hok h1 h2]
      exact q H3 c2

def sp_relation_number (K : PySem.W.Frag) : Sp := fun vs H Q _ => ∃ (t rt : Addr) (so : V) (ps : List RP) (z : Str), vs = [.ref t, .str z] ∧ SqT K H t [so, .ref rt] ∧ RelsAt K H rt ps ∧ ps.length ≤ 16 ∧ ∀ H', Same H H' → Q (placeV ps z) H'
theorem isAt_of {ps : List RP} {z : Str} {i : Nat} {q : RP} (h : ps[i]? = some q) : isAt ps z i = decide (q.2.1 = z) := by
  unfold isAt
  rw [h]
theorem ok_relation_number (F : Fun K "relation_number" "relation_number" s_relation_number f fd) (m_enumerate : mg "enumerate" = none) : FnOk P w K mg base CX0 1 f fd ["language", "name"] (sp_relation_number K) := by
  refine F.ok sc_relation_number (fun vs H Q E h => ?_) (fun cdv A outer s H vs Q E hr h => ?_)
  · obtain ⟨t, rt, so, ps, z, rfl, _⟩ := h
    rfl
  obtain ⟨t, rt, so, ps, z, rfl, hT, ⟨hR, hO⟩, h16, q⟩ := h
  refine ⟨_, (pss_cons (ps_for PassesOwn.never rfl (pi_enumT K rfl (by rfl) m_enumerate (pa_cons (pe_ix ix_tup (pv 0) pe_int (fun _ _ => rfl)) pa_nil)) (pg_tup rfl (pgs_cons (pg_name (i := 2) sc_relation_number.nd rfl (.inl rfl)) (pgs_cons (pg_name (i := 3) sc_relation_number.nd rfl (.inl rfl)) pgs_nil)))
  (pss_one (ps_if (pt_cmpR op_eq (pe_ix ix_tup (pv 3) pe_int (fun _ _ => rfl)) (pv 1) (nomark _))
  (pss_one (ps_ret (pv 2))) pss_nil)))
  (pss_one (ps_ret pe_non))), ?_⟩
  refine ⟨_, rfl, t, _, 1, _, rfl, rfl, hT, rfl, rt, _, rfl, hR, ?_⟩
  refine for_it walk_enumT (fun i σ H' => (∃ a2 a3 : Option V, σ = [some (.ref t), some (.str z), a2, a3]) ∧ Same H H' ∧ ∀ j, j < i → isAt ps z j = false)
    ⟨⟨_, _, rfl⟩, Same.refl H, fun j hj => absurd hj (Nat.not_lt_zero j)⟩ (fun i σ H' _ h => h.2.1.seqT hR) ?_ ?_
  · rintro i v σ H1 H2 hi ⟨⟨a2, a3, rfl⟩, sm, no⟩ ⟨T, x, y, rfl, nT, rfl, hx, hy⟩
    cases hx
    obtain ⟨r, hr, rfl⟩ := relV_get hy
    obtain ⟨z1, z2⟩ := hO r (List.mem_of_getElem? hr)
    have sm2 : Same H (upd H1 T (.tup [.int (i : Nat), .ref r.1.1])) := sm.trans (same_new nT)
    refine ⟨T, [.int (i : Nat), .ref r.1.1], rfl, .inl (.inl upd_same), rfl, .int (i : Nat), [.ref r.1.1], rfl, .ref r.1.1, [], rfl, rfl, ?_⟩
    generalize upd H1 T (.tup [.int (i : Nat), .ref r.1.1]) = H2 at sm2
    refine ⟨_, rfl, r.1.1, _, 0, _, rfl, rfl, sm2.seqT z1, rfl, _, rfl, rfl, _, rfl, ite2 (fun e => ?_) (fun e => ?_)⟩
    · have e2 : r.2.1 = z := V.str.inj (of_decide_eq_true e)
      refine ⟨_, rfl, ?_⟩
      rw [← place_first hr e2 no]
      exact q _ sm2
    · refine ⟨⟨_, _, rfl⟩, sm2, fun j hj => ?_⟩
      rcases Nat.lt_or_ge j i with h | h
      · exact no j h
      · rw [show j = i by omega, isAt_of hr]
        exact decide_eq_false fun e2 => e (decide_eq_true (by rw [e2]))
  · rintro σ H1 ⟨⟨a2, a3, rfl⟩, sm, no⟩
    rw [relV_len] at no
    have z := q _ sm
    rw [place_none no] at z
    exact z

def sp__law_width (K : PySem.W.Frag) : Sp := fun vs H Q _ => ∃ (rt : Addr) (ps : List RP), vs = [.ref rt] ∧ RelsAt K H rt ps ∧ ps.length ≤ 16 ∧ ∀ H', Same H H' → Q (.int (widthOf ps : Nat)) H'
theorem any_hasW (ps : List RP) (m : Nat) : (ps.map fun q => decide (V.int ((q.2.2.length : Nat) : Int) = V.int (m : Int))).any id = hasW ps m := by
  unfold hasW
  rw [List.any_map]
  congr 1
  funext q
  show decide _ = decide _
  refine decide_eq_decide.mpr ⟨fun e => ?_, fun e => by rw [e]⟩
  have := V.int.inj e
  omega
def dwn (i : Nat) : Nat := 4 - i
theorem dwn_get {i : Nat} {v : V} (h : [V.int 4, V.int 3, V.int 2][i]? = some v) : i < 3 ∧ v = .int (dwn i : Nat) := by
  match i, h with
  | 0, h => cases (show some _ = some _ from h); exact ⟨by omega, rfl⟩
  | 1, h => cases (show some _ = some _ from h); exact ⟨by omega, rfl⟩
  | 2, h => cases (show some _ = some _ from h); exact ⟨by omega, rfl⟩
  | i + 3, h => simp at h
theorem width_at {ps : List RP} {i : Nat} (hi : i < 3) (yes : hasW ps (dwn i) = true) (no : ∀ j, j < i → hasW ps (dwn j) = false) : widthOf ps = dwn i := by
  unfold widthOf
  match i, hi, yes, no with
  | 0, _, yes, _ => rw [show hasW ps 4 = true from yes]; rfl
  | 1, _, yes, no => rw [show hasW ps 4 = false from no 0 (by omega), show hasW ps 3 = true from yes]; rfl
  | 2, _, yes, no => rw [show hasW ps 4 = false from no 0 (by omega), show hasW ps 3 = false from no 1 (by omega), show hasW ps 2 = true from yes]; rfl
theorem width_one {ps : List RP} (no : ∀ j, j < 3 → hasW ps (dwn j) = false) : widthOf ps = 1 := by
  unfold widthOf
  rw [show hasW ps 4 = false from no 0 (by omega), show hasW ps 3 = false from no 1 (by omega), show hasW ps 2 = false from no 2 (by omega)]
  rfl
set_option maxHeartbeats 1000000 in
theorem ok__law_width (F : Fun K "_law_width" "_law_width" s__law_width f fd) (m_any : mg "any" = none) (m_len : mg "len" = none) : FnOk P w K mg base CX0 1 f fd ["relations"] (sp__law_width K) := by
  refine F.ok sc__law_width (fun vs H Q E h => ?_) (fun cdv A outer s H vs Q E hr h => ?_)
  · obtain ⟨rt, ps, rfl, _⟩ := h
    rfl
  obtain ⟨rt, ps, rfl, ⟨hR, hO⟩, h16, q⟩ := h
  refine ⟨_, (pss_cons (ps_for PassesOwn.never rfl (pi_list (pe_lst (pa_cons pe_int (pa_cons pe_int (pa_cons pe_int pa_nil))))) (pg_name (i := 1) sc__law_width.nd rfl (.inr rfl))
  (pss_one (ps_if (pt_val (pe_callB (cr_any rfl) (by rfl) m_any (by decide +kernel) (pa_cons (pe_lc (own := [("pair", 2)]) rfl sc__law_width.nd (pi_tup (pv 0)) (blkOk_by (N := ["relations", "many", "pair"]) (sc := defScope s__law_width) (by decide +kernel)) (fun _ _ _ _ _ => (pg_name (i := 2) sc__law_width.nd rfl (.inl rfl))) (fun _ _ _ _ _ => pts_nil) (fun _ _ _ _ _ => (pe_cmpR op_eq (pe_callB (call_len_seqK K rfl) (by rfl) m_len (by decide +kernel) (pa_cons (pe_ix (ix_tupK K rfl) (pv 2) pe_int (fun _ _ => rfl)) pa_nil)) (pv 1) (nomark _)))) pa_nil)))
  (pss_one (ps_ret (pv 1))) pss_nil)))
  (pss_one (ps_ret pe_int))), ?_⟩
  refine ⟨show 3 ≤ sizeLine by decide, fun l nl => ?_⟩
  have sm0 : Same H (upd H l (.lst [V.int 4, V.int 3, V.int 2])) := same_new nl
  refine ⟨l, rfl, ⟨_, SqL.of upd_same⟩, for_list (xs := [V.int 4, V.int 3, V.int 2]) (fun i σ H' => (∃ a1 a2 : Option V, σ = [some (.ref rt), a1, a2]) ∧ Same H H' ∧ H' l = some (.lst [V.int 4, V.int 3, V.int 2]) ∧ ∀ j, j < i → hasW ps (dwn j) = false)
    ⟨⟨_, _, rfl⟩, sm0, upd_same, fun j hj => absurd hj (Nat.not_lt_zero j)⟩ (fun i σ H' _ h => SqL.of h.2.2.1) ?_ ?_⟩
  · rintro i v σ H1 hv ⟨⟨a1, a2, rfl⟩, sm, el, no⟩
    obtain ⟨hi, rfl⟩ := dwn_get hv
    refine ⟨_, rfl, rt, rfl, ⟨_, sm.seqT hR⟩, fun D nD => ?_⟩
    refine lc_it (walk_tup (xs := relV ps)) (fun m H' => H' D = some (.lst (((ps.take m).map fun q => decide (V.int ((q.2.2.length : Nat) : Int) = V.int (dwn i : Int))).map V.bl)) ∧ Same H1 H')
      ⟨upd_same, same_new nD⟩ (fun m H' _ h => (sm.trans h.2).seqT hR) ?_ ?_
    · rintro m v _ H3 hm ⟨c1, c2⟩ ⟨rfl, hx⟩
      obtain ⟨r, hr, rfl⟩ := relV_get hx
      obtain ⟨z1, z2⟩ := hO r (List.mem_of_getElem? hr)
      have sm3 := sm.trans c2
      refine ⟨rfl, yes_ ?_⟩
      refine ⟨_, rfl, r.1.1, _, 1, _, rfl, rfl, sm3.seqT z1, rfl, r.1.2, _, rfl, .inr (sm3.seqT z2), _, rfl, rfl, _, c1, ?_, ?_, Same.over nD c2⟩
      · rw [List.length_map, List.length_map, List.length_take]
        exact small1000 (by omega)
      · rw [upd_same, List.take_add_one, hr, List.map_append, List.map_append, intsV_len]
        rfl
    · rintro H3 ⟨c1, c2⟩
      rw [relV_len, List.take_length] at c1
      refine ⟨D, _, rfl, SqL.of c1, ?_⟩
      rw [any_hasW]
      refine ⟨_, rfl, ite2 (fun e => ?_) (fun e => ?_)⟩
      · refine ⟨_, rfl, ?_⟩
        rw [← width_at hi e no]
        exact q _ (sm.trans c2)
      · refine ⟨⟨_, _, rfl⟩, sm.trans c2, c2 _ _ el, fun j hj => ?_⟩
        rcases Nat.lt_or_ge j i with h | h
        · exact no j h
        · rw [show j = i by omega]
          exact Bool.eq_false_iff.mpr e
  · rintro σ H1 ⟨⟨a1, a2, rfl⟩, sm, el, no⟩
    have z := q _ sm
    rw [width_one no] at z
    exact z

def sp__law_place (K : PySem.W.Frag) : Sp := fun vs H Q _ => ∃ (rt : Addr) (ps : List RP) (z : Str), vs = [.ref rt, .str z] ∧ RelsAt K H rt ps ∧ ps.length ≤ 16 ∧ ∀ H', Same H H' → Q (placeV ps z) H'
set_option maxHeartbeats 1000000 in
theorem ok__law_place (F : Fun K "_law_place" "_law_place" s__law_place f fd) (m_len : mg "len" = none) (m_range : mg "range" = none) : FnOk P w K mg base CX0 1 f fd ["relations", "name"] (sp__law_place K) := by
  refine F.ok sc__law_place (fun vs H Q E h => ?_) (fun cdv A outer s H vs Q E hr h => ?_)
  · obtain ⟨rt, ps, z, rfl, _⟩ := h
    rfl
  obtain ⟨rt, ps, z, rfl, ⟨hR, hO⟩, h16, q⟩ := h
  refine ⟨_, (pss_cons (ps_setLc (i := 2) (own := [("k", 3)]) rfl sc__law_place.nd rfl rfl (sw_true rfl rfl rfl (by decide +kernel)) (pi_range1 (by rfl) m_range (pa_cons (pe_callB call_len_seq (by rfl) m_len (by decide +kernel) (pa_cons (pv 0) pa_nil)) pa_nil)) (blkOk_by (N := ["relations", "name", "found", "k"]) (sc := defScope s__law_place) (by decide +kernel)) (fun _ _ _ _ _ => (pg_name (i := 3) sc__law_place.nd rfl (.inl rfl))) (fun _ _ _ _ _ => (pts_one (pt_cmpR op_eq (pe_ix (ix_tupK K rfl) (pe_ix (ix_tupK K rfl) (pv 0) (pv 3) (fun _ _ => rfl)) pe_int (fun _ _ => rfl)) (pv 1) (nomark _)))) (fun _ _ _ _ _ => (pv 3)))
  (pss_cons (ps_if (pt_cmpR op_eq (pe_callB call_len_seq (by rfl) m_len (by decide +kernel) (pa_cons (pv 2) pa_nil)) pe_int (nomark _))
  (pss_one (ps_ret pe_non)) pss_nil)
  (pss_one (ps_ret (pe_ix ix_list (pv 2) pe_int (fun _ _ => rfl)))))), ?_⟩
  refine ⟨_, rfl, rt, _, rfl, .inr hR, _, rfl, by omega, by rw [relV_len]; omega, fun D nD => ?_⟩
  have tn : (((relV ps).length : Nat) : Int).toNat = ps.length := by rw [relV_len]; omega
  rw [tn]
  refine lc_range (fun m H' => H' D = some (.lst (intsV ((List.range m).filter (isAt ps z)))) ∧ Same H H') ⟨upd_same, same_new nD⟩ ?_ ?_
  · rintro m H3 hm ⟨c1, c2⟩
    have hr : ps[m]? = some ps[m] := List.getElem?_eq_getElem hm
    obtain ⟨z1, z2⟩ := hO _ (List.getElem_mem hm)
    generalize ps[m] = r at *
    have e0 : (0 : Int) + (m : Nat) = (m : Nat) := by omega
    have h1 : atI (relV ps) ((0 : Int) + (m : Nat)) = some (.ref r.1.1) := by rw [e0]; exact atI_nat (by unfold relV; rw [List.getElem?_map, hr]; rfl)
    refine ⟨rfl, _, rfl, _, rfl, rt, _, _, _, rfl, rfl, c2.seqT hR, h1, r.1.1, _, 0, _, rfl, rfl, c2.seqT z1, rfl, _, rfl, rfl, _, rfl, ite2 (fun e => ?_) (fun e => ?_)⟩
    · have e2 : r.2.1 = z := V.str.inj (of_decide_eq_true e)
      refine ⟨_, rfl, _, c1, ?_, ?_, Same.over nD c2⟩
      · rw [intsV_len]
        have := List.length_filter_le (isAt ps z) (List.range m)
        rw [List.length_range] at this
        exact small1000 (by omega)
      · have e3 : isAt ps z m = true := by rw [isAt_of hr]; exact decide_eq_true e2
        rw [upd_same, List.range_succ, List.filter_append, e0]
        simp [intsV, e3]
    · refine ⟨?_, c2⟩
      have e3 : isAt ps z m = false := by rw [isAt_of hr]; exact decide_eq_false fun e2 => e (decide_eq_true (by rw [e2]))
      rw [c1, List.range_succ, List.filter_append]
      simp [e3]
  · rintro H3 ⟨c1, c2⟩
    have hq := q _ c2
    have ed : (List.range ps.length).filter (isAt ps z) = foundAt ps z := rfl
    rw [ed] at c1
    unfold placeV at hq
    cases ef : foundAt ps z with
    | nil =>
      rw [ef] at c1 hq
      refine ⟨_, rfl, D, _, rfl, .inl (SqL.of c1), rfl, _, rfl, ite2 (fun _ => ?_) (fun e => absurd (decide_eq_true rfl) e)⟩
      exact hq
    | cons k l =>
      rw [ef] at c1 hq
      refine ⟨_, rfl, D, _, rfl, .inl (SqL.of c1), rfl, _, rfl, ite2 (fun e => ?_) (fun _ => ?_)⟩
      · have z := V.int.inj (of_decide_eq_true e)
        simp [intsV] at z
        omega
      · exact ⟨_, rfl, D, _, 0, .int (k : Nat), rfl, rfl, SqL.of c1, atI_nat (j := 0) rfl, hq⟩

def sp__law_asked_names (K : PySem.W.Frag) : Sp := fun vs H Q _ => ∃ (bx c : Addr) (ns : List Int) (rt mo : Addr) (ps : List RP) (ms : List Str), vs = [.ref bx, .ref rt, .ref mo] ∧ BoxAt bx c ns H ∧ RelsAt K H rt ps ∧ (∀ q ∈ ps, RelOk q) ∧ ps.length ≤ 16 ∧
  H mo = some (.lst (ms.map V.str)) ∧ mo ≠ bx ∧ ms.length ≤ 16 ∧
  ∀ (D : Addr) (l : List Str) (H' : Hp), l.length ≤ 200 → D ≠ bx → H' D = some (.lst (l.map V.str)) → Kept bx H H' → BoxAt bx c ns H' → Q (.ref D) H'
def namesV (ps : List RP) : List V := ps.map fun q => V.str q.2.1
theorem fits {n : Nat} (h : n ≤ 1000) : n ≤ sizeLine := Nat.le_of_lt (small1000 h)
theorem namesV_wd {ps : List RP} (hok : ∀ q ∈ ps, RelOk q) : ∀ v ∈ namesV ps, Wd v := fun v hv => by
  obtain ⟨q, hq, rfl⟩ := List.mem_map.mp hv
  exact ⟨_, rfl, (hok q hq).1, (hok q hq).2.1⟩
theorem cutV_mem {xs : List V} {lo hi : Option Int} {v : V} (h : v ∈ cutV xs lo hi) : v ∈ xs := by
  unfold cutV at h
  exact List.mem_of_mem_drop (List.mem_of_mem_take h)
theorem cutV_six (xs : List V) : (cutV xs none (some 6)).length ≤ 6 := by
  unfold cutV
  rw [List.length_take]
  have : HT.sIx xs.length xs.length (some 6) ≤ 6 := by
    unfold HT.sIx
    simp
    omega
  omega
set_option maxHeartbeats 2000000 in
theorem ok__law_asked_names (F : Fun K "_law_asked_names" "_law_asked_names" s__law_asked_names f fd) (C__law_draw : Cal P w K mg base 2 "_law_draw" s__law_draw ["box", "many"] (sp__law_draw K)) (C__law_word : Cal P w K mg base 3 "_law_word" s__law_word ["box"] (sp__law_word K)) (m_len : mg "len" = none) : FnOk P w K mg base CX0 4 f fd ["box", "relations", "more"] (sp__law_asked_names K) := by
  refine F.ok sc__law_asked_names (fun vs H Q E h => ?_) (fun cdv A outer s H vs Q E hr h => ?_)
  · obtain ⟨bx, c, ns, rt, mo, ps, ms, rfl, _⟩ := h
    rfl
  obtain ⟨bx, c, ns, rt, mo, ps, ms, rfl, hb, ⟨hR, hO⟩, hok, h16, hM, nmo, m16, q⟩ := h
  have W := drwB bx c ns
  refine ⟨_, (pss_cons (ps_setLc (i := 6) (own := [("pair", 8)]) rfl sc__law_asked_names.nd rfl rfl (sw_true rfl rfl rfl (by decide +kernel)) (pi_tup (pv 1)) (blkOk_by (N := ["box", "relations", "more", "at", "first", "name", "names", "near", "pair"]) (sc := defScope s__law_asked_names) (by decide +kernel)) (fun _ _ _ _ _ => (pg_name (i := 8) sc__law_asked_names.nd rfl (.inl rfl))) (fun _ _ _ _ _ => pts_nil) (fun _ _ _ _ _ => (pe_ix (ix_tupK K rfl) (pv 8) pe_int (fun _ _ => rfl))))
  (pss_cons (ps_set (i := 7) sc__law_asked_names.nd rfl (.inl rfl) (pe_op op_cat (pv 2) (pe_lst (pa_cons (pe_cal C__law_word hr (by first | decide | exact Nat.le_refl _) (by rfl) (pa_cons (pv 0) pa_nil)) (pa_cons pe_str (pa_cons pe_str pa_nil))))))
  (pss_cons (ps_set (i := 4) sc__law_asked_names.nd rfl (.inl rfl) (pe_cal C__law_draw hr (by first | decide | exact Nat.le_refl _) (by rfl) (pa_cons (pv 0) (pa_cons (pe_op op_add (pe_callB call_len_seq (by rfl) m_len (by decide +kernel) (pa_cons (pv 6) pa_nil)) pe_int) pa_nil))))
  (pss_cons (ps_for PassesOwn.never rfl (pi_list (pe_slice sl_list (pe_op op_cat (pe_slice sl_list (pv 6) (po_some (pv 4)) po_none) (pe_slice sl_list (pv 6) po_none (po_some (pv 4)))) po_none (po_some pe_int))) (pg_name (i := 5) sc__law_asked_names.nd rfl (.inl rfl))
  (pss_cons (ps_set (i := 3) sc__law_asked_names.nd rfl (.inl rfl) (pe_cal C__law_draw hr (by first | decide | exact Nat.le_refl _) (by rfl) (pa_cons (pv 0) (pa_cons (pe_callB call_len_str (by rfl) m_len (by decide +kernel) (pa_cons (pv 5) pa_nil)) pa_nil))))
  (pss_cons (ps_set (i := 7) sc__law_asked_names.nd rfl (.inl rfl) (pe_op op_cat (pv 7) (pe_lst (pa_cons (pe_op op_add_str (pe_slice sl_str (pv 5) po_none (po_some pe_int)) pe_str) (pa_cons (pe_slice sl_str (pe_op op_add_str (pv 5) pe_str) po_none (po_some pe_int)) (pa_cons (pe_op op_add_str (pe_op op_add_str (pe_slice sl_str (pv 5) po_none (po_some (pv 3))) pe_str) (pe_slice sl_str (pv 5) (po_some (pe_op op_add (pv 3) pe_int)) po_none)) (pa_cons (pe_slice sl_str (pe_op op_add_str pe_str (pv 5)) po_none (po_some pe_int)) pa_nil)))))))
  (pss_one (ps_if (pt_cmpR op_gt (pe_callB call_len_str (by rfl) m_len (by decide +kernel) (pa_cons (pv 5) pa_nil)) pe_int (nomark _))
  (pss_one (ps_set (i := 7) sc__law_asked_names.nd rfl (.inl rfl) (pe_op op_cat (pv 7) (pe_lst (pa_cons (pe_slice sl_str (pv 5) (po_some pe_int) po_none) (pa_cons (pe_slice sl_str (pv 5) po_none (po_some (pe_op op_sub (pe_callB call_len_str (by rfl) m_len (by decide +kernel) (pa_cons (pv 5) pa_nil)) pe_int))) pa_nil)))))) pss_nil)))))
  (pss_one (ps_ret (pe_op op_cat (pv 6) (pv 7)))))))), ?_⟩
  -- names
  refine ⟨_, rfl, rt, rfl, ⟨_, hR⟩, fun N nN => ?_⟩
  refine lc_it (walk_tup (xs := relV ps)) (fun m H' => H' N = some (.lst (namesV (ps.take m))) ∧ Same H H')
    ⟨upd_same, same_new nN⟩ (fun m H' _ h => h.2.seqT hR) ?_ ?_
  · rintro m v _ H3 hm ⟨c1, c2⟩ ⟨rfl, hx⟩
    obtain ⟨r, hr, rfl⟩ := relV_get hx
    obtain ⟨z1, z2⟩ := hO r (List.mem_of_getElem? hr)
    refine ⟨rfl, yes_ ?_⟩
    refine ⟨_, rfl, r.1.1, _, 0, _, rfl, rfl, c2.seqT z1, rfl, _, c1, ?_, ?_, Same.over nN c2⟩
    · unfold namesV
      rw [List.length_map, List.length_take]
      exact small1000 (by omega)
    · rw [upd_same]
      unfold namesV
      rw [List.take_add_one, hr, List.map_append]
      rfl
  rintro H1 ⟨c1, c2⟩
  rw [relV_len, List.take_length] at c1
  have b1 : BoxAt bx c ns H1 := by
    obtain ⟨x1, x2, x3, x4, x5, e1, e2, r⟩ := hb
    exact ⟨x1, x2, x3, x4, x5, c2 _ _ e1, c2 _ _ e2, r⟩
  have nNb : N ≠ bx := by
    obtain ⟨x1, x2, x3, x4, x5, e1, e2, r⟩ := hb
    exact (ne_of_none e1 nN).symm
  have k1 : Kept bx H H1 := c2.kept
  have nl : (namesV ps).length ≤ 16 := by unfold namesV; rw [List.length_map]; exact h16
  have wd := namesV_wd hok
  have cl : ∀ (z : Str) (lo hi : Option Int), (cutS z lo hi).length ≤ z.length := cutS_length
  have al : ∀ a b : Str, (a ++ b).length = a.length + b.length := PySem.Str.length_append
  have lz : (Str.ofString "z").length = 1 := by decide +kernel
  have la : (Str.ofString "a").length = 1 := by decide +kernel
  have lq : (Str.ofString "q").length = 1 := by decide +kernel
  have lx : (Str.ofString "x").length = 1 := by decide +kernel
  -- near
  refine ⟨_, rfl, _, rfl, bx, c, ns, rfl, b1, fun z H2 z1 z8 k2 b2 => ?_⟩
  refine ⟨show 3 ≤ sizeLine by decide, fun l3 nl3 => ?_⟩
  have k12 := k1.trans k2
  have hM2 : H2 mo = some (.lst (ms.map V.str)) := k12 _ _ nmo hM
  have e3 : (upd H2 l3 (.lst [V.str z, V.str "zzzzzzzz", V.str "a"])) mo = some (.lst (ms.map V.str)) := by
    rw [upd_ne (ne_of_none hM2 nl3)]
    exact hM2
  refine ⟨mo, l3, _, _, rfl, rfl, e3, upd_same, fits (by rw [List.length_map]; show ms.length + 3 ≤ 1000; omega), fun NA nNA => ?_⟩
  have b3 := W.new (o := .lst [V.str z, V.str "zzzzzzzz", V.str "a"]) b2 nl3
  have b4 := W.new (o := .lst (ms.map V.str ++ [V.str z, V.str "zzzzzzzz", V.str "a"])) b3 nNA
  have nNAb := (W.fresh _ _ b3 nNA).1
  have k4 : Kept bx H (upd (upd H2 l3 (.lst [V.str z, V.str "zzzzzzzz", V.str "a"])) NA (.lst (ms.map V.str ++ [V.str z, V.str "zzzzzzzz", V.str "a"]))) := k12.trans ((Kept.new nl3).trans (Kept.new nNA))
  have eNA : (upd (upd H2 l3 (.lst [V.str z, V.str "zzzzzzzz", V.str "a"])) NA (.lst (ms.map V.str ++ [V.str z, V.str "zzzzzzzz", V.str "a"]))) NA = some (.lst ((ms ++ [z, "zzzzzzzz", "a"]).map V.str)) := by
    rw [upd_same, List.map_append]
    rfl
  have eN : (upd (upd H2 l3 (.lst [V.str z, V.str "zzzzzzzz", V.str "a"])) NA (.lst (ms.map V.str ++ [V.str z, V.str "zzzzzzzz", V.str "a"]))) N = some (.lst (namesV ps)) := (k2.trans ((Kept.new nl3).trans (Kept.new nNA))) _ _ nNb c1
  have ll : (ms ++ [z, "zzzzzzzz", "a"]).length ≤ 19 := by
    rw [List.length_append]
    show ms.length + 3 ≤ 19
    omega
  generalize ms ++ [z, "zzzzzzzz", "a"] = nl0 at eNA ll
  generalize upd (upd H2 l3 (.lst [V.str z, V.str "zzzzzzzz", V.str "a"])) NA (.lst (ms.map V.str ++ [V.str z, V.str "zzzzzzzz", V.str "a"])) = H4 at b4 k4 eNA eN
  clear b1 b2 b3 k1 k2 k12 hM2 e3 nNA nl3 c1 c2
  -- first
  refine ⟨_, rfl, _, rfl, N, _, rfl, .inl (SqL.of eN), _, _, rfl, rfl, bx, c, ns, _, rfl, b4, by omega, by omega, fun d H5 d0 d1 k5 b5 => ?_⟩
  have eN5 := k5 _ _ nNb eN
  have eNA5 := k5 _ _ nNAb eNA
  -- the names to go over
  refine ⟨_, rfl, _, rfl, d, rfl, N, _, rfl, SqL.of eN5, fun p1 np1 => ?_⟩
  have f1 : Same H5 (upd H5 p1 (.lst (cutV (namesV ps) (some d) none))) := same_new np1
  have g1 : (upd H5 p1 (.lst (cutV (namesV ps) (some d) none))) p1 = some (.lst (cutV (namesV ps) (some d) none)) := upd_same
  generalize upd H5 p1 (.lst (cutV (namesV ps) (some d) none)) = G1 at f1 g1
  refine ⟨_, rfl, _, rfl, d, rfl, N, _, rfl, SqL.of (f1 _ _ eN5), fun p2 np2 => ?_⟩
  have f2 : Same H5 (upd G1 p2 (.lst (cutV (namesV ps) none (some d)))) := f1.trans (same_new np2)
  have g2 : (upd G1 p2 (.lst (cutV (namesV ps) none (some d)))) p2 = some (.lst (cutV (namesV ps) none (some d))) := upd_same
  have g12 : (upd G1 p2 (.lst (cutV (namesV ps) none (some d)))) p1 = some (.lst (cutV (namesV ps) (some d) none)) := same_new np2 _ _ g1
  generalize upd G1 p2 (.lst (cutV (namesV ps) none (some d))) = G2 at f2 g2 g12
  have lc1 := cutV_length (namesV ps) (some d) none
  have lc2 := cutV_length (namesV ps) none (some d)
  refine ⟨p1, p2, _, _, rfl, rfl, g12, g2, fits (by omega), fun p3 np3 => ?_⟩
  have wd3 : ∀ v ∈ cutV (namesV ps) (some d) none ++ cutV (namesV ps) none (some d), Wd v := fun v hv => by
    rcases List.mem_append.mp hv with hv | hv
    · exact wd v (cutV_mem hv)
    · exact wd v (cutV_mem hv)
  generalize cutV (namesV ps) (some d) none ++ cutV (namesV ps) none (some d) = x3 at wd3
  have f3 : Same H5 (upd G2 p3 (.lst x3)) := f2.trans (same_new np3)
  have g3 : (upd G2 p3 (.lst x3)) p3 = some (.lst x3) := upd_same
  generalize upd G2 p3 (.lst x3) = G3 at f3 g3
  refine ⟨6, rfl, p3, _, rfl, SqL.of g3, fun p4 np4 => ?_⟩
  have f4 : Same H5 (upd G3 p4 (.lst (cutV x3 none (some 6)))) := f3.trans (same_new np4)
  have g4 : (upd G3 p4 (.lst (cutV x3 none (some 6)))) p4 = some (.lst (cutV x3 none (some 6))) := upd_same
  have wd4 : ∀ v ∈ cutV x3 none (some 6), Wd v := fun v hv => wd3 v (cutV_mem hv)
  have l6 := cutV_six x3
  have b6 : BoxAt bx c ns (upd G3 p4 (.lst (cutV x3 none (some 6)))) := by
    obtain ⟨x1, x2, x3, x4, x5, e1, e2, r⟩ := b5
    exact ⟨x1, x2, x3, x4, x5, f4 _ _ e1, f4 _ _ e2, r⟩
  have n4 : p4 ≠ bx := by
    obtain ⟨x1, x2, x3, x4, x5, e1, e2, r⟩ := b5
    exact (ne_of_none (f3 _ _ e1) np4).symm
  generalize upd G3 p4 (.lst (cutV x3 none (some 6))) = G4 at f4 g4 b6
  generalize cutV x3 none (some 6) = xs at wd4 l6 g4
  have k6 : Kept bx H G4 := (k4.trans k5).trans f4.kept
  refine ⟨p4, rfl, ⟨_, SqL.of g4⟩, for_list (xs := xs) (fun i σ H' => (∃ (a3 a5 a8 : Option V) (NA : Addr) (nl : List Str), σ = [some (.ref bx), some (.ref rt), some (.ref mo), a3, some (.int d), a5, some (.ref N), some (.ref NA), a8] ∧
      H' NA = some (.lst (nl.map V.str)) ∧ NA ≠ bx ∧ nl.length ≤ 19 + 6 * i) ∧ H' N = some (.lst (namesV ps)) ∧ H' p4 = some (.lst xs) ∧ Kept bx H H' ∧ BoxAt bx c ns H')
    ⟨⟨_, _, _, NA, nl0, rfl, f4 _ _ eNA5, nNAb, by omega⟩, f4 _ _ eN5, g4, k6, b6⟩ (fun i σ H' _ h => SqL.of h.2.2.1) ?_ ?_⟩
  · rintro i v σ G hv ⟨⟨a3, a5, a8, NA, nl, rfl, h1, h2, h3⟩, h4, h5, h6, h7⟩
    obtain ⟨y, rfl, y1, y8⟩ := wd4 v (List.mem_of_getElem? hv)
    have hi : i < xs.length := (List.getElem?_eq_some_iff.mp hv).1
    have hy : y.length ≤ sizeLine := fits (by omega)
    refine ⟨_, rfl, _, rfl, y, rfl, hy, bx, c, ns, _, rfl, h7, by omega, by omega, fun dt G1 t0 t1 k1 b1 => ?_⟩
    have e1 := k1 _ _ h2 h1
    refine ⟨_, rfl, _, rfl, 7, rfl, y, rfl, hy, _, _, rfl, rfl, ?_, ?_⟩
    · exact fits (by have := cl y none (some 7); omega)
    refine ⟨_, rfl, _, _, rfl, rfl, ?_, 8, rfl, _, rfl, ?_, ?_⟩
    · exact fits (by omega)
    · exact fits (by rw [al]; omega)
    refine ⟨_, rfl, _, rfl, dt, rfl, y, rfl, hy, _, _, rfl, rfl, ?_, _, rfl, _, rfl, _, _, rfl, rfl, _, rfl, y, rfl, hy, _, _, rfl, rfl, ?_, ?_⟩
    · exact fits (by have := cl y none (some dt); omega)
    · exact fits (Nat.le_trans (Nat.add_le_add (Nat.le_of_eq (al _ _)) (cl _ _ _)) (by have := cl y none (some dt); omega))
    refine ⟨_, rfl, _, _, rfl, rfl, ?_, 8, rfl, _, rfl, ?_, ?_⟩
    · exact fits (by omega)
    · exact fits (by rw [al]; omega)
    refine ⟨show 4 ≤ sizeLine by decide, fun l4 nl4 => ?_⟩
    have m1 := Same.trans (same_new (o := .lst [V.str (cutS y none (some 7) ++ "z"), V.str (cutS (y ++ "a") none (some 8)), V.str (cutS y none (some dt) ++ "q" ++ cutS y (some (dt + 1)) none), V.str (cutS ("x" ++ y) none (some 8))]) nl4) (Same.refl _)
    refine ⟨NA, l4, _, _, rfl, rfl, m1 _ _ e1, upd_same, fits (by rw [List.length_map]; show nl.length + 4 ≤ 1000; omega), fun NB nNB => ?_⟩
    have b2 := W.new (o := .lst [V.str (cutS y none (some 7) ++ "z"), V.str (cutS (y ++ "a") none (some 8)), V.str (cutS y none (some dt) ++ "q" ++ cutS y (some (dt + 1)) none), V.str (cutS ("x" ++ y) none (some 8))]) b1 nl4
    have nNBb := (W.fresh _ _ b2 nNB).1
    have b3 := W.new (o := .lst (nl.map V.str ++ [V.str (cutS y none (some 7) ++ "z"), V.str (cutS (y ++ "a") none (some 8)), V.str (cutS y none (some dt) ++ "q" ++ cutS y (some (dt + 1)) none), V.str (cutS ("x" ++ y) none (some 8))])) b2 nNB
    have m2 := m1.trans (same_new (o := .lst (nl.map V.str ++ [V.str (cutS y none (some 7) ++ "z"), V.str (cutS (y ++ "a") none (some 8)), V.str (cutS y none (some dt) ++ "q" ++ cutS y (some (dt + 1)) none), V.str (cutS ("x" ++ y) none (some 8))])) nNB)
    have eB : (upd (upd G1 l4 (.lst [V.str (cutS y none (some 7) ++ "z"), V.str (cutS (y ++ "a") none (some 8)), V.str (cutS y none (some dt) ++ "q" ++ cutS y (some (dt + 1)) none), V.str (cutS ("x" ++ y) none (some 8))])) NB (.lst (nl.map V.str ++ [V.str (cutS y none (some 7) ++ "z"), V.str (cutS (y ++ "a") none (some 8)), V.str (cutS y none (some dt) ++ "q" ++ cutS y (some (dt + 1)) none), V.str (cutS ("x" ++ y) none (some 8))]))) NB = some (.lst ((nl ++ [cutS y none (some 7) ++ "z", cutS (y ++ "a") none (some 8), cutS y none (some dt) ++ "q" ++ cutS y (some (dt + 1)) none, cutS ("x" ++ y) none (some 8)]).map V.str)) := by
      rw [upd_same, List.map_append]
      rfl
    have lB : (nl ++ [cutS y none (some 7) ++ "z", cutS (y ++ "a") none (some 8), cutS y none (some dt) ++ "q" ++ cutS y (some (dt + 1)) none, cutS ("x" ++ y) none (some 8)]).length = nl.length + 4 := by
      rw [List.length_append]
      rfl
    generalize nl ++ [cutS y none (some 7) ++ "z", cutS (y ++ "a") none (some 8), cutS y none (some dt) ++ "q" ++ cutS y (some (dt + 1)) none, cutS ("x" ++ y) none (some 8)] = n2 at eB lB
    refine (?_ : _)
    generalize hG2 : upd (upd G1 l4 _) NB _ = G2 at b3 m2 eB
    have k3 : Kept bx H G2 := (h6.trans k1).trans m2.kept
    have q4 := m2 _ _ (k1 _ _ nNb h4)
    have q5 := m2 _ _ (k1 _ _ n4 h5)
    refine ⟨_, rfl, y, rfl, hy, _, _, rfl, rfl, _, rfl, ite2 (fun _ => ?_) (fun _ => ⟨⟨_, _, _, NB, n2, rfl, eB, nNBb, by omega⟩, q4, q5, k3, b3⟩)⟩
    refine ⟨_, rfl, _, rfl, 1, rfl, y, rfl, hy, _, rfl, _, rfl, y, rfl, hy, _, _, rfl, rfl, _, rfl, y, rfl, hy, two_fits, fun l5 nl5 => ?_⟩
    have m3 := same_new (o := .lst [V.str (cutS y (some 1) none), V.str (cutS y none (some ((y.length : Int) - 1)))]) nl5
    refine ⟨NB, l5, _, _, rfl, rfl, m3 _ _ eB, upd_same, fits (by rw [List.length_map]; show n2.length + 2 ≤ 1000; omega), fun NC nNC => ?_⟩
    have b4 := W.new (o := .lst [V.str (cutS y (some 1) none), V.str (cutS y none (some ((y.length : Int) - 1)))]) b3 nl5
    have nNCb := (W.fresh _ _ b4 nNC).1
    have m4 := m3.trans (same_new (o := .lst (n2.map V.str ++ [V.str (cutS y (some 1) none), V.str (cutS y none (some ((y.length : Int) - 1)))])) nNC)
    refine ⟨⟨_, _, _, NC, n2 ++ [cutS y (some 1) none, cutS y none (some ((y.length : Int) - 1))], rfl, by rw [upd_same, List.map_append]; rfl, nNCb, by rw [List.length_append]; show n2.length + 2 ≤ _; omega⟩, m4 _ _ q4, m4 _ _ q5, k3.trans m4.kept, W.new b4 nNC⟩
  · rintro σ G ⟨⟨a3, a5, a8, NA, nl, rfl, h1, h2, h3⟩, h4, h5, h6, h7⟩
    have en : namesV ps = (ps.map fun q => q.2.1).map V.str := by
      unfold namesV
      rw [List.map_map]
      rfl
    refine ⟨_, rfl, _, rfl, N, NA, _, _, rfl, rfl, h4, h1, fits (by rw [List.length_map]; omega), fun R nR => ?_⟩
    exact q R ((ps.map fun q => q.2.1) ++ nl) _ (by rw [List.length_append, List.length_map]; omega) (W.fresh _ _ h7 nR).1 (by rw [upd_same, en, List.map_append]) (h6.trans (Kept.new nR)) (W.new h7 nR)

theorem kb_width_language : KwB s_width ["language"] ["language"] (fun {α} (l : List α) => l) where
  to := fun x qual kV doc pm an cdv ct ws hl => match ws, hl with | [_], _ => rfl
  rel := fun {zs ws} hl r => r
theorem kb_relation_number_name_language : KwB s_relation_number ["language", "name"] ["name", "language"] (fun {α} (l : List α) => match l with | [x, y] => [y, x] | l => l) where
  to := fun x qual kV doc pm an cdv ct ws hl => match ws, hl with | [_, _], _ => rfl
  rel := fun {zs ws} hl r => by
    match zs, hl with
    | [a, b], _ =>
      obtain ⟨u1, u2, rfl, r1, r2⟩ := vals2 r
      exact .cons r2 (.cons r1 .nil)
def sp__law_right (K : PySem.W.Frag) : Sp := fun vs H Q _ => ∃ (bx c : Addr) (ns : List Int) (so : V) (rt mo : Addr) (ps : List RP) (ms : List Str), vs = [.ref bx, so, .ref rt, .ref mo] ∧ BoxAt bx c ns H ∧ RelsAt K H rt ps ∧ (∀ q ∈ ps, RelOk q) ∧ ps.length ≤ 16 ∧
  H mo = some (.lst (ms.map V.str)) ∧ mo ≠ bx ∧ ms.length ≤ 16 ∧ ∀ (H' : Hp), Kept bx H H' → BoxAt bx c ns H' → Q (.bl true) H'
/-- two lists of the same two things -/
theorem two_dp {K : PySem.W.Frag} {H : Hp} {a : Addr} {v : V} {d : PyData} (h : H a = some (.lst [v, v])) (e : Dp K H v d) : Dp K H (.ref a) (.list [d, d]) := .lst (SqL.of h) (.cons e (.cons e .nil))
theorem two_okD {n : Nat} {d : PyData} (h : okD n d) : okD (n + 1) (.list [d, d]) := ⟨show 2 ≤ 100000 by decide, fun x hx => by
  simp only [List.mem_cons, List.not_mem_nil, or_false] at hx
  rcases hx with rfl | rfl <;> exact h⟩
theorem place_okD (ps : List RP) (z : Str) (n : Nat) : okD (n + 1) (placeD ps z) := by
  unfold placeD
  split <;> trivial
set_option maxHeartbeats 2000000 in
theorem ok__law_right (F : Fun K "_law_right" "_law_right" s__law_right f fd) (C__law_width : Cal P w K mg base 1 "_law_width" s__law_width ["relations"] (sp__law_width K)) (C__law_asked_names : Cal P w K mg base 4 "_law_asked_names" s__law_asked_names ["box", "relations", "more"] (sp__law_asked_names K)) (C__law_alike : Cal P w K mg base 4 "_law_alike" s__law_alike ["told", "due"] (sp__law_alike K)) (C__law_place : Cal P w K mg base 1 "_law_place" s__law_place ["relations", "name"] (sp__law_place K)) (C_relation_number : Cal P w K mg base 1 "relation_number" s_relation_number ["language", "name"] (sp_relation_number K)) (C_width : Cal P w K mg base 1 "width" s_width ["language"] (sp_width K)) : FnOk P w K mg base CX0 5 f fd ["box", "sorts", "relations", "more"] (sp__law_right K) := by
  refine F.ok sc__law_right (fun vs H Q E h => ?_) (fun cdv A outer s H vs Q E hr h => ?_)
  · obtain ⟨bx, c, ns, so, rt, mo, ps, ms, rfl, _⟩ := h
    rfl
  obtain ⟨bx, c, ns, so, rt, mo, ps, ms, rfl, hb, hR, hok, h16, hM, nmo, m16, q⟩ := h
  have W := drwB bx c ns
  refine ⟨_, (pss_cons (ps_set (i := 5) sc__law_right.nd rfl (.inl rfl) (pe_tup (pa_cons (pv 1) (pa_cons (pv 2) pa_nil))))
  (pss_cons (ps_set (i := 4) sc__law_right.nd rfl (.inl rfl) (pe_cal C__law_width hr (by first | decide | exact Nat.le_refl _) (by rfl) (pa_cons (pv 2) pa_nil)))
  (pss_cons (ps_if (pt_not (pt_val (pe_cal C__law_alike hr (by first | decide | exact Nat.le_refl _) (by rfl) (pa_cons (pe_lst (pa_cons (pe_cal C_width hr (by first | decide | exact Nat.le_refl _) (by rfl) (pa_cons (pv 5) pa_nil)) (pa_cons (pe_calK C_width hr (by first | decide | exact Nat.le_refl _) (by rfl) kb_width_language (pk_cons (pv 5) pk_nil)) pa_nil))) (pa_cons (pe_lst (pa_cons (pv 4) (pa_cons (pv 4) pa_nil))) pa_nil)))))
  (pss_one (ps_ret pe_bl)) pss_nil)
  (pss_cons (ps_for PassesOwn.never rfl (pi_list (pe_cal C__law_asked_names hr (by first | decide | exact Nat.le_refl _) (by rfl) (pa_cons (pv 0) (pa_cons (pv 2) (pa_cons (pv 3) pa_nil))))) (pg_name (i := 6) sc__law_right.nd rfl (.inl rfl))
  (pss_cons (ps_set (i := 4) sc__law_right.nd rfl (.inl rfl) (pe_cal C__law_place hr (by first | decide | exact Nat.le_refl _) (by rfl) (pa_cons (pv 2) (pa_cons (pv 6) pa_nil))))
  (pss_cons (ps_set (i := 7) sc__law_right.nd rfl (.inl rfl) (pe_lst (pa_cons (pe_cal C_relation_number hr (by first | decide | exact Nat.le_refl _) (by rfl) (pa_cons (pv 5) (pa_cons (pv 6) pa_nil))) (pa_cons (pe_calK C_relation_number hr (by first | decide | exact Nat.le_refl _) (by rfl) kb_relation_number_name_language (pk_cons (pv 6) (pk_cons (pv 5) pk_nil))) pa_nil))))
  (pss_one (ps_if (pt_not (pt_val (pe_cal C__law_alike hr (by first | decide | exact Nat.le_refl _) (by rfl) (pa_cons (pv 7) (pa_cons (pe_lst (pa_cons (pv 4) (pa_cons (pv 4) pa_nil))) pa_nil)))))
  (pss_one (ps_ret pe_bl)) pss_nil)))))
  (pss_one (ps_ret pe_bl)))))), ?_⟩
  -- language
  refine ⟨_, rfl, _, rfl, two_fits, fun t nt => ?_⟩
  have m1 : Same H (upd H t (.tup [so, .ref rt])) := same_new nt
  have q1 : SqT K (upd H t (.tup [so, .ref rt])) t [so, .ref rt] := .inl (.inl upd_same)
  generalize upd H t (.tup [so, .ref rt]) = H1 at m1 q1
  -- due
  refine ⟨_, rfl, rt, ps, rfl, hR.tups (Tups.same m1), h16, fun H2 m2 => ?_⟩
  have m12 := m1.trans m2
  refine ⟨_, rfl, t, rt, so, ps, rfl, m2.seqT q1, hR.tups (Tups.same m12), hok, h16, fun H3 m3 => ?_⟩
  have m13 := m12.trans m3
  refine ⟨_, rfl, rfl, t, rt, so, ps, rfl, (m2.trans m3).seqT q1, hR.tups (Tups.same m13), hok, h16, fun H4 m4 => ?_⟩
  have m14 := m13.trans m4
  refine ⟨two_fits, fun l1 nl1 => ?_⟩
  refine ⟨_, rfl, _, rfl, two_fits, fun l2 nl2 => ?_⟩
  have n12 : l1 ≠ l2 := fun e => by
    rw [← e, upd_same] at nl2
    cases nl2
  have m6 := (same_new (o := .lst [V.int (widthOf ps : Nat), V.int (widthOf ps : Nat)]) nl1).trans (same_new (o := .lst [V.int (widthOf ps : Nat), V.int (widthOf ps : Nat)]) nl2)
  refine ⟨_, _, _, rfl, two_dp (by rw [upd_ne n12]; exact upd_same) (.int _), two_dp upd_same (.int _), two_okD (by trivial), fun H5 m5 => ⟨_, rfl, iteF ?_⟩⟩
  have m15 := (m14.trans m6).trans m5
  have q5 := (((m2.trans m3).trans m4).trans (m6.trans m5)).seqT q1
  clear m1 m2 m3 m4 m5 m6 m12 m13 m14 nl1 nl2 n12 q1
  refine ⟨_, rfl, _, rfl, _, rfl, bx, c, ns, rt, mo, ps, ms, rfl, (BoxAt.same m15 hb), hR.tups (Tups.same m15), hok, h16, m15 _ _ hM, nmo, m16, fun D l H6 l200 nD eD k6 b6 => ?_⟩
  have q6 := W.seqT ((BoxAt.same m15 hb)) k6 q5
  have hR6 := (hR.tups (Tups.same m15)).tups (W.tups ((BoxAt.same m15 hb)) k6)
  refine ⟨D, rfl, ⟨_, SqL.of eD⟩, for_list (xs := l.map V.str) (fun i σ H' => (∃ (a4 a7 a8 : Option V), σ = [some (.ref bx), some so, some (.ref rt), some (.ref mo), a4, some (.ref t), a7, a8]) ∧ Same H6 H')
    ⟨⟨_, _, _, rfl⟩, Same.refl _⟩ (fun i σ H' _ h => SqL.of (h.2 _ _ eD)) ?_ ?_⟩
  · rintro i v σ G hv ⟨⟨a4, a7, a8, rfl⟩, sm⟩
    rw [List.getElem?_map] at hv
    obtain ⟨z, hz, rfl⟩ := Option.map_eq_some_iff.mp hv
    refine ⟨_, rfl, _, rfl, rt, ps, z, rfl, hR6.tups (Tups.same sm), h16, fun G1 g1 => ?_⟩
    have s1 := sm.trans g1
    have hq1 := s1.seqT q6
    refine ⟨_, rfl, _, rfl, t, rt, so, ps, z, rfl, hq1, hR6.tups (Tups.same s1), h16, fun G2 g2 => ?_⟩
    refine ⟨_, rfl, _, rfl, rfl, t, rt, so, ps, z, rfl, g2.seqT hq1, hR6.tups (Tups.same (s1.trans g2)), h16, fun G3 g3 => ?_⟩
    have s3 := (s1.trans g2).trans g3
    refine ⟨two_fits, fun l1 nl1 => ?_⟩
    refine ⟨_, rfl, _, rfl, _, rfl, two_fits, fun l2 nl2 => ?_⟩
    have n12 : l1 ≠ l2 := fun e => by
      rw [← e, upd_same] at nl2
      cases nl2
    have m6 := (same_new (o := .lst [placeV ps z, placeV ps z]) nl1).trans (same_new (o := .lst [placeV ps z, placeV ps z]) nl2)
    refine ⟨_, _, _, rfl, two_dp (by rw [upd_ne n12]; exact upd_same) (place_dp ps z), two_dp upd_same (place_dp ps z), two_okD (place_okD ps z _), fun G4 g4 => ⟨_, rfl, iteF ?_⟩⟩
    exact ⟨⟨_, _, _, rfl⟩, (s3.trans m6).trans g4⟩
  · rintro σ G ⟨⟨a4, a7, a8, rfl⟩, sm⟩
    exact q _ (m15.kept.trans (k6.trans sm.kept)) (BoxAt.same sm b6)

theorem three_ok : ∀ v ∈ [V.int 3, V.int 8, V.int 16], ∃ x : Nat, v = .int (x : Int) ∧ x ≤ 16 := by
  intro v hv
  simp only [List.mem_cons, List.mem_singleton, List.not_mem_nil, or_false] at hv
  rcases hv with rfl | rfl | rfl
  · exact ⟨3, rfl, by omega⟩
  · exact ⟨8, rfl, by omega⟩
  · exact ⟨16, rfl, by omega⟩
def sp_law (K : PySem.W.Frag) : Sp := fun vs H Q _ => ∃ (a : Addr) (ns : List Int), vs = [.ref a] ∧ SqL K H a (ns.map V.int) ∧ ns.length ≤ 63 ∧ ∀ H', Q (.bl true) H'
set_option maxHeartbeats 4000000 in
theorem ok_law (F : Fun K "law" "law" s_law f fd) (C__law_box : Cal P w K mg base 1 "_law_box" s__law_box ["script"] (sp__law_box K)) (C__law_language : Cal P w K mg base 5 "_law_language" s__law_language ["box", "most"] (sp__law_language K)) (C__law_right : Cal P w K mg base 5 "_law_right" s__law_right ["box", "sorts", "relations", "more"] (sp__law_right K)) (C__law_draw : Cal P w K mg base 2 "_law_draw" s__law_draw ["box", "many"] (sp__law_draw K)) (m_range : mg "range" = none) (m_tuple : mg "tuple" = none) (m_int : mg "int" = none) (m_len : mg "len" = none) (m_reversed : mg "reversed" = none) (m_list : mg "list" = none) : FnOk P w K mg base CX0 6 f fd ["script"] (sp_law K) := by
  refine F.ok sc_law (fun vs H Q E h => ?_) (fun cdv A outer s H vs Q E hr h => ?_)
  · obtain ⟨a, ns, rfl, _⟩ := h
    rfl
  obtain ⟨a, ns, rfl, hS, h63, q⟩ := h
  refine ⟨_, (pss_cons (ps_set (i := 2) sc_law.nd rfl (.inl rfl) (pe_cal C__law_box hr (by first | decide | exact Nat.le_refl _) (by rfl) (pa_cons (pv 0) pa_nil)))
  (pss_cons (ps_asg (pe_cal C__law_language hr (by first | decide | exact Nat.le_refl _) (by rfl) (pa_cons (pv 2) (pa_cons (pe_ix ix_list (pe_lst (pa_cons pe_int (pa_cons pe_int (pa_cons pe_int pa_nil)))) (pe_cal C__law_draw hr (by first | decide | exact Nat.le_refl _) (by rfl) (pa_cons (pv 2) (pa_cons pe_int pa_nil))) (fun _ _ => rfl)) pa_nil))) (pg_tup rfl (pgs_cons (pg_name (i := 5) sc_law.nd rfl (.inl rfl)) (pgs_cons (pg_name (i := 4) sc_law.nd rfl (.inl rfl)) pgs_nil))))
  (pss_cons (ps_setLc (i := 3) (own := [("pair", 7)]) rfl sc_law.nd rfl rfl (sw_true rfl rfl rfl (by decide +kernel)) (pi_tup (pv 4)) (blkOk_by (N := ["script", "at", "box", "names", "relations", "sorts", "turn", "pair"]) (sc := defScope s_law) (by decide +kernel)) (fun _ _ _ _ _ => (pg_name (i := 7) sc_law.nd rfl (.inl rfl))) (fun _ _ _ _ _ => pts_nil) (fun _ _ _ _ _ => (pe_ix (ix_tupK K rfl) (pv 7) pe_int (fun _ _ => rfl))))
  (pss_cons (ps_if (PW.pt (pw_or (pt_not (pt_val (pe_cal C__law_right hr (by first | decide | exact Nat.le_refl _) (by rfl) (pa_cons (pv 2) (pa_cons (pv 5) (pa_cons (pv 4) (pa_cons (pe_lst pa_nil) pa_nil))))))) (pw_or1 (pt_not (pt_val (pe_cal C__law_right hr (by first | decide | exact Nat.le_refl _) (by rfl) (pa_cons (pv 2) (pa_cons (pv 5) (pa_cons (pe_tup pa_nil) (pa_cons (pv 3) pa_nil))))))))))
  (pss_one (ps_ret pe_bl)) pss_nil)
  (pss_cons (ps_if (pt_not (pt_val (pe_cal C__law_right hr (by first | decide | exact Nat.le_refl _) (by rfl) (pa_cons (pv 2) (pa_cons (pv 5) (pa_cons (RT.pe_tupRev rfl (by rfl) m_tuple (by rfl) m_reversed (pe_callTy call_list_of (by rfl) m_list (by decide +kernel) (pa_cons (pv 4) pa_nil))) (pa_cons (pe_lst pa_nil) pa_nil)))))))
  (pss_one (ps_ret pe_bl)) pss_nil)
  (pss_cons (ps_for PassesOwn.never rfl (pi_range1 (by rfl) m_range (pa_cons (pe_op op_mul pe_int (pe_callTy call_int1 (by rfl) m_int (by decide +kernel) (pa_cons (pe_cmpR op_gt (pe_callB call_len_seq (by rfl) m_len (by decide +kernel) (pa_cons (pv 4) pa_nil)) pe_int (nomark _)) pa_nil))) pa_nil)) (pg_name (i := 6) sc_law.nd rfl (.inl rfl))
  (pss_cons (ps_set (i := 1) sc_law.nd rfl (.inl rfl) (pe_cal C__law_draw hr (by first | decide | exact Nat.le_refl _) (by rfl) (pa_cons (pv 2) (pa_cons (pe_callB call_len_seq (by rfl) m_len (by decide +kernel) (pa_cons (pv 4) pa_nil)) pa_nil))))
  (pss_one (ps_if (pt_not (pt_val (pe_cal C__law_right hr (by first | decide | exact Nat.le_refl _) (by rfl) (pa_cons (pv 2) (pa_cons (pv 5) (pa_cons (pe_op op_catA (pe_slice sl_tupA (pv 4) po_none (po_some (pv 1))) (pe_slice sl_tupA (pv 4) (po_some (pe_op op_add (pv 1) pe_int)) po_none)) (pa_cons (pe_lst (pa_cons (pe_ix ix_list (pv 3) (pv 1) (fun _ _ => rfl)) pa_nil)) pa_nil)))))))
  (pss_one (ps_ret pe_bl)) pss_nil))))
  (pss_one (ps_ret (pe_cal C__law_right hr (by first | decide | exact Nat.le_refl _) (by rfl) (pa_cons (pv 2) (pa_cons pe_int (pa_cons (pv 4) (pa_cons (pe_lst pa_nil) pa_nil))))))))))))), ?_⟩
  refine ⟨_, rfl, a, ns, rfl, hS, h63, fun bx c H1 sm1 nbx nc b1 => ?_⟩
  have W := drwB bx c ns
  -- language
  refine ⟨_, rfl, show 3 ≤ sizeLine by decide, fun l nl => ?_⟩
  have s1 := W.new (o := .lst [V.int 3, V.int 8, V.int 16]) b1 nl
  have nls := (W.fresh _ _ b1 nl).1
  refine ⟨_, rfl, bx, c, ns, 3, rfl, s1, by decide, by decide, fun d2 H2 d20 d21 k2 b2 => ?_⟩
  obtain ⟨v, hat, hv⟩ := atI_pick (l := [V.int 3, V.int 8, V.int 16]) d20 (by exact d21)
  obtain ⟨most, rfl, hm⟩ := three_ok v hv
  refine ⟨l, _, d2, _, rfl, rfl, SqL.of (k2 _ _ nls upd_same), hat, ?_⟩
  refine ⟨bx, c, ns, most, rfl, b2, hm, fun t rt sorts ps H3 so1 so4 lps hok hpl hT hR k3 b3 => ?_⟩
  refine ⟨t, _, rfl, hT, rfl, .int (sorts : Int), [.ref rt], rfl, .ref rt, [], rfl, rfl, ?_⟩
  clear nl s1 nls k2 b2 hat hv d20 d21 k3 b1
  -- names
  refine ⟨_, rfl, rt, rfl, ⟨_, hR.1⟩, fun N nN => ?_⟩
  refine lc_it (walk_tup (xs := relV ps)) (fun m H' => H' N = some (.lst (namesV (ps.take m))) ∧ Same H3 H')
    ⟨upd_same, same_new nN⟩ (fun m H' _ h => h.2.seqT hR.1) ?_ ?_
  · rintro m v _ H4 hm ⟨c1, c2⟩ ⟨rfl, hx⟩
    obtain ⟨r, hr, rfl⟩ := relV_get hx
    obtain ⟨z1, z2⟩ := hR.2 r (List.mem_of_getElem? hr)
    refine ⟨rfl, yes_ ?_⟩
    refine ⟨_, rfl, r.1.1, _, 0, _, rfl, rfl, c2.seqT z1, rfl, _, c1, ?_, ?_, Same.over nN c2⟩
    · unfold namesV
      rw [List.length_map, List.length_take]
      exact small1000 (by omega)
    · rw [upd_same]
      unfold namesV
      rw [List.take_add_one, hr, List.map_append]
      rfl
  rintro H4 ⟨c1, c2⟩
  rw [relV_len, List.take_length] at c1
  have b4 := BoxAt.same c2 b3
  have hR4 := hR.tups (Tups.same c2)
  have nNb : N ≠ bx := (W.fresh _ _ b3 nN).1
  clear b3 hT hR c2 nN
  have h16 : ps.length ≤ 16 := by omega
  have en : namesV ps = (ps.map fun q => q.2.1).map V.str := by
    unfold namesV
    rw [List.map_map]
    rfl
  rw [en] at c1
  have ln : (ps.map fun q => q.2.1).length ≤ 16 := by rw [List.length_map]; exact h16
  -- the relations
  refine ⟨_, rfl, _, rfl, _, rfl, Nat.zero_le _, fun e1 ne1 => ?_⟩
  have s1 := same_new (o := .lst ([] : List V)) ne1
  refine ⟨bx, c, ns, _, rt, e1, ps, [], rfl, BoxAt.same s1 b4, hR4.tups (Tups.same s1), hok, h16, upd_same, (W.fresh _ _ b4 ne1).1, Nat.zero_le _, fun H5 k5 b5 => ⟨_, rfl, iteF ?_⟩⟩
  have k45 := s1.kept.trans k5
  have hR5 := hR4.tups (W.tups b4 k45)
  have c5 := k45 _ _ nNb c1
  clear k45 k5 s1 ne1 b4 hR4 c1
  -- none
  refine ⟨_, rfl, _, rfl, Nat.zero_le _, fun e1 ne1 => ⟨_, rfl, ?_⟩⟩
  have s1 := same_new (o := .tup ([] : List V)) ne1
  refine ⟨bx, c, ns, _, e1, N, [], _, rfl, BoxAt.same s1 b5, ⟨.inl (.inl upd_same), by simp⟩, by simp, Nat.zero_le _, s1 _ _ c5, nNb, ln, fun H6 k6 b6 => ⟨_, rfl, iteF ?_⟩⟩
  have k56 := s1.kept.trans k6
  have hR6 := hR5.tups (W.tups b5 k56)
  have c6 := k56 _ _ nNb c5
  clear k56 k6 s1 ne1 b5 hR5 c5
  -- turned round
  refine ⟨_, rfl, _, rfl, _, rfl, rt, _, rfl, .inr hR6.1, fun l1 nl1 => ⟨l1, _, rfl, SqL.of upd_same, fun t1 nt1 => ?_⟩⟩
  refine ⟨Nat.zero_le _, fun e1 ne1 => ?_⟩
  have s1 := ((same_new (o := .lst (relV ps)) nl1).trans (same_new (o := .tup (relV ps).reverse) nt1)).trans (same_new (o := .lst ([] : List V)) ne1)
  have q1 : SqT K (upd (upd (upd H6 l1 (.lst (relV ps))) t1 (.tup (relV ps).reverse)) e1 (.lst ([] : List V))) t1 (relV ps.reverse) := by
    have er : relV ps.reverse = (relV ps).reverse := List.map_reverse
    rw [er]
    exact (same_new (o := .lst ([] : List V)) ne1).seqT (.inl (.inl upd_same))
  refine ⟨bx, c, ns, _, t1, e1, ps.reverse, [], rfl, BoxAt.same s1 b6, ⟨q1, fun q hq => (hR6.2 q (List.mem_reverse.mp hq)).tups (Tups.same s1)⟩, fun q hq => hok q (List.mem_reverse.mp hq), by rw [List.length_reverse]; exact h16, upd_same,
    (W.fresh _ _ (BoxAt.same ((same_new (o := .lst (relV ps)) nl1).trans (same_new (o := .tup (relV ps).reverse) nt1)) b6) ne1).1, Nat.zero_le _, fun H7 k7 b7 => ⟨_, rfl, iteF ?_⟩⟩
  have k67 := s1.kept.trans k7
  have hR7 := hR6.tups (W.tups b6 k67)
  have c7 := k67 _ _ nNb c6
  clear k67 k7 s1 ne1 nt1 nl1 q1 b6 hR6 c6
  -- one left out
  refine ⟨_, rfl, rt, _, rfl, .inr hR7.1, _, _, rfl, rfl, .inr ⟨_, rfl, _, _, rfl, rfl, .inl ⟨by decide, by decide⟩, _, rfl, ?_, ?_, ?_⟩⟩
  · show (-2 ^ 62 : Int) ≤ 3 * if decide (0 < ((relV ps).length : Int)) = true then 1 else 0
    split <;> decide
  · show (3 * if decide (0 < ((relV ps).length : Int)) = true then 1 else 0 : Int) < 2 ^ 62
    split <;> decide
  have hn : ∀ i : Nat, i < (3 * if decide (0 < ((relV ps).length : Int)) = true then 1 else 0 : Int).toNat → 0 < ps.length := fun i hi => by
    rcases Nat.eq_zero_or_pos ps.length with e | e
    · rw [relV_len, e] at hi
      exact absurd hi (Nat.not_lt_zero i)
    · exact e
  refine for_range (fun i σ H' => (∃ (a1 a6 a7 : Option V), σ = [some (.ref a), a1, some (.ref bx), some (.ref N), some (.ref rt), some (.int (sorts : Int)), a6, a7]) ∧ RelsAt K H' rt ps ∧ H' N = some (.lst ((ps.map fun q => q.2.1).map V.str)) ∧ BoxAt bx c ns H')
    ⟨⟨_, _, _, rfl⟩, hR7, c7, b7⟩ ?_ ?_
  · rintro i σ G hi ⟨⟨a1, a6, a7, rfl⟩, h1, h2, h3⟩
    have hp := hn i hi
    refine ⟨_, rfl, _, rfl, rt, _, rfl, .inr h1.1, bx, c, ns, _, rfl, h3, by rw [relV_len]; omega, by rw [relV_len]; omega, fun d G1 d0 d1 k1 b1 => ?_⟩
    obtain ⟨j, rfl⟩ := Int.eq_ofNat_of_zero_le d0
    have hj : j < ps.length := by rw [relV_len] at d1; omega
    have r1 := h1.tups (W.tups h3 k1)
    have n1 := k1 _ _ nNb h2
    refine ⟨_, rfl, _, rfl, _, rfl, _, rfl, (j : Nat), rfl, slA_any r1.1 fun p1 G2 g2 q2 => ?_⟩
    refine ⟨_, rfl, _, rfl, _, _, rfl, rfl, _, rfl, ?_⟩
    refine slA_end (g2.seqT r1.1) fun p2 G3 g3 q3 => ?_
    have e1 : cutV (relV ps) none (some (j : Int)) = relV (ps.take j) := by
      rw [cutV_take (by rw [relV_len]; omega)]
      exact List.map_take.symm
    have e2 : cutV (relV ps) (some ((j : Int) + 1)) none = relV (ps.drop (j + 1)) := by
      rw [show (j : Int) + 1 = ((j + 1 : Nat) : Int) by omega, cutV_drop (by rw [relV_len]; omega)]
      exact List.map_drop.symm
    replace q2 : SqT K G2 p1 (relV (ps.take j)) := e1 ▸ q2
    replace q3 : SqT K G3 p2 (relV (ps.drop (j + 1))) := e2 ▸ q3
    have lc : (relV (ps.take j)).length + (relV (ps.drop (j + 1))).length ≤ 16 := by
      rw [relV_len, relV_len, List.length_take, List.length_drop]
      omega
    refine catA_any (g3.seqT q2) q3 (fits (by omega)) fun p3 G4 g4 q4 => ?_
    have g24 := (g2.trans g3).trans g4
    have e3 : relV (ps.take j) ++ relV (ps.drop (j + 1)) = relV (ps.take j ++ ps.drop (j + 1)) := List.map_append.symm
    rw [e3] at q4
    have n4 := g24 _ _ n1
    have hat : atI ((ps.map fun q => q.2.1).map V.str) (j : Int) = some (.str ps[j].2.1) := atI_nat (by rw [List.getElem?_map, List.getElem?_map, List.getElem?_eq_getElem hj]; rfl)
    refine ⟨_, rfl, _, rfl, N, _, _, _, rfl, rfl, SqL.of n4, hat, show 1 ≤ sizeLine by decide, fun l1 nl1 => ?_⟩
    have g5 := g24.trans (same_new (o := .lst [V.str ps[j].2.1]) nl1)
    have sub : ∀ q ∈ ps.take j ++ ps.drop (j + 1), q ∈ ps := fun q hq => by
      rcases List.mem_append.mp hq with hq | hq
      · exact List.mem_of_mem_take hq
      · exact List.mem_of_mem_drop hq
    refine ⟨bx, c, ns, _, p3, l1, ps.take j ++ ps.drop (j + 1), [ps[j].2.1], rfl, BoxAt.same g5 b1, ⟨(same_new (o := .lst [V.str ps[j].2.1]) nl1).seqT q4, fun q hq => (r1.2 q (sub q hq)).tups (Tups.same g5)⟩, fun q hq => hok q (sub q hq),
      by rw [List.length_append, List.length_take, List.length_drop]; omega, upd_same, (W.fresh _ _ (BoxAt.same g24 b1) nl1).1, show 1 ≤ 16 by decide, fun G6 k6 b6 => ⟨_, rfl, iteF ?_⟩⟩
    have k16 := g5.kept.trans k6
    exact ⟨⟨_, _, _, rfl⟩, r1.tups (W.tups b1 k16), k16 _ _ nNb n1, b6⟩
  · rintro σ G ⟨⟨a1, a6, a7, rfl⟩, h1, h2, h3⟩
    refine ⟨_, rfl, _, rfl, Nat.zero_le _, fun e1 ne1 => ?_⟩
    have s1 := same_new (o := .lst ([] : List V)) ne1
    exact ⟨bx, c, ns, _, rt, e1, ps, [], rfl, BoxAt.same s1 h3, h1.tups (Tups.same s1), hok, h16, upd_same, (W.fresh _ _ h3 ne1).1, Nat.zero_le _, fun H' _ _ => q H'⟩
end
theorem all_mk {l : PySem.W.OpenLaw} {w : World} {K : PySem.W.Frag} {h : Heap} {mg : Str → Option Value} {fa : Addr} {f0 f1 f2 f3 f4 f5 f6 f7 f8 f9 f10 f11 f12 f13 : Addr} (X : K.In h) (G : h.Ns mainGlobals mg) (hfa : mg "law" = some (.ref fa))
    {od0 an0 od1 an1 od2 an2 od3 an3 od4 an4 od5 an5 od6 an6 od7 an7 od8 an8 od9 an9 od10 an10 od11 an11 od12 an12 od13 an13 : Option Addr} {sl0 sl1 sl2 sl3 sl4 sl5 sl6 sl7 sl8 sl9 sl10 sl11 sl12 sl13 : Array (Option Value)} {oc0 kV0 dc0 pm0 cd0 ct0 oc1 kV1 dc1 pm1 cd1 ct1 oc2 kV2 dc2 pm2 cd2 ct2 oc3 kV3 dc3 pm3 cd3 ct3 oc4 kV4 dc4 pm4 cd4 ct4 oc5 kV5 dc5 pm5 cd5 ct5 oc6 kV6 dc6 pm6 cd6 ct6 oc7 kV7 dc7 pm7 cd7 ct7 oc8 kV8 dc8 pm8 cd8 ct8 oc9 kV9 dc9 pm9 cd9 ct9 oc10 kV10 dc10 pm10 cd10 ct10 oc11 kV11 dc11 pm11 cd11 ct11 oc12 kV12 dc12 pm12 cd12 ct12 oc13 kV13 dc13 pm13 cd13 ct13 : Value}
    (a0 : PySem.W.nsIn K mainGlobals "_law_box" = some (some (.ref f0))) (l0 : K.lookup f0 = some ⟨oc0, od0, .func (PySem.W.fnOf "_law_box" "_law_box" (defArgs s__law_box) (defBody s__law_box) (defScope s__law_box) .none kV0 dc0 pm0 an0 cd0 ct0), sl0⟩) (c0 : PySem.W.codeIn K cd0 "_law_box" = true) (k0 : PySem.W.keepIn K (.ref f0) = true)
    (a1 : PySem.W.nsIn K mainGlobals "_law_mix" = some (some (.ref f1))) (l1 : K.lookup f1 = some ⟨oc1, od1, .func (PySem.W.fnOf "_law_mix" "_law_mix" (defArgs s__law_mix) (defBody s__law_mix) (defScope s__law_mix) .none kV1 dc1 pm1 an1 cd1 ct1), sl1⟩) (c1 : PySem.W.codeIn K cd1 "_law_mix" = true) (k1 : PySem.W.keepIn K (.ref f1) = true)
    (a2 : PySem.W.nsIn K mainGlobals "_law_draw" = some (some (.ref f2))) (l2 : K.lookup f2 = some ⟨oc2, od2, .func (PySem.W.fnOf "_law_draw" "_law_draw" (defArgs s__law_draw) (defBody s__law_draw) (defScope s__law_draw) .none kV2 dc2 pm2 an2 cd2 ct2), sl2⟩) (c2 : PySem.W.codeIn K cd2 "_law_draw" = true) (k2 : PySem.W.keepIn K (.ref f2) = true)
    (a3 : PySem.W.nsIn K mainGlobals "_law_word" = some (some (.ref f3))) (l3 : K.lookup f3 = some ⟨oc3, od3, .func (PySem.W.fnOf "_law_word" "_law_word" (defArgs s__law_word) (defBody s__law_word) (defScope s__law_word) .none kV3 dc3 pm3 an3 cd3 ct3), sl3⟩) (c3 : PySem.W.codeIn K cd3 "_law_word" = true) (k3 : PySem.W.keepIn K (.ref f3) = true)
    (a4 : PySem.W.nsIn K mainGlobals "_law_names" = some (some (.ref f4))) (l4 : K.lookup f4 = some ⟨oc4, od4, .func (PySem.W.fnOf "_law_names" "_law_names" (defArgs s__law_names) (defBody s__law_names) (defScope s__law_names) .none kV4 dc4 pm4 an4 cd4 ct4), sl4⟩) (c4 : PySem.W.codeIn K cd4 "_law_names" = true) (k4 : PySem.W.keepIn K (.ref f4) = true)
    (a5 : PySem.W.nsIn K mainGlobals "_law_language" = some (some (.ref f5))) (l5 : K.lookup f5 = some ⟨oc5, od5, .func (PySem.W.fnOf "_law_language" "_law_language" (defArgs s__law_language) (defBody s__law_language) (defScope s__law_language) .none kV5 dc5 pm5 an5 cd5 ct5), sl5⟩) (c5 : PySem.W.codeIn K cd5 "_law_language" = true) (k5 : PySem.W.keepIn K (.ref f5) = true)
    (a6 : PySem.W.nsIn K mainGlobals "_law_width" = some (some (.ref f6))) (l6 : K.lookup f6 = some ⟨oc6, od6, .func (PySem.W.fnOf "_law_width" "_law_width" (defArgs s__law_width) (defBody s__law_width) (defScope s__law_width) .none kV6 dc6 pm6 an6 cd6 ct6), sl6⟩) (c6 : PySem.W.codeIn K cd6 "_law_width" = true) (k6 : PySem.W.keepIn K (.ref f6) = true)
    (a7 : PySem.W.nsIn K mainGlobals "_law_asked_names" = some (some (.ref f7))) (l7 : K.lookup f7 = some ⟨oc7, od7, .func (PySem.W.fnOf "_law_asked_names" "_law_asked_names" (defArgs s__law_asked_names) (defBody s__law_asked_names) (defScope s__law_asked_names) .none kV7 dc7 pm7 an7 cd7 ct7), sl7⟩) (c7 : PySem.W.codeIn K cd7 "_law_asked_names" = true) (k7 : PySem.W.keepIn K (.ref f7) = true)
    (a8 : PySem.W.nsIn K mainGlobals "_law_alike" = some (some (.ref f8))) (l8 : K.lookup f8 = some ⟨oc8, od8, .func (PySem.W.fnOf "_law_alike" "_law_alike" (defArgs s__law_alike) (defBody s__law_alike) (defScope s__law_alike) .none kV8 dc8 pm8 an8 cd8 ct8), sl8⟩) (c8 : PySem.W.codeIn K cd8 "_law_alike" = true) (k8 : PySem.W.keepIn K (.ref f8) = true)
    (a9 : PySem.W.nsIn K mainGlobals "_law_place" = some (some (.ref f9))) (l9 : K.lookup f9 = some ⟨oc9, od9, .func (PySem.W.fnOf "_law_place" "_law_place" (defArgs s__law_place) (defBody s__law_place) (defScope s__law_place) .none kV9 dc9 pm9 an9 cd9 ct9), sl9⟩) (c9 : PySem.W.codeIn K cd9 "_law_place" = true) (k9 : PySem.W.keepIn K (.ref f9) = true)
    (a10 : PySem.W.nsIn K mainGlobals "relation_number" = some (some (.ref f10))) (l10 : K.lookup f10 = some ⟨oc10, od10, .func (PySem.W.fnOf "relation_number" "relation_number" (defArgs s_relation_number) (defBody s_relation_number) (defScope s_relation_number) .none kV10 dc10 pm10 an10 cd10 ct10), sl10⟩) (c10 : PySem.W.codeIn K cd10 "relation_number" = true) (k10 : PySem.W.keepIn K (.ref f10) = true)
    (a11 : PySem.W.nsIn K mainGlobals "width" = some (some (.ref f11))) (l11 : K.lookup f11 = some ⟨oc11, od11, .func (PySem.W.fnOf "width" "width" (defArgs s_width) (defBody s_width) (defScope s_width) .none kV11 dc11 pm11 an11 cd11 ct11), sl11⟩) (c11 : PySem.W.codeIn K cd11 "width" = true) (k11 : PySem.W.keepIn K (.ref f11) = true)
    (a12 : PySem.W.nsIn K mainGlobals "_law_right" = some (some (.ref f12))) (l12 : K.lookup f12 = some ⟨oc12, od12, .func (PySem.W.fnOf "_law_right" "_law_right" (defArgs s__law_right) (defBody s__law_right) (defScope s__law_right) .none kV12 dc12 pm12 an12 cd12 ct12), sl12⟩) (c12 : PySem.W.codeIn K cd12 "_law_right" = true) (k12 : PySem.W.keepIn K (.ref f12) = true)
    (a13 : PySem.W.nsIn K mainGlobals "law" = some (some (.ref f13))) (l13 : K.lookup f13 = some ⟨oc13, od13, .func (PySem.W.fnOf "law" "law" (defArgs s_law) (defBody s_law) (defScope s_law) .none kV13 dc13 pm13 an13 cd13 ct13), sl13⟩) (c13 : PySem.W.codeIn K cd13 "law" = true) (k13 : PySem.W.keepIn K (.ref f13) = true)
    (z0 : PySem.W.nsIn K mainGlobals "int" = some none) (z1 : PySem.W.nsIn K mainGlobals "len" = some none) (z2 : PySem.W.nsIn K mainGlobals "abs" = some none) (z3 : PySem.W.nsIn K mainGlobals "range" = some none) (z4 : PySem.W.nsIn K mainGlobals "tuple" = some none) (z5 : PySem.W.nsIn K mainGlobals "any" = some none) (z6 : PySem.W.nsIn K mainGlobals "isinstance" = some none) (z7 : PySem.W.nsIn K mainGlobals "bool" = some none) (z8 : PySem.W.nsIn K mainGlobals "str" = some none) (z9 : PySem.W.nsIn K mainGlobals "list" = some none) (z10 : PySem.W.nsIn K mainGlobals "enumerate" = some none) (z11 : PySem.W.nsIn K mainGlobals "max" = some none) (z12 : PySem.W.nsIn K mainGlobals "reversed" = some none) :
    ∃ fd : FuncData, (∀ (s : Shared) (v : Value), BindsTo s fd ⟨[v], []⟩ [("script", v)]) ∧ ∀ base : Heap, K.In base → base.Ns mainGlobals mg → FnOk l.prog w K mg base CX0 6 fa fd ["script"] (sp_law K) := by
  have e := hfa.symm.trans (PySem.W.mg_of X G a13)
  cases e
  have m_int := PySem.W.mg_none_of X G z0
  have m_len := PySem.W.mg_none_of X G z1
  have m_abs := PySem.W.mg_none_of X G z2
  have m_range := PySem.W.mg_none_of X G z3
  have m_tuple := PySem.W.mg_none_of X G z4
  have m_any := PySem.W.mg_none_of X G z5
  have m_isinstance := PySem.W.mg_none_of X G z6
  have m_bool := PySem.W.mg_none_of X G z7
  have m_str := PySem.W.mg_none_of X G z8
  have m_list := PySem.W.mg_none_of X G z9
  have m_enumerate := PySem.W.mg_none_of X G z10
  have m_max := PySem.W.mg_none_of X G z11
  have m_reversed := PySem.W.mg_none_of X G z12
  have F0 := fun_mk (st := s__law_box) l0 c0 k0
  have b0 := F0.binds (ps := ["script"]) fun _ _ _ _ _ _ us hl => match us, hl with | [_], _ => rfl
  have g0 := PySem.W.mg_of X G a0
  have F1 := fun_mk (st := s__law_mix) l1 c1 k1
  have b1 := F1.binds (ps := ["cell", "salt"]) fun _ _ _ _ _ _ us hl => match us, hl with | [_, _], _ => rfl
  have g1 := PySem.W.mg_of X G a1
  have F2 := fun_mk (st := s__law_draw) l2 c2 k2
  have b2 := F2.binds (ps := ["box", "many"]) fun _ _ _ _ _ _ us hl => match us, hl with | [_, _], _ => rfl
  have g2 := PySem.W.mg_of X G a2
  have F3 := fun_mk (st := s__law_word) l3 c3 k3
  have b3 := F3.binds (ps := ["box"]) fun _ _ _ _ _ _ us hl => match us, hl with | [_], _ => rfl
  have g3 := PySem.W.mg_of X G a3
  have F4 := fun_mk (st := s__law_names) l4 c4 k4
  have b4 := F4.binds (ps := ["box", "many"]) fun _ _ _ _ _ _ us hl => match us, hl with | [_, _], _ => rfl
  have g4 := PySem.W.mg_of X G a4
  have F5 := fun_mk (st := s__law_language) l5 c5 k5
  have b5 := F5.binds (ps := ["box", "most"]) fun _ _ _ _ _ _ us hl => match us, hl with | [_, _], _ => rfl
  have g5 := PySem.W.mg_of X G a5
  have F6 := fun_mk (st := s__law_width) l6 c6 k6
  have b6 := F6.binds (ps := ["relations"]) fun _ _ _ _ _ _ us hl => match us, hl with | [_], _ => rfl
  have g6 := PySem.W.mg_of X G a6
  have F7 := fun_mk (st := s__law_asked_names) l7 c7 k7
  have b7 := F7.binds (ps := ["box", "relations", "more"]) fun _ _ _ _ _ _ us hl => match us, hl with | [_, _, _], _ => rfl
  have g7 := PySem.W.mg_of X G a7
  have F8 := fun_mk (st := s__law_alike) l8 c8 k8
  have b8 := F8.binds (ps := ["told", "due"]) fun _ _ _ _ _ _ us hl => match us, hl with | [_, _], _ => rfl
  have g8 := PySem.W.mg_of X G a8
  have F9 := fun_mk (st := s__law_place) l9 c9 k9
  have b9 := F9.binds (ps := ["relations", "name"]) fun _ _ _ _ _ _ us hl => match us, hl with | [_, _], _ => rfl
  have g9 := PySem.W.mg_of X G a9
  have F10 := fun_mk (st := s_relation_number) l10 c10 k10
  have b10 := F10.binds (ps := ["language", "name"]) fun _ _ _ _ _ _ us hl => match us, hl with | [_, _], _ => rfl
  have g10 := PySem.W.mg_of X G a10
  have F11 := fun_mk (st := s_width) l11 c11 k11
  have b11 := F11.binds (ps := ["language"]) fun _ _ _ _ _ _ us hl => match us, hl with | [_], _ => rfl
  have g11 := PySem.W.mg_of X G a11
  have F12 := fun_mk (st := s__law_right) l12 c12 k12
  have b12 := F12.binds (ps := ["box", "sorts", "relations", "more"]) fun _ _ _ _ _ _ us hl => match us, hl with | [_, _, _, _], _ => rfl
  have g12 := PySem.W.mg_of X G a12
  have F13 := fun_mk (st := s_law) l13 c13 k13
  refine ⟨PySem.W.fnOf "law" "law" (defArgs s_law) (defBody s_law) (defScope s_law) .none kV13 dc13 pm13 an13 cd13 ct13, fun s v => .of_eq rfl, fun base _ _ => ?_⟩
  have C__law_box : Cal l.prog w K mg base 1 "_law_box" s__law_box ["script"] (sp__law_box K) := ⟨_, _, ok__law_box F0 m_int, F0, b0, g0⟩
  have C__law_mix : Cal l.prog w K mg base 1 "_law_mix" s__law_mix ["cell", "salt"] (sp__law_mix K) := ⟨_, _, ok__law_mix F1 m_int, F1, b1, g1⟩
  have C__law_draw : Cal l.prog w K mg base 2 "_law_draw" s__law_draw ["box", "many"] (sp__law_draw K) := ⟨_, _, ok__law_draw F2 C__law_mix m_int m_len m_abs, F2, b2, g2⟩
  have C__law_word : Cal l.prog w K mg base 3 "_law_word" s__law_word ["box"] (sp__law_word K) := ⟨_, _, ok__law_word F3 C__law_draw m_range, F3, b3, g3⟩
  have C__law_names : Cal l.prog w K mg base 4 "_law_names" s__law_names ["box", "many"] (sp__law_names K) := ⟨_, _, ok__law_names F4 C__law_word m_range, F4, b4, g4⟩
  have C__law_language : Cal l.prog w K mg base 5 "_law_language" s__law_language ["box", "most"] (sp__law_language K) := ⟨_, _, ok__law_language F5 C__law_names C__law_draw m_tuple m_range, F5, b5, g5⟩
  have C__law_width : Cal l.prog w K mg base 1 "_law_width" s__law_width ["relations"] (sp__law_width K) := ⟨_, _, ok__law_width F6 m_any m_len, F6, b6, g6⟩
  have C__law_asked_names : Cal l.prog w K mg base 4 "_law_asked_names" s__law_asked_names ["box", "relations", "more"] (sp__law_asked_names K) := ⟨_, _, ok__law_asked_names F7 C__law_draw C__law_word m_len, F7, b7, g7⟩
  have C__law_alike : Cal l.prog w K mg base 4 "_law_alike" s__law_alike ["told", "due"] (sp__law_alike K) := ⟨_, _, ok__law_alike F8 b8 g8 m_isinstance m_bool m_str m_tuple m_list m_range m_int m_len 4, F8, b8, g8⟩
  have C__law_place : Cal l.prog w K mg base 1 "_law_place" s__law_place ["relations", "name"] (sp__law_place K) := ⟨_, _, ok__law_place F9 m_len m_range, F9, b9, g9⟩
  have C_relation_number : Cal l.prog w K mg base 1 "relation_number" s_relation_number ["language", "name"] (sp_relation_number K) := ⟨_, _, ok_relation_number F10 m_enumerate, F10, b10, g10⟩
  have C_width : Cal l.prog w K mg base 1 "width" s_width ["language"] (sp_width K) := ⟨_, _, ok_width F11 m_max m_len, F11, b11, g11⟩
  have C__law_right : Cal l.prog w K mg base 5 "_law_right" s__law_right ["box", "sorts", "relations", "more"] (sp__law_right K) := ⟨_, _, ok__law_right F12 C__law_width C__law_asked_names C__law_alike C__law_place C_relation_number C_width, F12, b12, g12⟩
  exact ok_law F13 C__law_box C__law_language C__law_right C__law_draw m_range m_tuple m_int m_len m_reversed m_list
end K02
open PySem PySem.W PyProof.Rows
set_option maxHeartbeats 0 in
theorem PySem.Challenge.cw_bagkinds_k02_widths_and_numbers_holds : PySem.Challenge.rw_bagkinds_k02_widths_and_numbers.Holds := by
  w_on; o_law; k_head; (case hw => w_witness2)
  k_fill
  refine L2.walk_of (l := PySem.Challenge.rw_bagkinds_k02_widths_and_numbers) (n := 63) (k := 6) (x := "script") (CX := fun _ => L2.CX0) (sp := fun w => K02.sp_law _) rfl (by decide) rfl ⟨rfl, by decide, by decide⟩ (fun w h Y => PySem.W.kIn_of Y) ?F (fun _ _ a ns hl _ hS => ⟨a, ns, rfl, hS, hl, fun _ => rfl⟩) (fun _ _ _ _ _ h => h)
  case F =>
    intro w mg fa h KX G hmg
    refine' K02.all_mk KX G hmg ?a0 ?l0 ?c0 ?k0 ?a1 ?l1 ?c1 ?k1 ?a2 ?l2 ?c2 ?k2 ?a3 ?l3 ?c3 ?k3 ?a4 ?l4 ?c4 ?k4 ?a5 ?l5 ?c5 ?k5 ?a6 ?l6 ?c6 ?k6 ?a7 ?l7 ?c7 ?k7 ?a8 ?l8 ?c8 ?k8 ?a9 ?l9 ?c9 ?k9 ?a10 ?l10 ?c10 ?k10 ?a11 ?l11 ?c11 ?k11 ?a12 ?l12 ?c12 ?k12 ?a13 ?l13 ?c13 ?k13 ?z0 ?z1 ?z2 ?z3 ?z4 ?z5 ?z6 ?z7 ?z8 ?z9 ?z10 ?z11 ?z12
    (case a0 => k_is); (case l0 => k_is); (case c0 => k_is); (case k0 => k_is)
    (case a1 => k_is); (case l1 => k_is); (case c1 => k_is); (case k1 => k_is)
    (case a2 => k_is); (case l2 => k_is); (case c2 => k_is); (case k2 => k_is)
    (case a3 => k_is); (case l3 => k_is); (case c3 => k_is); (case k3 => k_is)
    (case a4 => k_is); (case l4 => k_is); (case c4 => k_is); (case k4 => k_is)
    (case a5 => k_is); (case l5 => k_is); (case c5 => k_is); (case k5 => k_is)
    (case a6 => k_is); (case l6 => k_is); (case c6 => k_is); (case k6 => k_is)
    (case a7 => k_is); (case l7 => k_is); (case c7 => k_is); (case k7 => k_is)
    (case a8 => k_is); (case l8 => k_is); (case c8 => k_is); (case k8 => k_is)
    (case a9 => k_is); (case l9 => k_is); (case c9 => k_is); (case k9 => k_is)
    (case a10 => k_is); (case l10 => k_is); (case c10 => k_is); (case k10 => k_is)
    (case a11 => k_is); (case l11 => k_is); (case c11 => k_is); (case k11 => k_is)
    (case a12 => k_is); (case l12 => k_is); (case c12 => k_is); (case k12 => k_is)
    (case a13 => k_is); (case l13 => k_is); (case c13 => k_is); (case k13 => k_is)
    (case z0 => k_is); (case z1 => k_is); (case z2 => k_is); (case z3 => k_is)
    (case z4 => k_is); (case z5 => k_is); (case z6 => k_is); (case z7 => k_is)
    (case z8 => k_is); (case z9 => k_is); (case z10 => k_is); (case z11 => k_is)
    (case z12 => k_is)
