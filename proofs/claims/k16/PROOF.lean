import PyProof.Rows.All
import Wide.All
import OpenK.AllK
import Wide.FinOn
import HandS.Base
import HandS.Call
import HandS.List
import HandS.Comp
import HandS.Ends
import HandS.Dict
import HandS.Iter
import HandS.Text
import HandS.Words
import HandS.WordsList
import HandS.Walk
import HandS.Defaults
import HandS.IsInst
import HandS.TupAny
import HandS.Deep
import KE.GoesEnum
import KE.LtData
import PyProof.ListStr
import HandS.ForMost
import HandS.Codes
import HandS.Zip
import HandS.Rev
import HandS.Conv
import HandS.SortKw
import HandS.TryOnly
import PySem.Challenge.RW_bagkinds_k16_row_atoms
set_option Elab.async false
set_option linter.all false
set_option maxRecDepth 100000
/-! rules that the layer lacks: enumerate of a tuple, list of a text, the order of nested data -/
namespace XT
open PySem PySem.Spec PyProof.Rows L2

/-! enumerate of anything that begins an iterator -/
/-- a new enumerate object over the iterator at b -/
abbrev enumObj (b : Addr) : Obj := { cls := .type "enumerate", data := .fields #[.none, .bool false, .ref b, rawInt 0, .none, .none] }
set_option maxHeartbeats 1000000 in
theorem enum_made {v : Value} {ob : Obj} {G : Heap → Prop} (B : Begins v ob G) :
    Meets (Builtin.«enumerate.__new__» ⟨[.type "enumerate", v], []⟩)
      (fun _ R s => G s.heap ∧
        R (.ok (.ret (.ref (s.heap.push ob).objs.size)))
          { s with heap := (s.heap.push ob).push (enumObj s.heap.objs.size) }) :=
  .of_wp fun prog w A R s hs => by
    obtain ⟨hp, gs, dr, tk, os⟩ := s
    obtain ⟨hg, hr⟩ := hs
    have subE := sub_enumerate
    have begin_it : ∀ {A' : Around} {E Q : Value → Shared → Prop},
        Q (.ref hp.objs.size) ⟨hp.push ob, gs, dr, tk, os⟩ → wpAny (model prog w) A' (pyIter v) Q E ⟨hp, gs, dr, tk, os⟩ :=
      fun q => B.iter prog w _ _ ⟨hp, gs, dr, tk, os⟩ _ hg q
    wp_walk using begin_it
    refine wpAny_stack_any fun _ => wpAny_pure ?_
    split
    · rename_i c _ _ _ _ _
      cases (c == Value.type "enumerate") <;> (wp_walk using begin_it; exact ⟨_, rfl, hr⟩)
    · wp_walk using begin_it
      exact ⟨_, rfl, hr⟩
section
variable {prog : Program} {w : World} {A : Around} {E : Value → Shared → Prop} {s : Shared}
theorem call_enum_of {v : Value} {ob : Obj} {G : Heap → Prop} {Q : Value → Shared → Prop} (B : Begins v ob G) (hg : G s.heap)
    (hq : ∀ h', IsEnum h' (s.heap.objs.size + 1) s.heap.objs.size 0 .none → h'.get? s.heap.objs.size = some ob →
      (∀ b o, s.heap.get? b = some o → h'.get? b = some o) → Q (.ref (s.heap.objs.size + 1)) { s with heap := h' }) :
    wpAny (model prog w) A (call (.type "enumerate") [v]) Q E s := by
  refine callType_new F.called_enumerate (by decide) (F.typeCall_enumerate_1 _) (F.newCall_enumerate_1 _)
    (fun obj => F.args_object_init_2 obj _) F.entry_enumerate_new (enum_made B) ⟨hg, ?_⟩
  have hz : (s.heap.push ob).objs.size = s.heap.objs.size + 1 := Heap.size_push ..
  show _ ∧ _
  rw [hz]
  have en : IsEnum ((s.heap.push ob).push (enumObj s.heap.objs.size)) (s.heap.objs.size + 1) s.heap.objs.size 0 .none := by
    have z := Heap.get?_push_size (s.heap.push ob) (o := enumObj s.heap.objs.size) rfl
    rwa [hz] at z
  exact ⟨⟨_, en, rfl⟩, hq _ en (Heap.get?_push_of_some _ (Heap.get?_push_size _ B.free))
    fun b o x => Heap.get?_push_of_some _ (Heap.get?_push_of_some _ x)⟩
end

/-- the tuple at a as it stands at each turn, each item in a new pair with its number -/
def IteT (K : PySem.W.Frag) (a : Addr) : It where
  go i H := ∃ (xs : List V) (x : V), SqT K H a xs ∧ xs[i]? = some x
  yld i H v H' := ∃ (T : Addr) (x : V), v = .ref T ∧ H T = none ∧ H' = upd H T (.tup [.int (i : Nat), x]) ∧ ∀ xs, SqT K H a xs → xs[i]? = some x
  stop i H := ∃ xs : List V, SqT K H a xs ∧ xs.length = i

theorem turn_enumT {P : Program} {w : World} {K : PySem.W.Frag} {elts : List Expr} {kk : Nat} {tpos : Pos} (a e it : Addr) :
    Turn P w K (.Tuple elts kk tpos) (IteT K a) [e, it] e
      (fun i h => (∃ old, IsEnum h e it ((i : Nat) : Int) old) ∧ h.IsTupleIter it a i ∧ e ≠ it) where
  mem := by simp
  obj := fun i h ⟨⟨_, he⟩, ⟨o, ho, _, hd⟩, _⟩ b hb => by
    rcases (show b = e ∨ b = it by simpa using hb) with rfl | rfl
    · exact ⟨_, he, fun v q => nomatch q⟩
    · exact ⟨o, ho, fun v q => by rw [hd] at q; cases q⟩
  keep := fun i h h' ⟨⟨old, he⟩, hi, hne⟩ k => ⟨⟨old, k e (by simp) _ he⟩, hi.at fun o q => k it (by simp) o q, hne⟩
  item := by
    intro X hP hw hK hc i pins s σ H E I hf ⟨⟨old, he⟩, hit, hne⟩ ⟨xs, x, hq, hx⟩
    subst hP hw hK
    obtain ⟨its, rv, p, hz⟩ := I.tuple hq
    obtain ⟨u, hu, ru⟩ := rv.get hx
    have hel : e < s.heap.objs.size := Heap.lt_size he
    have hil : it < s.heap.objs.size := let ⟨_, q, _⟩ := hit; Heap.lt_size q
    have hai : a ≠ it := fun z => by
      obtain ⟨o, ho, hcl, _⟩ := hit
      obtain ⟨o2, ho2, hcl2, _⟩ := id p
      rw [z, ho] at ho2
      cases ho2
      rw [hcl] at hcl2
      exact absurd hcl2 (by decide)
    have hae : e ≠ a := fun z => by
      obtain ⟨o2, ho2, hcl2, _⟩ := id p
      rw [← z, show s.heap.get? e = _ from he] at ho2
      cases ho2
      have z2 : Value.type "enumerate" = Value.type "tuple" := hcl2
      injection z2 with z3
      exact absurd z3 (by decide)
    have hh : X.A.in1.in1.handled = none := I.ok.hd hc
    have Dr := Draws.tuple (prog := X.prog) (w := X.w) (A := X.A.in1) hh it a hai its.toArray
    refine wpAny_pyNext_enum_itemC Dr he ⟨hit, p⟩ (by simpa using (List.getElem?_eq_some_iff.mp hu).1) hne (by simp [hne, hae])
      fun x' h' tk hP' ho hst hT hsz hk => ?_
    have ex : x' = u := by
      have z : its[i]? = some x' := by simpa using hP'
      rw [hu] at z
      exact (Option.some.inj z).symm
    subst ex
    refine ⟨_, rfl, wpAny_letOwnedTupleGo_enum (s := { s with heap := h', toks := tk + 1 }) ho fun h2 he2 sb => ?_⟩
    have hT2 : h2.get? s.heap.objs.size = some { cls := .type "tuple", data := .seq #[.int i tk, x'] } := (sb.2 _ (Nat.ne_of_gt hel)).trans hT
    have laid : ObjOk X.prog X.w (upd H s.heap.objs.size (.tup [.int (i : Nat), x])) h2 s.heap.objs.size (.tup [.int (i : Nat), x]) :=
      ⟨show 2 ≤ sizeLine by decide, [.int i tk, x'], .cons ⟨_, rfl⟩ (.cons ru .nil), _, hT2, rfl, _, rfl⟩
    have I1 := I.turnedNew (t' := tk + 1) (ch := [e, it]) (fun b o hb q =>
      (sb.2 b fun z => hb (by simp [z])).trans (hk b o (fun z => hb (by simp [z])) (fun z => hb (by simp [z])) q)) hf (Nat.le_refl _) laid
    refine ⟨.ref s.heap.objs.size, _, I1, rfl, ⟨_, x, rfl, I.hok.fresh (Nat.le_refl _), rfl, fun ys hy => by rw [I.tuple_inj hy hq]; exact hx⟩,
      ⟨⟨x', ?_⟩, hst.1.at fun o q => (sb.2 it (Ne.symm hne)).trans q, hne⟩, fun b hb => ?_⟩
    · rw [show ((i + 1 : Nat) : Int) = (i : Int) + 1 by omega]
      exact he2
    · have hb2 : b < s.heap.objs.size := by
        rcases (show b = e ∨ b = it by simpa using hb) with rfl | rfl
        · exact hel
        · exact hil
      rw [upd_ne (Nat.ne_of_lt hb2)]
      exact (hf b hb).1
  done := by
    intro X hP hw hK hc i pins s σ H E I hf ⟨⟨old, he⟩, hit, hne⟩ ⟨xs, hq, hx⟩
    subst hP hw hK
    obtain ⟨its, rv, p, hz⟩ := I.tuple hq
    have hai : a ≠ it := fun z => by
      obtain ⟨o, ho, hcl, _⟩ := hit
      obtain ⟨o2, ho2, hcl2, _⟩ := id p
      rw [z, ho] at ho2
      cases ho2
      rw [hcl] at hcl2
      exact absurd hcl2 (by decide)
    have hh : X.A.in1.in1.handled = none := I.ok.hd hc
    have Dr := Draws.tuple (prog := X.prog) (w := X.w) (A := X.A.in1) hh it a hai its.toArray
    obtain ⟨f0, f1, f2, f3, f4, f5⟩ := hf it (by simp)
    have en : i = its.toArray.size := by
      rw [List.size_toArray, ← rv.length, hx]
    subst en
    exact wpAny_pyNext_enum_endD Dr he ⟨hit, p⟩ fun h' eb => ⟨rfl, I.turned (t' := s.toks) (fun b o hb q => eb b o hb q) f0 f1 f3 f4 f5⟩
  self := fun A i s Q E ⟨⟨_, he⟩, _⟩ h => wpAny_pyIter_enum he h

def iEnumT (K : PySem.W.Frag) (ta : TA) : TI := fun σ H R =>
  ta σ H fun vs H1 => ∃ (a : Addr) (xs : List V), vs = [.ref a] ∧ SqT K H1 a xs ∧ R (IteT K a) H1
theorem pi_enumT {X : Cx} (K : PySem.W.Frag) (hK : X.K = K) {e : Expr} {ta : TA} {p pos tpos : Pos} {elts : List Expr} {kk : Nat} (hg : Gl X "enumerate") (hm : X.mg "enumerate" = none)
    (ha : PA X [e] ta) (hs : starEach [e] X.env = [(false, eval e X.env)] := by rfl) :
    PI X (.Tuple elts kk tpos) (.Call (.Name "enumerate" p) [e] [] pos) (iEnumT K ta) := by
  subst hK
  refine ⟨fun pins s σ H R I h => ?_⟩
  refine Call_ (ld_blt I hg hm boot_enumerate (PyProof.Rows.callWith_type1 (thn (ha.run pos pins s σ H _ I h)
    fun us s1 ⟨vs, H1, I1, r1, a, xs, ex, hq, q⟩ => ?_) hs rfl))
  subst ex
  rcases r1 with _ | ⟨r, rr⟩
  rcases rr with _ | _
  cases r
  obtain ⟨its, rv, pt, hz⟩ := I1.tuple hq
  refine call_enum_of (begins_tuple a its.toArray) pt fun h' he hit hk => wpAny_pyIter_enum he ?_
  have I2 : Inv X pins σ H1 { s1 with heap := h' } := I1.kept (t' := s1.toks) hk
  refine ⟨s1.heap.objs.size + 1, [s1.heap.objs.size + 1, s1.heap.objs.size], _, _, H1, rfl, I2, turn_enumT a (s1.heap.objs.size + 1) s1.heap.objs.size,
    ⟨⟨.none, he⟩, ⟨_, hit, rfl, rfl⟩, Nat.succ_ne_self _⟩, fun b hb => ?_, q⟩
  have hle : s1.heap.objs.size ≤ b := by
    rcases (show b = s1.heap.objs.size + 1 ∨ b = s1.heap.objs.size by simpa using hb) with rfl | rfl
    · exact Nat.le_succ _
    · exact Nat.le_refl _
  exact I1.fpOk hle (I1.hok.fresh hle)
theorem walk_enumT {K : PySem.W.Frag} {a : Addr} {xs : List V} :
    Walk (IteT K a) xs.length (fun H => SqT K H a xs) (YPair (fun i => some (.int (i : Nat))) (fun i => xs[i]?)) :=
  ⟨fun i _ hi q => ⟨xs, xs[i], q, by simp [hi]⟩, fun _ q => ⟨xs, q, rfl⟩,
   fun i H v H' _ q ⟨T, x, h1, h2, h3, h4⟩ => ⟨T, .int (i : Nat), x, h1, h2, h3, rfl, h4 xs q⟩⟩

/-! list(text) -/
theorem paired_of {α β : Type} {R : α → β → Prop} : ∀ {xs : List α} {us : List β}, xs.length = us.length →
    (∀ (i : Nat) x u, xs[i]? = some x → us[i]? = some u → R x u) → Paired R xs us
  | [], [], _, _ => .nil
  | [], _ :: _, e, _ => by cases e
  | _ :: _, [], e, _ => by cases e
  | x :: xs, u :: us, e, h => .cons (h 0 x u rfl rfl) (paired_of (by simpa using e) fun i y v h1 h2 => h (i + 1) y v (by simpa using h1) (by simpa using h2))
/-- a text as the list of its signsV -/
def signsV (z : Str) : List V := z.cps.toList.map fun c => V.str ⟨#[c]⟩
theorem signsV_vals {x : Str} {acc : Array Value} (h : ItemsOf (SignAt x) acc x.cps.size) : Vals (signsV x) acc.toList := by
  obtain ⟨h1, h2⟩ := h
  refine paired_of (by simp [signsV, h1]) fun i y v e1 e2 => ?_
  obtain ⟨c, t, e3, rfl⟩ := h2 i v (by simpa using e2)
  have e4 : y = V.str ⟨#[c]⟩ := by
    simp only [signsV, List.getElem?_map, Array.getElem?_toList, e3, Option.map_some, Option.some.injEq] at e1
    exact e1.symm
  subst e4
  exact ⟨t, rfl⟩
theorem call_list_txt {X : Cx} (hc : X.calm = true) : CallR X (.type "list") (fun xs H Q =>
    ∃ z : Str, xs = [.str z] ∧ z.length ≤ sizeLine ∧ ∀ p, H p = none → Q (.ref p) (upd H p (.lst (signsV z)))) := by
  intro pins s σ H xs us Q I r ⟨z, ex, hz, q⟩
  subst ex
  obtain ⟨u, rfl, rx⟩ := vals1 r
  obtain ⟨t, rfl⟩ := rx
  refine call_list_str (hn := hz) (I.ok.hd hc) z t fun h' tk acc c' k e it => ?_
  have vs := signsV_vals it
  have hl : (signsV z).length ≤ sizeLine := by
    have e1 : (signsV z).length = z.cps.size := by simp [signsV]
    rw [e1]
    exact hz
  exact ⟨.ref s.heap.objs.size, _, I.laid (t' := tk) k (Nat.le_refl _) (show ObjOk X.prog X.w _ h' _ (.lst (signsV z)) from ⟨hl, acc.toList, c', vs, by simpa using e⟩),
    rfl, q _ (I.hok.fresh (Nat.le_refl _))⟩
section
variable {X : Cx}
/-- < of nested data, place by place of one kind -/
def rLtD (K : PySem.W.Frag) : R2 := fun x y H Q =>
  ∃ d e : PyData, (Dp K H x d ∧ Dp K H y e) ∧ PySem.W.alike d e = true ∧ (d ≠ .none ∧ d.depth ≤ 60) ∧ Q (.bl (PySem.W.dataLt d e)) H
theorem op_ltD (hu : X.A.units + 64 < cLine) : OpR X (compareOp .Lt) (rLtD X.K) := by
  intro pins s σ H x y v u Q I rx ry ⟨d, e, ⟨hd, he⟩, al, ⟨nn, dp⟩, q⟩
  obtain ⟨as, r1⟩ := Dp.reads I d x v hd rx
  obtain ⟨bs, r2⟩ := Dp.reads I e y u he ry
  have hr := PySem.W.rcLt_alike d e X.A s v u as bs r1 r2 al nn (by omega)
  exact hr _ _ _ _ ⟨.bl _, H, I, rfl, q⟩
end
end XT

/-! defs of the text with their promises, by name; the state of the draws -/
namespace XT
open PySem PySem.Spec PyProof.Rows L2
/-- the def x of the text keeps its promise -/
structure Cal (P : Program) (w : World) (K : PySem.W.Frag) (mg : Str → Option Value) (base : Heap) (k : Nat) (x : Str) (st : Stmt) (ps : List Str) (sp : Sp) : Prop where
  ex : ∃ (f : Addr) (fd : FuncData), FnOk P w K mg base CX0 k f fd ps sp ∧ Fun K x x st f fd ∧ Binds K fd ps [] ∧ mg x = some (.ref f)
theorem Cal.mk' {P : Program} {w : World} {K : PySem.W.Frag} {mg : Str → Option Value} {base : Heap} {k : Nat} {x : Str} {st : Stmt} {ps : List Str} {sp : Sp} {f : Addr} {fd : FuncData}
    (F : FnOk P w K mg base CX0 k f fd ps sp) (G : Fun K x x st f fd) (b : Binds K fd ps []) (m : mg x = some (.ref f)) : Cal P w K mg base k x st ps sp := ⟨f, fd, F, G, b, m⟩
section
variable {X : Cx} {k j : Nat} {x : Str} {st : Stmt} {ps : List Str} {sp : Sp} {p pos : Pos} {e : Expr} {es : List Expr} {t : TA}
theorem pe_cal (c : Cal X.prog X.w X.K X.mg X.base k x st ps sp) (hr : Room j X.A) (hk : k ≤ j) (hg : Gl X x) (ha : PA X (e :: es) t)
    (hdb : (x == ("__debug__" : Str)) = false := by decide) (he : starEach (e :: es) X.env = (false, eval e X.env) :: starEach es X.env := by rfl)
    (hpl : (backTo pos (starEach es X.env)).any (·.1) = false := by rfl) : PE X (.Call (.Name x p) (e :: es) [] pos) (tCall sp [] E0 t) := by
  obtain ⟨f, fd, F, G, b, m⟩ := c.ex
  exact pe_call F (hr.mono hk) hg m G.kp b .nil pass0 ha (hdb := hdb) (he := he) (hpl := hpl)
theorem pe_cal0 (c : Cal X.prog X.w X.K X.mg X.base k x st ps sp) (hr : Room j X.A) (hk : k ≤ j) (hg : Gl X x)
    (hdb : (x == ("__debug__" : Str)) = false := by decide) : PE X (.Call (.Name x p) [] [] pos) (tCall sp [] E0 tNil) := by
  obtain ⟨f, fd, F, G, b, m⟩ := c.ex
  exact pe_call0 F (hr.mono hk) hg m G.kp b .nil pass0 (hdb := hdb)
/-- how the keywords ks of a call of st bind -/
structure KwB (st : Stmt) (ps ks : List Str) (g : {α : Type} → List α → List α) : Prop where
  to : ∀ (x qual : Str) (kV doc pm : Value) (an : Option Addr) (cdv ct : Value) (ws : List Value), ws.length = ks.length →
    bindArgs (PySem.W.fnOf x qual (defArgs st) (defBody st) (defScope st) .none kV doc pm an cdv ct) ⟨[], ks.zip ws⟩ = pure (ps.zip (g ws))
  rel : ∀ {zs : List V} {ws : List Value}, zs.length = ks.length → Vals zs ws → Vals (g zs) (g ws)
def tCalK (n : Nat) (sp : Sp) (g : {α : Type} → List α → List α) (tk : TA) : TE := fun σ H Q => tk σ H fun zs H2 => zs.length = n ∧ sp (g zs) H2 Q E0
theorem pe_calK {ks : List Str} {g : {α : Type} → List α → List α} {kws : List Keyword} {tk : TA} (c : Cal X.prog X.w X.K X.mg X.base k x st ps sp) (hr : Room j X.A) (hk : k ≤ j) (hg : Gl X x)
    (hb : KwB st ps ks g) (hkw : PK X kws tk) (hall : (backToKw pos (keywordEach kws X.env)).all (·.1.isSome) = true := by rfl) (hks : (backToKw pos (keywordEach kws X.env)).filterMap (·.1) = ks := by rfl)
    (hdb : (x == ("__debug__" : Str)) = false := by decide)
    (hpl : ((backTo pos (starEach [] X.env)).any (·.1) || (backToKw pos (keywordEach kws X.env)).any (·.1.isNone)) = false := by rfl) :
    PE X (.Call (.Name x p) [] kws pos) (tCalK ks.length sp g tk) := by
  obtain ⟨f, fd, F, G, b, m⟩ := c.ex
  obtain ⟨oc, od, kV, doc, pm, an, cdv, ct, osl, efd, lk, hcd⟩ := G.ex
  refine ⟨fun pins s σ H Q I h => ?_⟩
  refine wpAny_Call_Name_kw (ld_glob I hg m ?_ hdb)
  refine PySem.W.callWith_KW0 (h₀ := X.base) I.ok.mod.kin G.kp hall ?_ hpl
  refine thn (hkw.run pos pins s σ H _ I h) fun ws s2 ⟨zs, H2, I2, rz, l2, q2⟩ => ⟨I2.kIn, ?_⟩
  rw [hks]
  have l3 : ws.length = ks.length := rz.length.symm.trans l2
  refine wpAny_call (codeAny_mono (F.run X.A X.stack s2 H2 ⟨[], ks.zip ws⟩ (g ws) (g zs) Q E0 (hr.mono hk) I2.env0 ?_ (hb.rel l2 rz) q2) fun r s' hq => ?_)
  · subst efd
    exact .of_eq (hb.to _ _ _ _ _ _ _ _ _ l3)
  · cases r with
    | error e => exact False.elim hq
    | ok fl =>
      cases fl with
      | ret u => exact I2.after hq
      | next => exact False.elim hq
      | brk => exact False.elim hq
      | cont => exact False.elim hq
end
/-! ### rules with K written out (for what stands within a comprehension) -/
section
variable {X : Cx} (K : PySem.W.Frag) (hK : X.K = K)
include hK
theorem ix_listK : IxR X (rIxL K) := by subst hK; exact ix_list
theorem ix_tupK : IxR X (rIxT K) := by subst hK; exact ix_tup
theorem ix_seqK : IxR X (rIx K) := by subst hK; exact ix_seq
theorem sl_listK : SlR X (rSlL K) := by subst hK; exact sl_list
theorem sl_tupAK : SlR X (rSlA K) := by subst hK; exact sl_tupA
theorem op_eqDK (hu : X.A.units + 64 < cLine) : OpR X (compareOp .Eq) (rEqD K) := by subst hK; exact op_eqD hu
theorem op_neDK (hu : X.A.units + 64 < cLine) : OpR X (compareOp .NotEq) (rNeD K) := by subst hK; exact op_neD hu
theorem op_ltDK (hu : X.A.units + 64 < cLine) : OpR X (compareOp .Lt) (rLtD K) := by subst hK; exact op_ltD hu
theorem op_in_seqK : OpR X (compareOp .In) (rIn K false) := by subst hK; exact op_in_seq
theorem op_notIn_seqK : OpR X (compareOp .NotIn) (rIn K true) := by subst hK; exact op_notIn_seq
theorem op_inDK (hu : X.A.units + 65 < cLine) : OpR X (compareOp .In) (rInD K) := by subst hK; exact op_inD hu
theorem op_notInDK (hu : X.A.units + 65 < cLine) : OpR X (compareOp .NotIn) (rNotInD K) := by subst hK; exact op_notInD hu
theorem op_catAK : OpR X (binaryOp .Add) (rCatA K) := by subst hK; exact op_catA
def rLenS (K : PySem.W.Frag) : List V → Hp → VK → Prop := fun xs H Q => ∃ p ys, xs = [.ref p] ∧ (SqL K H p ys ∨ SqT K H p ys) ∧ Q (.int ys.length) H
theorem call_len_seqK : CallR X (.builtin "len") (rLenS K) := by subst hK; exact call_len_seq
theorem call_isiK' : CallR X (.builtin "isinstance") (rIsi K) := by subst hK; exact call_isi
theorem call_isiTK : CallR X (.builtin "isinstance") (rIsiT K) := by subst hK; exact call_isiT
def rTupOf (K : PySem.W.Frag) : List V → Hp → VK → Prop := fun xs H Q => ∃ p ys, xs = [.ref p] ∧ ((SqL K H p ys ∧ ∀ l, H l = none → Q (.ref l) (upd H l (.tup ys))) ∨ (SqT K H p ys ∧ Q (.ref p) H))
theorem call_tuple_ofK : CallR X (.type "tuple") (rTupOf K) := by subst hK; exact call_tuple_of
def rLstOf (K : PySem.W.Frag) : List V → Hp → VK → Prop := fun xs H Q => ∃ p ys, xs = [.ref p] ∧ (SqL K H p ys ∨ SqT K H p ys) ∧ ∀ l, H l = none → Q (.ref l) (upd H l (.lst ys))
theorem call_list_ofK : CallR X (.type "list") (rLstOf K) := by subst hK; exact call_list_of
theorem cr_anyK (hc : X.calm = true) : CallR X (.builtin "any") (rAny K) := by subst hK; exact cr_any hc
theorem cr_allK (hc : X.calm = true) : CallR X (.builtin "all") (rAll K) := by subst hK; exact cr_all hc
theorem pi_listK {tg l : Expr} {tl : TE} (hl : PE X l tl) : PI X tg l (iList K tl) := by subst hK; exact pi_list hl
theorem pi_tupK {tg l : Expr} {tl : TE} (hl : PE X l tl) : PI X tg l (iTup K tl) := by subst hK; exact pi_tup hl
theorem pg_tupK (n : Nat) {pos : Pos} {es : List Expr} {k : Nat} {t : TGs} (hc : X.calm = true) (h : PGs X es t)
    (hn : (assignEach es X.env).length = n := by rfl) (hst : (assignEach es X.env).findIdx? (·.1) = none := by rfl) : PG X (.Tuple es k pos) (gTup K n t) := by subst hK; exact pg_tup hc h hn hst
end
theorem _root_.L2.Room.units65 {k : Nat} {A : Around} (r : Room k A) : A.units + 65 < cLine := by have := r.un; omega

/-! ### heaps -/
theorem same_new {H : Hp} {p : Addr} {o : HO} (h : H p = none) : Same H (upd H p o) := fun b u q => by rw [upd_ne (ne_of_none q h)]; exact q
/-- all but the state is as it was -/
def Kept (st : Addr) (H H' : Hp) : Prop := ∀ b o, b ≠ st → H b = some o → H' b = some o
theorem Kept.refl (st : Addr) (H : Hp) : Kept st H H := fun _ _ _ h => h
theorem Kept.trans {st : Addr} {H H1 H2 : Hp} (a : Kept st H H1) (b : Kept st H1 H2) : Kept st H H2 := fun c o n h => b c o n (a c o n h)
theorem Kept.new {st : Addr} {H : Hp} {p : Addr} {o : HO} (h : H p = none) : Kept st H (upd H p o) := fun b u _ q => by
  rw [upd_ne (ne_of_none q h)]; exact q
theorem Kept.own {st : Addr} {H : Hp} {o : HO} : Kept st H (upd H st o) := fun b u n q => by rw [upd_ne n]; exact q
theorem _root_.L2.Same.kept {st : Addr} {H H' : Hp} (h : Same H H') : Kept st H H' := fun b o _ q => h b o q
theorem Kept.seqT {st : Addr} {K : PySem.W.Frag} {H H' : Hp} {a : Addr} {xs ys : List V} (k : Kept st H H') (hs : H st = some (.lst ys)) (h : SqT K H a xs) : SqT K H' a xs := by
  rcases h with (h | ⟨o, h⟩) | h
  · exact .inl (.inl (k _ _ (fun e => by rw [e, hs] at h; cases h) h))
  · exact .inl (.inr ⟨o, k _ _ (fun e => by rw [e, hs] at h; cases h) h⟩)
  · exact .inr h
theorem _root_.L2.Same.seqT {K : PySem.W.Frag} {H H' : Hp} {a : Addr} {xs : List V} (e : Same H H') (h : SqT K H a xs) : SqT K H' a xs := by
  rcases h with (h | ⟨o, h⟩) | h
  · exact .inl (.inl (e _ _ h))
  · exact .inl (.inr ⟨o, e _ _ h⟩)
  · exact .inr h
end XT
namespace L2
open PySem PySem.Spec PyProof.Rows
mutual
/-- data without lists stay where tuples stay -/
theorem Dp.keep {K : PySem.W.Frag} {H H' : Hp} (hT : ∀ a xs, SqT K H a xs → SqT K H' a xs) (hL : ∀ a xs, SqL K H a xs → SqL K H' a xs) : ∀ {v : V} {d : PyData}, Dp K H v d → Dp K H' v d
  | _, _, .non => .non
  | _, _, .bl b => .bl b
  | _, _, .int i => .int i
  | _, _, .str x => .str x
  | _, _, .lst h a => .lst (hL _ _ h) (DpAll.keep hT hL a)
  | _, _, .tup h a => .tup (hT _ _ h) (DpAll.keep hT hL a)
theorem DpAll.keep {K : PySem.W.Frag} {H H' : Hp} (hT : ∀ a xs, SqT K H a xs → SqT K H' a xs) (hL : ∀ a xs, SqL K H a xs → SqL K H' a xs) : ∀ {vs : List V} {ds : List PyData}, DpAll K H vs ds → DpAll K H' vs ds
  | _, _, .nil => .nil
  | _, _, .cons h t => .cons (Dp.keep hT hL h) (DpAll.keep hT hL t)
end
theorem Dp.same {K : PySem.W.Frag} {H H' : Hp} (e : Same H H') {v : V} {d : PyData} (h : Dp K H v d) : Dp K H' v d := Dp.keep (fun _ _ q => e.seqT q) (fun _ _ q => e.seq q) h
theorem DpAll.same {K : PySem.W.Frag} {H H' : Hp} (e : Same H H') {v : List V} {d : List PyData} (h : DpAll K H v d) : DpAll K H' v d := DpAll.keep (fun _ _ q => e.seqT q) (fun _ _ q => e.seq q) h
end L2
namespace XT
open PySem PySem.Spec PyProof.Rows L2
end XT

/-! data: what is told of them, isinstance, texts, comprehensions over walks -/
namespace XT
open PySem PySem.Spec PyProof.Rows L2
end XT
namespace L2
open PySem PySem.Spec PyProof.Rows
/-! ### data -/
theorem Dp.tupI {K : PySem.W.Frag} {H : Hp} {v : V} {ds : List PyData} (h : Dp K H v (.tuple ds)) : ∃ a xs, v = .ref a ∧ SqT K H a xs ∧ DpAll K H xs ds := by
  cases h with
  | tup h1 h2 => exact ⟨_, _, rfl, h1, h2⟩
theorem Dp.lstI {K : PySem.W.Frag} {H : Hp} {v : V} {ds : List PyData} (h : Dp K H v (.list ds)) : ∃ a xs, v = .ref a ∧ SqL K H a xs ∧ DpAll K H xs ds := by
  cases h with
  | lst h1 h2 => exact ⟨_, _, rfl, h1, h2⟩
theorem DpAll.len {K : PySem.W.Frag} {H : Hp} : ∀ {xs : List V} {ds : List PyData}, DpAll K H xs ds → xs.length = ds.length
  | _, _, .nil => rfl
  | _, _, .cons _ t => congrArg Nat.succ (DpAll.len t)
theorem DpAll.get {K : PySem.W.Frag} {H : Hp} : ∀ {xs : List V} {ds : List PyData} {i : Nat} {d : PyData}, DpAll K H xs ds → ds[i]? = some d → ∃ v, xs[i]? = some v ∧ Dp K H v d
  | _, _, _, _, .nil, h => by simp at h
  | _, _, 0, _, .cons h _, e => by
    cases (show some _ = some _ from e)
    exact ⟨_, rfl, h⟩
  | _, _, i + 1, _, .cons _ t, e => DpAll.get (i := i) t e
theorem DpAll.of_get {K : PySem.W.Frag} {H : Hp} : ∀ {xs : List V} {ds : List PyData}, xs.length = ds.length → (∀ (i : Nat) (v : V) (d : PyData), xs[i]? = some v → ds[i]? = some d → Dp K H v d) → DpAll K H xs ds
  | [], [], _, _ => .nil
  | [], _ :: _, e, _ => by cases e
  | _ :: _, [], e, _ => by cases e
  | x :: xs, d :: ds, e, h => .cons (h 0 x d rfl rfl) (DpAll.of_get (Nat.succ.inj e) fun i v d h1 h2 => h (i + 1) v d h1 h2)
theorem DpAll.ints {K : PySem.W.Frag} {H : Hp} : ∀ (l : List Int), DpAll K H (l.map V.int) (l.map PyData.int)
  | [] => .nil
  | _ :: l => .cons (.int _) (DpAll.ints l)
theorem DpAll.ints_inv {K : PySem.W.Frag} {H : Hp} : ∀ {xs : List V} (l : List Int), DpAll K H xs (l.map PyData.int) → xs = l.map V.int
  | _, [], .nil => rfl
  | _, _ :: l, .cons h t => by
    cases h
    rw [DpAll.ints_inv l t]
    rfl
theorem DpAll.append {K : PySem.W.Frag} {H : Hp} : ∀ {xs ys : List V} {ds es : List PyData}, DpAll K H xs ds → DpAll K H ys es → DpAll K H (xs ++ ys) (ds ++ es)
  | _, _, _, _, .nil, t => t
  | _, _, _, _, .cons h r, t => .cons h (DpAll.append r t)
end L2
namespace XT
open PySem PySem.Spec PyProof.Rows L2
/-- at most n levels, rows of at most 100000 -/
def okD : Nat → PyData → Prop
  | 0, _ => False
  | n + 1, .list ds => ds.length ≤ 100000 ∧ ∀ d ∈ ds, okD n d
  | n + 1, .tuple ds => ds.length ≤ 100000 ∧ ∀ d ∈ ds, okD n d
  | _ + 1, _ => True
def tyN : PyData → String
  | .none => "NoneType"
  | .bool _ => "bool"
  | .int _ => "int"
  | .str _ => "str"
  | .list _ => "list"
  | .tuple _ => "tuple"
  | .dict _ => "dict"
theorem SqT.ty {K : PySem.W.Frag} {H : Hp} {a : Addr} {xs : List V} (h : SqT K H a xs) : TyX K H (.ref a) (.type "tuple") := by
  rcases h with (h | ⟨o, h⟩) | ⟨o, its, n, hk, hc, _⟩
  · exact .base (.tup h)
  · exact .fTuple h
  · exact .kTuple hk hc
theorem SqL.ty {K : PySem.W.Frag} {H : Hp} {a : Addr} {xs : List V} (h : SqL K H a xs) : TyX K H (.ref a) (.type "list") := by
  rcases h with (h | ⟨o, h⟩) | ⟨o, its, n, hk, hc, _⟩
  · exact .base (.lst h)
  · exact .base (.frz h)
  · exact .kList hk hc
end XT
namespace L2
open PySem PySem.Spec PyProof.Rows XT
theorem Dp.ty {K : PySem.W.Frag} {H : Hp} {v : V} {d : PyData} (h : Dp K H v d) : TyX K H v (.type (tyN d)) := by
  cases h with
  | non => exact .base .non
  | bl b => exact .base (.bl b)
  | int i => exact .base (.int i)
  | str x => exact .base (.str x)
  | lst h _ => exact SqL.ty h
  | tup h _ => exact SqT.ty h
end L2
namespace XT
open PySem PySem.Spec PyProof.Rows L2
theorem rd_isi {K : PySem.W.Frag} {H : Hp} {x : V} {T C : String} {b : Bool} {Q : VK} (ty : TyX K H x (.type T)) (h : kitB T C = some b) (q : Q (.bl b) H) : rIsi K [x, .ty C] H Q :=
  ⟨x, .ty C, .type T, .type C, b, rfl, .ty C, ty, kit_ty h, q⟩
/-! ### texts -/
theorem join_len : ∀ ys : List Str, (Txt.join Str.empty ys).length = (ys.map (·.length)).sum := by
  have go : ∀ ys : List Str, (Str.join Str.empty ys).length = (ys.map (·.length)).sum := by
    intro ys
    induction ys with
    | nil => rfl
    | cons x r ih =>
      cases r with
      | nil => simp [Str.join]
      | cons z r =>
        show (x ++ Str.empty ++ Str.join Str.empty (z :: r)).length = _
        rw [PySem.Str.length_append, PySem.Str.length_append, ih]
        simp only [List.map_cons, List.sum_cons]
        show x.length + 0 + _ = _
        omega
  intro ys
  rw [TL.join_eq, go]
theorem sum_le {l : List Nat} {c : Nat} (h : ∀ x ∈ l, x ≤ c) : l.sum ≤ l.length * c := by
  induction l with
  | nil => simp
  | cons a l ih =>
    have h1 := h a List.mem_cons_self
    have h2 := ih fun x hx => h x (List.mem_cons_of_mem _ hx)
    rw [List.sum_cons, List.length_cons, Nat.succ_mul]
    omega
theorem atI_pick {α : Type} {l : List α} {d : Int} (h0 : 0 ≤ d) (h1 : d < (l.length : Int)) : ∃ c, atI l d = some c ∧ c ∈ l := by
  obtain ⟨j, rfl⟩ := Int.eq_ofNat_of_zero_le h0
  have hj : j < l.length := by omega
  exact ⟨l[j], atI_nat (List.getElem?_eq_getElem hj), List.getElem_mem hj⟩
theorem Kept.over {st D : Addr} {H H' : Hp} {o : HO} (h : H D = none) (k : Kept st H H') : Kept st H (upd H' D o) := fun b u n e => by
  rw [upd_ne (ne_of_none e h)]
  exact k b u n e
theorem yes_ {F G : Hp → Prop} {σ : L2.St} {H : Hp} (h : F H) : tYes σ H (fun b H3 => if b = true then F H3 else G H3) := L2.iteT (B := G H) h
/-! ### comprehensions with two walks -/
/-- what the inner walk asks -/
def InL (Nx : Hp → Prop) (g1 : TG) (tt1 : TT) (te : TE) (D : Addr) (vs1 : List Nat) (σ2 : L2.St) : It → Hp → Prop := fun J1 H4 => ∃ W1 : Nat → Nat → Hp → Prop, (∃ m, W1 0 m H4) ∧ ∀ j k H, W1 j k H →
  (J1.stop j H ∧ Nx H) ∨ (J1.go j H ∧ ∃ Nx1 : Hp → Prop, (∀ H', Nx1 H' → ∃ k', k' < k ∧ W1 (j + 1) k' H') ∧ ∀ x H', J1.yld j H x H' → g1 x (wipe σ2 vs1) H' fun σ3 H5 => wipe σ3 vs1 = wipe σ2 vs1 ∧ tt1 σ3 H5 fun b H6 =>
    if b = true then te σ3 H6 fun y H7 => ∃ acc, H7 D = some (.lst acc) ∧ acc.length < sizeLine ∧ Nx1 (upd H7 D (.lst (acc ++ [y]))) else Nx1 H6)
theorem in_it {J : It} {n : Nat} {G : Hp → Prop} {Y : Nat → Hp → V → Hp → Prop} (w : Walk J n G Y) {g : TG} {tt : TT} {te : TE} {vs : List Nat} {σ : L2.St} {H1 : Hp} {D : Addr} {Nx : Hp → Prop} (Pv : Nat → Hp → Prop)
    (h0 : Pv 0 H1) (hG : ∀ i H, i ≤ n → Pv i H → G H)
    (hs : ∀ i x H H', i < n → Pv i H → Y i H x H' → g x (wipe σ vs) H' fun σ2 H2 => wipe σ2 vs = wipe σ vs ∧ tt σ2 H2 fun b H3 =>
      if b = true then te σ2 H3 fun y H4 => ∃ acc, H4 D = some (.lst acc) ∧ acc.length < sizeLine ∧ Pv (i + 1) (upd H4 D (.lst (acc ++ [y]))) else Pv (i + 1) H3)
    (hd : ∀ H, Pv n H → Nx H) : InL Nx g tt te D vs σ J H1 := by
  refine ⟨fun i m H => m = n - i ∧ i ≤ n ∧ Pv i H, ⟨n, rfl, Nat.zero_le _, h0⟩, ?_⟩
  rintro i m H ⟨rfl, hi, p⟩
  have q := hG i H hi p
  rcases Nat.lt_or_ge i n with hlt | hge
  · exact .inr ⟨w.goes i H hlt q, Pv (i + 1), fun H' p' => ⟨n - (i + 1), by omega, rfl, hlt, p'⟩, fun x H' y => hs i x H H' hlt p (w.yields i H x H' hlt q y)⟩
  · obtain rfl : i = n := Nat.le_antisymm hi hge
    exact .inl ⟨w.stops H q, hd H p⟩
theorem lc2_it {J : It} {n : Nat} {G : Hp → Prop} {Y : Nat → Hp → V → Hp → Prop} (w : Walk J n G Y) {g : TG} {tt : TT} {wi1 : TI} {g1 : TG} {tt1 : TT} {te : TE} {vs vs1 : List Nat} {σ : L2.St} {H1 : Hp} {D : Addr} {Qd : Hp → Prop}
    (Pv : Nat → Hp → Prop) (h0 : Pv 0 (upd H1 D (.lst []))) (hG : ∀ i H, i ≤ n → Pv i H → G H)
    (hs : ∀ i x H H', i < n → Pv i H → Y i H x H' → g x (wipe σ vs) H' fun σ2 H2 => wipe σ2 vs = wipe σ vs ∧ tt σ2 H2 fun b H3 =>
      if b = true then wi1 σ2 H3 (InL (Pv (i + 1)) g1 tt1 te D vs1 σ2) else Pv (i + 1) H3)
    (hd : ∀ H, Pv n H → Qd H) :
    ∃ W : Nat → Nat → Hp → Prop, (∃ m, W 0 m (upd H1 D (.lst []))) ∧ ∀ i m H, W i m H →
      (J.stop i H ∧ Qd H) ∨ (J.go i H ∧ ∃ Nx : Hp → Prop, (∀ H', Nx H' → ∃ m', m' < m ∧ W (i + 1) m' H') ∧ ∀ x H', J.yld i H x H' → g x (wipe σ vs) H' fun σ2 H2 => wipe σ2 vs = wipe σ vs ∧ tt σ2 H2 fun b H3 =>
        if b = true then wi1 σ2 H3 (InL Nx g1 tt1 te D vs1 σ2) else Nx H3) := by
  refine ⟨fun i m H => m = n - i ∧ i ≤ n ∧ Pv i H, ⟨n, rfl, Nat.zero_le _, h0⟩, ?_⟩
  rintro i m H ⟨rfl, hi, p⟩
  have q := hG i H hi p
  rcases Nat.lt_or_ge i n with hlt | hge
  · exact .inr ⟨w.goes i H hlt q, Pv (i + 1), fun H' p' => ⟨n - (i + 1), by omega, rfl, hlt, p'⟩, fun x H' y => hs i x H H' hlt p (w.yields i H x H' hlt q y)⟩
  · obtain rfl : i = n := Nat.le_antisymm hi hge
    exact .inl ⟨w.stops H q, hd H p⟩
/-! ### languages -/
structure Lg where
  sorts : Nat
  rels : List (Str × List Nat)
def intsV (l : List Nat) : List V := l.map fun n : Nat => V.int (n : Int)
structure LgOk (L : Lg) : Prop where
  lo : 1 ≤ L.sorts
  hi : L.sorts ≤ 4
  few : L.rels.length ≤ 16
  pl : ∀ r ∈ L.rels, 1 ≤ r.2.length ∧ r.2.length ≤ 4 ∧ ∀ s ∈ r.2, s < L.sorts
/-- the language L stands at t -/
def LangAt (K : PySem.W.Frag) (H : Hp) (t : Addr) (L : Lg) : Prop := ∃ (rt : Addr) (rs : List (Addr × Addr)),
  SqT K H t [.int (L.sorts : Int), .ref rt] ∧ SqT K H rt (rs.map fun p => .ref p.1) ∧ rs.length = L.rels.length ∧
  ∀ (i : Nat) (p : Addr × Addr) (r : Str × List Nat), rs[i]? = some p → L.rels[i]? = some r → SqT K H p.1 [.str r.1, .ref p.2] ∧ SqT K H p.2 (intsV r.2)
theorem LangAt.keep {K : PySem.W.Frag} {H H' : Hp} {t : Addr} {L : Lg} (hT : ∀ a xs, SqT K H a xs → SqT K H' a xs) (h : LangAt K H t L) : LangAt K H' t L := by
  obtain ⟨rt, rs, h1, h2, h3, h4⟩ := h
  exact ⟨rt, rs, hT _ _ h1, hT _ _ h2, h3, fun i p r e1 e2 => ⟨hT _ _ (h4 i p r e1 e2).1, hT _ _ (h4 i p r e1 e2).2⟩⟩
theorem LangAt.same {K : PySem.W.Frag} {H H' : Hp} {t : Addr} {L : Lg} (e : Same H H') (h : LangAt K H t L) : LangAt K H' t L := h.keep fun _ _ q => e.seqT q
end XT

/-! draws out of a state that is a list: what holds of it, comprehensions of draws -/
namespace XT
open PySem PySem.Spec PyProof.Rows L2
theorem _root_.L2.Same.over {D : Addr} {H H' : Hp} {o : HO} (h : H D = none) (k : Same H H') : Same H (upd H' D o) := fun b u e => by
  rw [upd_ne (ne_of_none e h)]
  exact k b u e
/-- tuples stay -/
def Tups (H H' : Hp) : Prop := ∀ (K : PySem.W.Frag) (a : Addr) (xs : List V), SqT K H a xs → SqT K H' a xs
theorem Tups.refl (H : Hp) : Tups H H := fun _ _ _ h => h
theorem Tups.trans {H H1 H2 : Hp} (a : Tups H H1) (b : Tups H1 H2) : Tups H H2 := fun K c xs h => b K c xs (a K c xs h)
theorem Tups.same {H H' : Hp} (e : Same H H') : Tups H H' := fun _ _ _ h => e.seqT h
theorem Tups.lst {H : Hp} {D : Addr} {xs : List V} {o : HO} (e : H D = some (.lst xs)) : Tups H (upd H D o) := fun K a zs h =>
  Kept.seqT (st := D) Kept.own e h
theorem Tups.new {H : Hp} {D : Addr} {o : HO} (e : H D = none) : Tups H (upd H D o) := Tups.same (same_new e)
/-- S holds of the heap while the list at st is a state of draws -/
structure Drw (st : Addr) (S : Hp → Prop) : Prop where
  lst : ∀ H, S H → ∃ xs, H st = some (.lst xs)
  fresh : ∀ H D, S H → H D = none → D ≠ st ∧ ∀ H' o, S H' → S (upd H' D o)
theorem Drw.new {st : Addr} {S : Hp → Prop} (W : Drw st S) {H : Hp} {D : Addr} {o : HO} (s : S H) (h : H D = none) : S (upd H D o) := (W.fresh H D s h).2 H o s
theorem Drw.seqT {st : Addr} {S : Hp → Prop} (W : Drw st S) {K : PySem.W.Frag} {H H' : Hp} {a : Addr} {xs : List V} (s : S H) (k : Kept st H H') (h : SqT K H a xs) : SqT K H' a xs := by
  obtain ⟨ys, e⟩ := W.lst H s
  exact k.seqT e h
theorem Drw.lang {st : Addr} {S : Hp → Prop} (W : Drw st S) {K : PySem.W.Frag} {H H' : Hp} {t : Addr} {L : Lg} (s : S H) (k : Kept st H H') (h : LangAt K H t L) : LangAt K H' t L := h.keep fun _ _ q => W.seqT s k q
theorem Drw.tups {st : Addr} {S : Hp → Prop} (W : Drw st S) {H H' : Hp} (s : S H) (k : Kept st H H') : Tups H H' := fun _ _ _ h => W.seqT s k h
/-- [e for k in range(n)], e a draw -/
theorem lc_draw {st : Addr} {S : Hp → Prop} (W : Drw st S) {n iv : Nat} {te : TE} {vs : List Nat} {σ : L2.St} {H1 : Hp} {D : Addr} {Qd : Hp → Prop} (P : Hp → V → Prop)
    (mono : ∀ H H' v, Tups H H' → P H v → P H' v) (hn : n ≤ 1000) (h1 : S H1) (nD : H1 D = none) (hw : ∀ x, wipe ((wipe σ vs).set iv x) vs = wipe σ vs)
    (hte : ∀ (i : Nat) (H3 : Hp), i < n → S H3 → Kept st H1 H3 → ∀ Q' : VK, (∀ y H4, P H4 y → Kept st H3 H4 → S H4 → Q' y H4) → te ((wipe σ vs).set iv (some (.int (0 + (i : Nat))))) H3 Q')
    (hd : ∀ (H' : Hp) (xs : List V), xs.length = n → (∀ v ∈ xs, P H' v) → H' D = some (.lst xs) → Kept st H1 H' → S H' → Qd H') :
    ∃ W : Nat → Nat → Hp → Prop, (∃ m, W 0 m (upd H1 D (.lst []))) ∧ ∀ i m H, W i m H →
      ((Itr 0 n).stop i H ∧ Qd H) ∨ ((Itr 0 n).go i H ∧ ∃ Nx : Hp → Prop, (∀ H', Nx H' → ∃ m', m' < m ∧ W (i + 1) m' H') ∧ ∀ x H', (Itr 0 n).yld i H x H' → gName iv x (wipe σ vs) H' fun σ2 H2 => wipe σ2 vs = wipe σ vs ∧ tYes σ2 H2 fun b H3 =>
        if b = true then te σ2 H3 fun y H4 => ∃ acc, H4 D = some (.lst acc) ∧ acc.length < sizeLine ∧ Nx (upd H4 D (.lst (acc ++ [y]))) else Nx H3) := by
  have nst := (W.fresh H1 D h1 nD).1
  have put := (W.fresh H1 D h1 nD).2
  refine lc_range (fun i H' => ∃ xs : List V, H' D = some (.lst xs) ∧ xs.length = i ∧ (∀ v ∈ xs, P H' v) ∧ Kept st H1 H' ∧ S H') ⟨[], upd_same, rfl, by simp, Kept.new nD, W.new h1 nD⟩ ?_ ?_
  · rintro i H3 hi ⟨xs, f1, f2, f3, f4, f5⟩
    refine ⟨hw _, yes_ ?_⟩
    refine hte i H3 hi f5 f4 _ fun y H4 py k4 s4 => ?_
    have eD := k4 _ _ nst f1
    refine ⟨xs, eD, small1000 (by omega), xs ++ [y], upd_same, by simp [f2], fun v hv => ?_, Kept.over nD (f4.trans k4), put _ _ s4⟩
    refine mono _ _ v (Tups.lst eD) ?_
    rcases List.mem_append.mp hv with hv | hv
    · exact mono _ _ v (W.tups f5 k4) (f3 v hv)
    · rw [List.mem_singleton.mp hv]
      exact py
  · rintro H' ⟨xs, f1, f2, f3, f4, f5⟩
    exact hd H' xs f2 f3 f1 f4 f5
end XT

/-! the draws of the family «take» -/
namespace XT
open PySem PySem.Spec PyProof.Rows L2
/-- the state of the draws at st, its cells at c -/
def StAt (st c : Addr) (ns : List Int) (H : Hp) : Prop := ∃ (a i k sd n : Int),
  H st = some (.lst [.int a, .int i, .int k, .int sd, .ref c, .int n]) ∧ H c = some (.lst (ns.map V.int)) ∧ 0 ≤ i ∧ i ≤ ns.length ∧ c ≠ st
theorem drw (st c : Addr) (ns : List Int) : Drw st (StAt st c ns) where
  lst := fun H ⟨a, i, k, sd, n, e, _⟩ => ⟨_, e⟩
  fresh := fun H D ⟨a, i, k, sd, n, e1, e2, _⟩ hD => ⟨(ne_of_none e1 hD).symm, fun H' o ⟨a', i', k', sd', n', f1, f2, r⟩ =>
    ⟨a', i', k', sd', n', by rw [upd_ne (ne_of_none e1 hD)]; exact f1, by rw [upd_ne (ne_of_none e2 hD)]; exact f2, r⟩⟩
/-! texts of one sign -/
def One (v : V) : Prop := ∃ c : Nat, v = .str ⟨#[c]⟩
theorem one_len (c : Nat) : (⟨#[c]⟩ : Str).length = 1 := rfl
theorem ones_strs : ∀ {xs : List V}, (∀ v ∈ xs, One v) → ∃ ys : List Str, xs = ys.map V.str ∧ ∀ y ∈ ys, y.length ≤ 1
  | [], _ => ⟨[], rfl, by simp⟩
  | x :: xs, h => by
    obtain ⟨c, rfl⟩ := h x List.mem_cons_self
    obtain ⟨ys, rfl, h2⟩ := ones_strs fun v hv => h v (List.mem_cons_of_mem _ hv)
    refine ⟨⟨#[c]⟩ :: ys, rfl, fun y hy => ?_⟩
    rcases List.mem_cons.mp hy with rfl | hy
    · exact Nat.le_refl 1
    · exact h2 y hy
theorem ones_signs (z : Str) : ∀ v ∈ signsV z, One v := fun v hv => by
  obtain ⟨c, _, rfl⟩ := List.mem_map.mp hv
  exact ⟨c, rfl⟩
theorem empty_eq : (Str.ofString "") = Str.empty := by decide
theorem word_len {ys : List Str} {n : Nat} (hn : ys.length ≤ n) (h : ∀ y ∈ ys, y.length ≤ 1) : (Txt.join Str.empty ys).length ≤ n := by
  rw [join_len]
  have z := sum_le (l := ys.map (·.length)) (c := 1) fun x hx => by
    obtain ⟨y, hy, rfl⟩ := List.mem_map.mp hx
    exact h y hy
  rw [List.length_map] at z
  omega
theorem word_sum {ys : List Str} {n : Nat} (hn : ys.length ≤ n) (h : ∀ y ∈ ys, y.length ≤ 1) (h2 : n ≤ 1000) : (ys.map (·.length)).sum + ys.length * (Str.empty).length ≤ 16777216 := by
  have z := sum_le (l := ys.map (·.length)) (c := 1) fun x hx => by
    obtain ⟨y, hy, rfl⟩ := List.mem_map.mp hx
    exact h y hy
  rw [List.length_map] at z
  have e : (Str.empty).length = 0 := rfl
  rw [e]
  omega
/-- numbers of a list below a bound -/
def Nums (B : Nat) (v : V) : Prop := ∃ x : Nat, v = .int (x : Int) ∧ x < B
theorem nums_ints : ∀ {B : Nat} {xs : List V}, (∀ v ∈ xs, Nums B v) → ∃ l : List Nat, xs = intsV l ∧ ∀ x ∈ l, x < B
  | _, [], _ => ⟨[], rfl, by simp⟩
  | B, x :: xs, h => by
    obtain ⟨n, rfl, hn⟩ := h x List.mem_cons_self
    obtain ⟨l, rfl, h2⟩ := nums_ints (B := B) fun v hv => h v (List.mem_cons_of_mem _ hv)
    refine ⟨n :: l, rfl, fun y hy => ?_⟩
    rcases List.mem_cons.mp hy with rfl | hy
    · exact hn
    · exact h2 y hy
theorem seqIx {d : Int} {n : Nat} (h0 : 0 ≤ d) (h1 : d < (n : Int)) : seqIndex? d n = some d.toNat := by
  unfold seqIndex?
  simp
  omega
end XT

/-! rows of slots: the mathematics of row_atoms -/
namespace XT
open PySem PySem.Spec PyProof.Rows L2
/-- the slots of a sort -/
def slotsOf (sorts : List Nat) (p : Nat) : List Nat := (List.range sorts.length).filter fun i => sorts.getD i 0 == p
def extend (sorts : List Nat) (p : Nat) (r : List Nat) : List (List Nat) := (slotsOf sorts p).map fun s => r ++ [s]
def rowsOf (sorts places : List Nat) : List (List Nat) := places.foldl (fun rs p => rs.flatMap (extend sorts p)) [[]]
def atomsFrom (sorts : List Nat) : Nat → List (Str × List Nat) → List (Nat × List Nat)
  | _, [] => []
  | i, r :: rs => (rowsOf sorts r.2).map (fun w => (i, w)) ++ atomsFrom sorts (i + 1) rs
def atomsOf (L : Lg) (sorts : List Nat) : List (Nat × List Nat) := atomsFrom sorts 0 L.rels
def natsD (l : List Nat) : PyData := .tuple (l.map fun n : Nat => PyData.int (n : Int))
def atomD (a : Nat × List Nat) : PyData := .tuple [.int (a.1 : Int), natsD a.2]
def atomsD (l : List (Nat × List Nat)) : PyData := .tuple (l.map atomD)

theorem flat_len {α β : Type} {f : α → List β} {c : Nat} : ∀ (l : List α), (∀ a ∈ l, (f a).length ≤ c) → (l.flatMap f).length ≤ l.length * c
  | [], _ => by simp
  | a :: l, h => by
    have h1 := h a List.mem_cons_self
    have h2 := flat_len l fun x hx => h x (List.mem_cons_of_mem _ hx)
    rw [List.flatMap_cons, List.length_append, List.length_cons, Nat.succ_mul]
    omega
theorem slots_len (sorts : List Nat) (p : Nat) : (slotsOf sorts p).length ≤ sorts.length := by
  have := List.length_filter_le (fun i => sorts.getD i 0 == p) (List.range sorts.length)
  rwa [List.length_range] at this
theorem extend_len (sorts : List Nat) (p : Nat) (r : List Nat) : (extend sorts p r).length ≤ sorts.length := by
  unfold extend
  rw [List.length_map]
  exact slots_len sorts p
theorem rows_snoc (sorts places : List Nat) (p : Nat) : rowsOf sorts (places ++ [p]) = (rowsOf sorts places).flatMap (extend sorts p) := by
  unfold rowsOf
  rw [List.foldl_append]
  rfl
theorem rows_take (sorts places : List Nat) (k p : Nat) (h : places[k]? = some p) : rowsOf sorts (places.take (k + 1)) = (rowsOf sorts (places.take k)).flatMap (extend sorts p) := by
  rw [List.take_add_one, h]
  exact rows_snoc sorts _ p
theorem rows_bound {sorts : List Nat} (hs : sorts.length ≤ 4) : ∀ (n : Nat) (places : List Nat), places.length ≤ n → n ≤ 4 → (rowsOf sorts places).length ≤ 4 ^ n := by
  intro n
  induction n with
  | zero =>
    intro places h _
    have e : places = [] := List.length_eq_zero_iff.mp (by omega)
    subst e
    exact Nat.le_refl 1
  | succ n ih =>
    intro places h hn
    rcases List.eq_nil_or_concat places with e | ⟨q, p, e⟩
    · subst e
      exact Nat.one_le_pow _ _ (by decide)
    · subst e
      rw [List.concat_eq_append] at h ⊢
      rw [rows_snoc]
      have h1 := ih q (by simp at h; omega) (by omega)
      have h2 := flat_len (f := extend sorts p) (c := 4) (rowsOf sorts q) fun a _ => Nat.le_trans (extend_len sorts p a) hs
      rw [Nat.pow_succ]
      omega
/-- strictly ahead, place by place -/
def Lx (r t : List Nat) : Prop := ∃ (pre : List Nat) (a b : Nat) (u v : List Nat), r = pre ++ a :: u ∧ t = pre ++ b :: v ∧ a < b
theorem Lx.more {r t : List Nat} (h : Lx r t) (x y : List Nat) : Lx (r ++ x) (t ++ y) := by
  obtain ⟨pre, a, b, u, v, rfl, rfl, hab⟩ := h
  exact ⟨pre, a, b, u ++ x, v ++ y, by simp, by simp, hab⟩
theorem extend_up (sorts : List Nat) (p : Nat) (r : List Nat) : (extend sorts p r).Pairwise Lx := by
  unfold extend
  rw [List.pairwise_map]
  refine List.Pairwise.imp ?_ (List.Pairwise.filter _ List.pairwise_lt_range)
  intro a b hab
  exact ⟨r, a, b, [], [], rfl, rfl, hab⟩
theorem rev_ind {α : Type} {P : List α → Prop} (h0 : P []) (h1 : ∀ l a, P l → P (l ++ [a])) : ∀ l, P l := by
  intro l
  generalize hn : l.length = n
  induction n generalizing l with
  | zero =>
    rw [List.length_eq_zero_iff.mp hn]
    exact h0
  | succ n ih =>
    rcases List.eq_nil_or_concat l with e | ⟨q, a, e⟩
    · rw [e] at hn
      cases hn
    · subst e
      rw [List.concat_eq_append] at hn ⊢
      exact h1 q a (ih q (by simpa using hn))
theorem rows_up (sorts : List Nat) : ∀ places : List Nat, (rowsOf sorts places).Pairwise Lx := by
  refine rev_ind (List.pairwise_singleton _ _) fun q p ih => ?_
  rw [rows_snoc, List.pairwise_flatMap]
  refine ⟨fun a _ => extend_up sorts p a, ih.imp ?_⟩
  intro a b hab x hx y hy
  obtain ⟨s, _, rfl⟩ := List.mem_map.mp hx
  obtain ⟨t, _, rfl⟩ := List.mem_map.mp hy
  exact hab.more _ _
theorem mem_slots {sorts : List Nat} {p i : Nat} (h : i ∈ slotsOf sorts p) : i < sorts.length ∧ sorts[i]? = some p := by
  obtain ⟨h1, h2⟩ := List.mem_filter.mp h
  have hi := List.mem_range.mp h1
  refine ⟨hi, ?_⟩
  have h3 : sorts.getD i 0 = p := by simpa using h2
  rw [List.getD_eq_getElem?_getD] at h3
  rw [List.getElem?_eq_getElem hi] at h3 ⊢
  exact congrArg some h3
theorem rows_ok (sorts : List Nat) : ∀ places : List Nat, ∀ r ∈ rowsOf sorts places, r.length = places.length ∧ ∀ (k s : Nat), r[k]? = some s → s < sorts.length ∧ sorts[s]? = places[k]? := by
  refine rev_ind ?_ fun q p ih => ?_
  · intro r hr
    rw [List.mem_singleton.mp hr]
    exact ⟨rfl, fun k s h => by simp at h⟩
  · intro r hr
    rw [rows_snoc] at hr
    obtain ⟨w, hw, hr⟩ := List.mem_flatMap.mp hr
    obtain ⟨t, ht, rfl⟩ := List.mem_map.mp hr
    obtain ⟨l, hk⟩ := ih w hw
    refine ⟨by simp [l], fun k s h => ?_⟩
    rcases Nat.lt_or_ge k w.length with hlt | hge
    · rw [List.getElem?_append_left hlt] at h
      rw [List.getElem?_append_left (by omega)]
      exact hk k s h
    · rw [List.getElem?_append_right hge] at h
      have e : k - w.length = 0 := by
        rcases Nat.eq_zero_or_pos (k - w.length) with e | e
        · exact e
        · rw [List.getElem?_eq_none (by simp; omega)] at h
          cases h
      rw [e] at h
      cases (show some _ = some _ from h)
      have e2 : k = q.length := by omega
      subst e2
      obtain ⟨z1, z2⟩ := mem_slots ht
      refine ⟨z1, ?_⟩
      rw [z2, List.getElem?_append_right (Nat.le_refl _), Nat.sub_self]
      rfl
def cnt (sorts : List Nat) (p : Nat) : Nat := (sorts.filter fun x => x == p).length
theorem slots_cnt (sorts : List Nat) (p : Nat) : (slotsOf sorts p).length = cnt sorts p := by
  have e : sorts = (List.range sorts.length).map fun i => sorts.getD i 0 := by
    refine List.ext_getElem (by simp) fun i h1 h2 => ?_
    simp [List.getD_eq_getElem?_getD, h1]
  unfold slotsOf cnt
  conv => rhs; rw [e]
  rw [List.filter_map, List.length_map]
  rfl
def prod (sorts places : List Nat) : Nat := places.foldl (fun n p => n * cnt sorts p) 1
theorem prod_snoc (sorts q : List Nat) (p : Nat) : prod sorts (q ++ [p]) = prod sorts q * cnt sorts p := by
  unfold prod
  rw [List.foldl_append]
  rfl
theorem flat_len_eq {α β : Type} {f : α → List β} {c : Nat} : ∀ (l : List α), (∀ a ∈ l, (f a).length = c) → (l.flatMap f).length = l.length * c
  | [], _ => by simp
  | a :: l, h => by
    have h1 := h a List.mem_cons_self
    have h2 := flat_len_eq l fun x hx => h x (List.mem_cons_of_mem _ hx)
    rw [List.flatMap_cons, List.length_append, List.length_cons, Nat.succ_mul]
    omega
theorem rows_count (sorts : List Nat) : ∀ places : List Nat, (rowsOf sorts places).length = prod sorts places := by
  refine rev_ind rfl fun q p ih => ?_
  rw [rows_snoc, prod_snoc, ← ih]
  exact flat_len_eq _ fun a _ => by
    unfold extend
    rw [List.length_map, slots_cnt]
def total (sorts : List Nat) (rels : List (Str × List Nat)) : Nat := (rels.map fun r => prod sorts r.2).sum
theorem atoms_count (sorts : List Nat) : ∀ (rels : List (Str × List Nat)) (i : Nat), (atomsFrom sorts i rels).length = total sorts rels
  | [], _ => rfl
  | r :: rs, i => by
    unfold atomsFrom
    rw [List.length_append, List.length_map, rows_count, atoms_count sorts rs (i + 1)]
    simp [total]
/-- an atom of the language over the sorts -/
def AtomOk (rels : List (Str × List Nat)) (sorts : List Nat) (a : Nat × List Nat) : Prop := ∃ r, rels[a.1]? = some r ∧ a.2.length = r.2.length ∧ ∀ (k s : Nat), a.2[k]? = some s → s < sorts.length ∧ sorts[s]? = r.2[k]?
theorem atoms_ok (sorts : List Nat) : ∀ (rels : List (Str × List Nat)) (pre : List (Str × List Nat)), ∀ a ∈ atomsFrom sorts pre.length rels, AtomOk (pre ++ rels) sorts a ∧ pre.length ≤ a.1
  | [], _, a, h => by cases h
  | r :: rs, pre, a, h => by
    unfold atomsFrom at h
    rcases List.mem_append.mp h with h | h
    · obtain ⟨w, hw, rfl⟩ := List.mem_map.mp h
      obtain ⟨h1, h2⟩ := rows_ok sorts r.2 w hw
      exact ⟨⟨r, by simp, h1, h2⟩, Nat.le_refl _⟩
    · have e : pre.length + 1 = (pre ++ [r]).length := by simp
      rw [e] at h
      obtain ⟨z1, z2⟩ := atoms_ok sorts rs (pre ++ [r]) a h
      refine ⟨by simpa using z1, by simp at z2; omega⟩
/-- strictly ahead -/
def Ahead (a b : Nat × List Nat) : Prop := a.1 < b.1 ∨ (a.1 = b.1 ∧ Lx a.2 b.2)
theorem atoms_up (sorts : List Nat) : ∀ (rels : List (Str × List Nat)) (i : Nat), (atomsFrom sorts i rels).Pairwise Ahead ∧ ∀ a ∈ atomsFrom sorts i rels, i ≤ a.1
  | [], _ => ⟨List.Pairwise.nil, fun _ h => by cases h⟩
  | r :: rs, i => by
    obtain ⟨h1, h2⟩ := atoms_up sorts rs (i + 1)
    unfold atomsFrom
    refine ⟨?_, fun a ha => ?_⟩
    · rw [List.pairwise_append]
      refine ⟨?_, h1, fun a ha b hb => ?_⟩
      · rw [List.pairwise_map]
        exact (rows_up sorts r.2).imp fun h => .inr ⟨rfl, h⟩
      · obtain ⟨w, _, rfl⟩ := List.mem_map.mp ha
        exact .inl (h2 b hb)
    · rcases List.mem_append.mp ha with ha | ha
      · obtain ⟨w, _, rfl⟩ := List.mem_map.mp ha
        exact Nat.le_refl i
      · have := h2 a ha
        omega
/-! their order as data -/
open PySem.W in
theorem toks_app : ∀ (u v : List PyData), ∃ p, ∀ z : List PyData, keyToksAll (u ++ z) = p ++ keyToksAll z := by
  intro u _
  induction u with
  | nil => exact ⟨[], fun z => rfl⟩
  | cons a u ih =>
    obtain ⟨p, hp⟩ := ih
    refine ⟨Sum.inl 1 :: (keyToks a ++ p), fun z => ?_⟩
    show keyToksAll (a :: (u ++ z)) = _
    rw [toks_all_cons, hp]
    simp
open PySem.W in
theorem lt_ints {a b : Nat} (h : a < b) (pre u v x y : List (Int ⊕ List Nat)) : PyProof.Rows.lexLt itemOrd (pre ++ (Sum.inl 1 :: ([Sum.inl (a : Int)] ++ u))) (pre ++ (Sum.inl 1 :: ([Sum.inl (b : Int)] ++ v))) = true := by
  rw [lex_pre]
  have e := lex_pre [Sum.inl 1] (Sum.inl (a : Int) :: u) (Sum.inl (b : Int) :: v)
  have ne : (Sum.inl (a : Int) : Int ⊕ List Nat) ≠ Sum.inl (b : Int) := fun z => by
    have z2 := Sum.inl.inj z
    omega
  have e2 := lex_atom ne u v
  have e3 := dataLt_int (a : Int) (b : Int)
  unfold dataLt at e3
  simp only [keyToks] at e3
  show PyProof.Rows.lexLt itemOrd ([Sum.inl 1] ++ (Sum.inl (a : Int) :: u)) ([Sum.inl 1] ++ (Sum.inl (b : Int) :: v)) = true
  rw [e, e2, e3]
  exact decide_eq_true (by omega)
theorem alike_nats : ∀ (l m : List Nat), PySem.W.alikeAll (l.map fun n : Nat => PyData.int (n : Int)) (m.map fun n : Nat => PyData.int (n : Int)) = true
  | [], _ => by simp [PySem.W.alikeAll]
  | _ :: _, [] => by simp [PySem.W.alikeAll]
  | a :: l, b :: m => by
    simp only [List.map_cons, PySem.W.alikeAll, PySem.W.alike, alike_nats l m, Bool.and_self]
theorem alike_atoms (a b : Nat × List Nat) : PySem.W.alike (atomD a) (atomD b) = true := by
  simp [atomD, natsD, PySem.W.alike, PySem.W.alikeAll, alike_nats]
open PySem.W in
theorem atom_toks (a : Nat × List Nat) : keyToks (atomD a) = Sum.inl 1 :: ([Sum.inl (a.1 : Int)] ++ (Sum.inl 1 :: (keyToksAll (a.2.map fun n : Nat => PyData.int (n : Int)) ++ [Sum.inl 0]))) := by
  simp [atomD, natsD, keyToks, keyToksAll]
open PySem.W in
theorem ahead_lt {a b : Nat × List Nat} (h : Ahead a b) : dataLt (atomD a) (atomD b) = true := by
  unfold dataLt
  rw [atom_toks, atom_toks]
  rcases h with h | ⟨h1, pre, x, y, u, v, e1, e2, hxy⟩
  · exact lt_ints h [] _ _ [] []
  · obtain ⟨p, hp⟩ := toks_app (pre.map fun n : Nat => PyData.int (n : Int)) []
    have f1 : keyToksAll (a.2.map fun n : Nat => PyData.int (n : Int)) = p ++ (Sum.inl 1 :: ([Sum.inl (x : Int)] ++ keyToksAll (u.map fun n : Nat => PyData.int (n : Int)))) := by
      rw [e1, List.map_append, hp, List.map_cons, toks_all_cons]
      simp [keyToks]
    have f2 : keyToksAll (b.2.map fun n : Nat => PyData.int (n : Int)) = p ++ (Sum.inl 1 :: ([Sum.inl (y : Int)] ++ keyToksAll (v.map fun n : Nat => PyData.int (n : Int)))) := by
      rw [e2, List.map_append, hp, List.map_cons, toks_all_cons]
      simp [keyToks]
    rw [f1, f2, h1]
    have z := lt_ints hxy (Sum.inl 1 :: Sum.inl (b.1 : Int) :: Sum.inl 1 :: p) (keyToksAll (u.map fun n : Nat => PyData.int (n : Int)) ++ [Sum.inl 0]) (keyToksAll (v.map fun n : Nat => PyData.int (n : Int)) ++ [Sum.inl 0]) [] []
    simpa using z
theorem depth_nats : ∀ l : List Nat, PyData.depthAll (l.map fun n : Nat => PyData.int (n : Int)) ≤ 1
  | [] => by simp [PyData.depthAll]
  | a :: l => by
    have := depth_nats l
    simp only [List.map_cons, PyData.depthAll, PyData.depth]
    omega
theorem depth_atom (a : Nat × List Nat) : (atomD a).depth ≤ 60 := by
  have := depth_nats a.2
  simp only [atomD, natsD, PyData.depth, PyData.depthAll]
  omega
theorem atoms_app (sorts : List Nat) : ∀ (u v : List (Str × List Nat)) (i : Nat), atomsFrom sorts i (u ++ v) = atomsFrom sorts i u ++ atomsFrom sorts (i + u.length) v
  | [], v, i => rfl
  | r :: u, v, i => by
    show _ ++ atomsFrom sorts (i + 1) (u ++ v) = (_ ++ atomsFrom sorts (i + 1) u) ++ _
    rw [atoms_app sorts u v (i + 1), List.append_assoc]
    have e : i + 1 + u.length = i + (r :: u).length := by simp; omega
    rw [e]
theorem atoms_take (sorts : List Nat) (rels : List (Str × List Nat)) (i : Nat) (r : Str × List Nat) (h : rels[i]? = some r) :
    atomsFrom sorts 0 (rels.take (i + 1)) = atomsFrom sorts 0 (rels.take i) ++ (rowsOf sorts r.2).map fun w => (i, w) := by
  have hi : i < rels.length := (List.getElem?_eq_some_iff.mp h).1
  rw [List.take_add_one, h, Option.toList_some, atoms_app]
  have e : 0 + (rels.take i).length = i := by simp; omega
  rw [e]
  unfold atomsFrom
  simp [atomsFrom]
/-! their places in the heap -/
def RowsAt (K : PySem.W.Frag) (H : Hp) (as : List Addr) (rs : List (List Nat)) : Prop := as.length = rs.length ∧ ∀ (j : Nat) (a : Addr) (r : List Nat), as[j]? = some a → rs[j]? = some r → SqT K H a (intsV r)
def AtomsAt (K : PySem.W.Frag) (H : Hp) (as : List Addr) (l : List (Nat × List Nat)) : Prop := as.length = l.length ∧ ∀ (j : Nat) (a : Addr) (x : Nat × List Nat), as[j]? = some a → l[j]? = some x → ∃ b, SqT K H a [.int (x.1 : Int), .ref b] ∧ SqT K H b (intsV x.2)
theorem snoc_get {α β : Type} {as : List α} {l : List β} (hl : as.length = l.length) {a : α} {x : β} {R : α → β → Prop} (h : ∀ (j : Nat) (c : α) (y : β), as[j]? = some c → l[j]? = some y → R c y) (hx : R a x) :
    ∀ (j : Nat) (c : α) (y : β), (as ++ [a])[j]? = some c → (l ++ [x])[j]? = some y → R c y := by
  intro j c y h1 h2
  rcases Nat.lt_or_ge j as.length with hj | hj
  · rw [List.getElem?_append_left hj] at h1
    rw [List.getElem?_append_left (by omega)] at h2
    exact h j c y h1 h2
  · rw [List.getElem?_append_right hj] at h1
    rw [List.getElem?_append_right (by omega)] at h2
    have e : j - as.length = 0 := by
      rcases Nat.eq_zero_or_pos (j - as.length) with e | e
      · exact e
      · rw [List.getElem?_eq_none (by simp; omega)] at h1
        cases h1
    have e2 : j - l.length = 0 := by omega
    rw [e] at h1
    rw [e2] at h2
    cases (show some _ = some _ from h1)
    cases (show some _ = some _ from h2)
    exact hx
theorem RowsAt.tups {K : PySem.W.Frag} {H H' : Hp} {as : List Addr} {rs : List (List Nat)} (t : Tups H H') (h : RowsAt K H as rs) : RowsAt K H' as rs := ⟨h.1, fun j a r h1 h2 => t _ _ _ (h.2 j a r h1 h2)⟩
theorem RowsAt.snoc {K : PySem.W.Frag} {H : Hp} {as : List Addr} {rs : List (List Nat)} {a : Addr} {r : List Nat} (h : RowsAt K H as rs) (hx : SqT K H a (intsV r)) : RowsAt K H (as ++ [a]) (rs ++ [r]) :=
  ⟨by simp [h.1], snoc_get h.1 h.2 hx⟩
theorem AtomsAt.tups {K : PySem.W.Frag} {H H' : Hp} {as : List Addr} {l : List (Nat × List Nat)} (t : Tups H H') (h : AtomsAt K H as l) : AtomsAt K H' as l :=
  ⟨h.1, fun j a r h1 h2 => let ⟨b, z1, z2⟩ := h.2 j a r h1 h2; ⟨b, t _ _ _ z1, t _ _ _ z2⟩⟩
theorem AtomsAt.snoc {K : PySem.W.Frag} {H : Hp} {as : List Addr} {l : List (Nat × List Nat)} {a : Addr} {x : Nat × List Nat} (h : AtomsAt K H as l) (hx : ∃ b, SqT K H a [.int (x.1 : Int), .ref b] ∧ SqT K H b (intsV x.2)) : AtomsAt K H (as ++ [a]) (l ++ [x]) :=
  ⟨by simp [h.1], snoc_get (R := fun a x => ∃ b, SqT K H a [.int (x.1 : Int), .ref b] ∧ SqT K H b (intsV x.2)) h.1 h.2 hx⟩
theorem AtomsAt.append {K : PySem.W.Frag} {H : Hp} {as bs : List Addr} {l m : List (Nat × List Nat)} (h : AtomsAt K H as l) (h2 : AtomsAt K H bs m) : AtomsAt K H (as ++ bs) (l ++ m) := by
  refine ⟨by simp [h.1, h2.1], fun j a x e1 e2 => ?_⟩
  rcases Nat.lt_or_ge j as.length with hj | hj
  · rw [List.getElem?_append_left hj] at e1
    rw [List.getElem?_append_left (by have := h.1; omega)] at e2
    exact h.2 j a x e1 e2
  · rw [List.getElem?_append_right hj] at e1
    rw [List.getElem?_append_right (by have := h.1; omega)] at e2
    rw [h.1] at e1
    exact h2.2 _ a x e1 e2
theorem nats_dp {K : PySem.W.Frag} {H : Hp} {a : Addr} {l : List Nat} (h : SqT K H a (intsV l)) : Dp K H (.ref a) (natsD l) := by
  refine .tup h ?_
  have e1 : intsV l = (l.map fun n : Nat => (n : Int)).map V.int := by simp [intsV]
  have e2 : (l.map fun n : Nat => PyData.int (n : Int)) = (l.map fun n : Nat => (n : Int)).map PyData.int := by simp
  rw [e1, e2]
  exact DpAll.ints _
theorem okD_nats (l : List Nat) (h : l.length ≤ 100000) (n : Nat) : okD (n + 2) (natsD l) := by
  refine ⟨by rw [List.length_map]; exact h, fun d hd => ?_⟩
  obtain ⟨x, _, rfl⟩ := List.mem_map.mp hd
  trivial
theorem okD_atom (a : Nat × List Nat) (h : a.2.length ≤ 100000) (n : Nat) : okD (n + 3) (atomD a) := by
  refine ⟨show 2 ≤ 100000 by decide, fun d hd => ?_⟩
  rcases List.mem_cons.mp hd with rfl | hd
  · trivial
  · rw [List.mem_singleton.mp hd]
    exact okD_nats a.2 h n
theorem atom_dp {K : PySem.W.Frag} {H : Hp} {a b : Addr} {x : Nat × List Nat} (h1 : SqT K H a [.int (x.1 : Int), .ref b]) (h2 : SqT K H b (intsV x.2)) : Dp K H (.ref a) (atomD x) :=
  .tup h1 (.cons (.int _) (.cons (nats_dp h2) .nil))
theorem atoms_dp {K : PySem.W.Frag} {H : Hp} {p : Addr} {as : List Addr} {l : List (Nat × List Nat)} (h : SqT K H p (as.map V.ref)) (ha : AtomsAt K H as l) : Dp K H (.ref p) (atomsD l) := by
  refine .tup h (DpAll.of_get (by simp [ha.1]) fun i v d h1 h2 => ?_)
  rw [List.getElem?_map] at h1 h2
  obtain ⟨a, e1, rfl⟩ := Option.map_eq_some_iff.mp h1
  obtain ⟨x, e2, rfl⟩ := Option.map_eq_some_iff.mp h2
  obtain ⟨b, z1, z2⟩ := ha.2 i a x e1 e2
  exact atom_dp z1 z2
theorem atoms_bound {sorts : List Nat} (hs : sorts.length ≤ 4) : ∀ (rels : List (Str × List Nat)) (i : Nat), (∀ r ∈ rels, r.2.length ≤ 4) → (atomsFrom sorts i rels).length ≤ rels.length * 256
  | [], _, _ => Nat.zero_le _
  | r :: rs, i, h => by
    unfold atomsFrom
    have h1 := rows_bound hs 4 r.2 (h r List.mem_cons_self) (Nat.le_refl 4)
    have h2 := atoms_bound hs rs (i + 1) fun x hx => h x (List.mem_cons_of_mem _ hx)
    rw [List.length_append, List.length_map, List.length_cons, Nat.succ_mul]
    have h3 : (4 : Nat) ^ 4 = 256 := by decide
    omega
theorem okD_atoms {L : Lg} {sorts : List Nat} (hL : LgOk L) (hs : sorts.length ≤ 4) (n : Nat) : okD (n + 4) (atomsD (atomsOf L sorts)) := by
  have h1 := atoms_bound hs L.rels 0 fun r hr => (hL.pl r hr).2.1
  have h2 := hL.few
  refine ⟨by rw [List.length_map]; unfold atomsOf; omega, fun d hd => ?_⟩
  obtain ⟨x, hx, rfl⟩ := List.mem_map.mp hd
  obtain ⟨⟨r, hr, hl, _⟩, _⟩ := atoms_ok sorts L.rels [] x hx
  have h3 := (hL.pl r (List.mem_of_getElem? hr)).2.1
  exact okD_atom x (by omega) n
end XT

namespace K16
open PySem PySem.Spec PyProof.Rows L2 XT
def topS (i : Nat) : Stmt := PySem.Challenge.pw_bagkinds_k16_row_atoms.main.body.getD i (.Pass ⟨0, 0, 0, 0⟩)
abbrev s_row_atoms : Stmt := topS 1
theorem sc_row_atoms : FnScope ["language", "sorts", "_", "found", "place", "places", "relation", "rows", "row", "slot", "sort"] ["language", "sorts"] (defScope s_row_atoms) :=
  ⟨rfl, rfl, rfl, by decide +kernel, rfl, by decide +kernel, by decide +kernel⟩
abbrev s__law_mixed : Stmt := topS 3
theorem sc__law_mixed : FnScope ["number", "k", "again", "once"] ["number", "k"] (defScope s__law_mixed) :=
  ⟨rfl, rfl, rfl, by decide +kernel, rfl, by decide +kernel, by decide +kernel⟩
abbrev s__law_start : Stmt := topS 4
theorem sc__law_start : FnScope ["script", "cell", "seed"] ["script"] (defScope s__law_start) :=
  ⟨rfl, rfl, rfl, by decide +kernel, rfl, by decide +kernel, by decide +kernel⟩
abbrev s__law_take : Stmt := topS 5
theorem sc__law_take : FnScope ["state", "limit", "cell", "cells", "digit"] ["state", "limit"] (defScope s__law_take) :=
  ⟨rfl, rfl, rfl, by decide +kernel, rfl, by decide +kernel, by decide +kernel⟩
abbrev s__law_same : Stmt := topS 6
theorem sc__law_same : FnScope ["actual", "due", "k"] ["actual", "due"] (defScope s__law_same) :=
  ⟨rfl, rfl, rfl, by decide +kernel, rfl, by decide +kernel, by decide +kernel⟩
abbrev s__law_language : Stmt := topS 7
theorem sc__law_language : FnScope ["state", "many", "ahead", "behind", "k", "letters", "places", "pool", "rows", "sorts", "j"] ["state", "many"] (defScope s__law_language) :=
  ⟨rfl, rfl, rfl, by decide +kernel, rfl, by decide +kernel, by decide +kernel⟩
abbrev s__law_many : Stmt := topS 8
theorem sc__law_many : FnScope ["language", "sorts", "name", "place", "places", "size", "total", "sort"] ["language", "sorts"] (defScope s__law_many) :=
  ⟨rfl, rfl, rfl, by decide +kernel, rfl, by decide +kernel, by decide +kernel⟩
abbrev s__law_is_number : Stmt := topS 9
theorem sc__law_is_number : FnScope ["value", "limit"] ["value", "limit"] (defScope s__law_is_number) :=
  ⟨rfl, rfl, rfl, by decide +kernel, rfl, by decide +kernel, by decide +kernel⟩
abbrev s__law_is_atom : Stmt := topS 10
theorem sc__law_is_atom : FnScope ["language", "sorts", "one", "k", "places"] ["language", "sorts", "one"] (defScope s__law_is_atom) :=
  ⟨rfl, rfl, rfl, by decide +kernel, rfl, by decide +kernel, by decide +kernel⟩
abbrev s__law_is_told : Stmt := topS 11
theorem sc__law_is_told : FnScope ["language", "sorts", "told", "k"] ["language", "sorts", "told"] (defScope s__law_is_told) :=
  ⟨rfl, rfl, rfl, by decide +kernel, rfl, by decide +kernel, by decide +kernel⟩
abbrev s_law : Stmt := topS 12
theorem sc_law : FnScope ["script", "again", "asked", "kept", "language", "sorts", "state", "told", "turn", "k", "one"] ["script"] (defScope s_law) :=
  ⟨rfl, rfl, rfl, by decide +kernel, rfl, by decide +kernel, by decide +kernel⟩
section
variable {P : Program} {w : World} {K : PySem.W.Frag} {mg : Str → Option Value} {base : Heap} {f : Addr} {fd : FuncData}
theorem pos1 : (0 : Int) < 2147483647 := by decide
theorem pos2 : (0 : Int) < 2147483629 := by decide
theorem pos3 : (0 : Int) < 2147483587 := by decide
def sp__law_mixed (K : PySem.W.Frag) : Sp := fun vs H Q _ => ∃ n k : Int, vs = [.int n, .int k] ∧ ∀ d : Int, Q (.int d) H
theorem ok__law_mixed (F : Fun K "_law_mixed" "_law_mixed" s__law_mixed f fd) (m_int : mg "int" = none) : FnOk P w K mg base CX0 1 f fd ["number", "k"] (sp__law_mixed K) := by
  refine F.ok sc__law_mixed (fun vs H Q E h => ?_) (fun cdv A outer s H vs Q E hr h => ?_)
  · obtain ⟨n, k, rfl, _⟩ := h
    rfl
  obtain ⟨n, k, rfl, q⟩ := h
  refine ⟨_, (pss_cons (ps_set (i := 3) sc__law_mixed.nd rfl (.inl rfl) (pe_op op_mod (pe_callTy call_int1 (by rfl) m_int (by decide +kernel) (pa_cons (pe_op op_add (pe_op op_add (pe_op op_mul (pv 0) pe_int) (pe_op op_mul (pv 1) pe_int)) pe_int) pa_nil)) pe_int))
  (pss_cons (ps_set (i := 2) sc__law_mixed.nd rfl (.inl rfl) (pe_op op_mod (pe_callTy call_int1 (by rfl) m_int (by decide +kernel) (pa_cons (pe_op op_add (pe_op op_add (pe_op op_mul (pv 3) (pe_op op_add (pe_op op_add (pv 3) (pe_op op_mul pe_int (pv 1))) pe_int)) (pe_op op_mul (pv 1) pe_int)) pe_int) pa_nil)) pe_int))
  (pss_one (ps_ret (pe_op op_mod (pe_callTy call_int1 (by rfl) m_int (by decide +kernel) (pa_cons (pe_op op_add (pe_op op_mul (pv 2) pe_int) (pv 3)) pa_nil)) pe_int))))), ?_⟩
  refine ⟨_, rfl, _, _, rfl, rfl, .inr ⟨by decide, by decide⟩, _, rfl, _, _, rfl, rfl, .inr ⟨by decide, by decide⟩, _, _, rfl, rfl, _, _, rfl, rfl, .inl ⟨_, rfl, _, _, rfl, rfl, pos1, ?_⟩⟩
  refine ⟨_, rfl, _, rfl, _, rfl, _, _, rfl, rfl, .inl ⟨by decide, by decide⟩, _, _, rfl, rfl, _, _, rfl, rfl, _, _, rfl, rfl, .inl ⟨by omega, by omega⟩, _, rfl, _, _, rfl, rfl, .inr ⟨by decide, by decide⟩,
    _, _, rfl, rfl, _, _, rfl, rfl, .inl ⟨_, rfl, _, _, rfl, rfl, pos2, ?_⟩⟩
  exact ⟨_, rfl, _, _, rfl, rfl, .inr ⟨by decide, by decide⟩, _, rfl, _, _, rfl, rfl, .inl ⟨_, rfl, _, _, rfl, rfl, pos3, q _⟩⟩

def sp__law_start (K : PySem.W.Frag) : Sp := fun vs H Q _ => ∃ (a : Addr) (ns : List Int), vs = [.ref a] ∧ SqL K H a (ns.map V.int) ∧ ns.length ≤ 63 ∧
  ∀ (st c : Addr) (H' : Hp), Same H H' → H st = none → H c = none → StAt st c ns H' → Q (.ref st) H'
theorem ok__law_start (F : Fun K "_law_start" "_law_start" s__law_start f fd) (C__law_mixed : Cal P w K mg base 1 "_law_mixed" s__law_mixed ["number", "k"] (sp__law_mixed K)) (m_len : mg "len" = none) (m_list : mg "list" = none) : FnOk P w K mg base CX0 2 f fd ["script"] (sp__law_start K) := by
  refine F.ok sc__law_start (fun vs H Q E h => ?_) (fun cdv A outer s H vs Q E hr h => ?_)
  · obtain ⟨a, ns, rfl, _⟩ := h
    rfl
  obtain ⟨a, ns, rfl, hS, h63, q⟩ := h
  refine ⟨_, (pss_cons (ps_set (i := 2) sc__law_start.nd rfl (.inl rfl) (pe_callB call_len_seq (by rfl) m_len (by decide +kernel) (pa_cons (pv 0) pa_nil)))
  (pss_cons (ps_for PassesOwn.never rfl (pi_list (pv 0)) (pg_name (i := 1) sc__law_start.nd rfl (.inl rfl))
  (pss_one (ps_set (i := 2) sc__law_start.nd rfl (.inl rfl) (pe_cal C__law_mixed hr (by first | decide | exact Nat.le_refl _) (by rfl) (pa_cons (pe_op op_add (pv 2) (pv 1)) (pa_cons pe_int pa_nil))))))
  (pss_one (ps_ret (pe_lst (pa_cons pe_int (pa_cons pe_int (pa_cons pe_int (pa_cons (pv 2) (pa_cons (pe_callTy call_list_of (by rfl) m_list (by decide +kernel) (pa_cons (pv 0) pa_nil)) (pa_cons pe_int pa_nil))))))))))), ?_⟩
  refine ⟨_, rfl, a, _, rfl, .inl hS, _, rfl, a, rfl, ⟨_, hS⟩, for_list (xs := ns.map V.int)
    (fun i σ H1 => (∃ (sd : Int) (y : Option V), σ = [some (.ref a), y, some (.int sd)]) ∧ H1 = H) ⟨⟨_, _, rfl⟩, rfl⟩ (fun i σ H1 _ h => by rw [h.2]; exact hS) ?_ ?_⟩
  · rintro i x σ H1 hx ⟨⟨sd, y, rfl⟩, rfl⟩
    rw [List.getElem?_map] at hx
    obtain ⟨n, hn, rfl⟩ := Option.map_eq_some_iff.mp hx
    refine ⟨_, rfl, _, rfl, _, _, rfl, rfl, _, _, rfl, fun d => ?_⟩
    exact ⟨⟨_, _, rfl⟩, rfl⟩
  · rintro σ H1 ⟨⟨sd, y, rfl⟩, rfl⟩
    refine ⟨_, rfl, _, rfl, a, _, rfl, .inl hS, fun c nc => ?_⟩
    refine ⟨show 6 ≤ sizeLine by decide, fun st nst => ?_⟩
    have ncs : c ≠ st := fun e => by rw [← e, upd_same] at nst; cases nst
    refine q st c _ (fun b o e => ?_) ?_ nc ⟨0, 0, 0, sd, 0, upd_same, ?_, by omega, by omega, ncs⟩
    · have e1 : b ≠ c := ne_of_none e nc
      have e2 : (upd H1 c (.lst (ns.map V.int))) b = some o := by rw [upd_ne e1]; exact e
      rw [upd_ne (ne_of_none e2 nst)]
      exact e2
    · rwa [upd_ne (Ne.symm ncs)] at nst
    · rw [upd_ne ncs, upd_same]

def sp__law_take (K : PySem.W.Frag) : Sp := fun vs H Q _ => ∃ (st c : Addr) (ns : List Int) (lim : Int), vs = [.ref st, .int lim] ∧ StAt st c ns H ∧ 0 < lim ∧ lim < 1073741824 ∧
  ∀ (d : Int) (H' : Hp), 0 ≤ d → d < lim → Kept st H H' → StAt st c ns H' → Q (.int d) H'
set_option maxHeartbeats 1000000 in
theorem ok__law_take (F : Fun K "_law_take" "_law_take" s__law_take f fd) (C__law_mixed : Cal P w K mg base 1 "_law_mixed" s__law_mixed ["number", "k"] (sp__law_mixed K)) (m_int : mg "int" = none) (m_len : mg "len" = none) (m_abs : mg "abs" = none) : FnOk P w K mg base CX0 2 f fd ["state", "limit"] (sp__law_take K) := by
  refine F.ok sc__law_take (fun vs H Q E h => ?_) (fun cdv A outer s H vs Q E hr h => ?_)
  · obtain ⟨a, c, ns, l, rfl, _⟩ := h
    rfl
  obtain ⟨st, c, ns, lim, rfl, ⟨a, i, k, sd, n, h1, h2, h3, h4, h5⟩, hl0, hl1, q⟩ := h
  obtain ⟨j, rfl⟩ := Int.eq_ofNat_of_zero_le h3
  have two : (0 : Int) < 2 := by decide
  refine ⟨_, (pss_cons (ps_set (i := 3) sc__law_take.nd rfl (.inl rfl) (pe_ix ix_list (pv 0) pe_int (fun _ _ => rfl)))
  (pss_cons (ps_asg (pe_op op_add (pe_ix ix_list (pv 0) pe_int (fun _ _ => rfl)) pe_int) (pg_sub (pv 0) pe_int set_list))
  (C8.pss_cut (ps_if (pt_cmpR op_eq (pe_ix ix_list (pv 0) pe_int (fun _ _ => rfl)) pe_int (nomark _))
  (pss_cons (ps_if (pt_cmpR op_eq (pe_ix ix_list (pv 0) pe_int (fun _ _ => rfl)) (pe_callB call_len_seq (by rfl) m_len (by decide +kernel) (pa_cons (pv 3) pa_nil)) (nomark _))
  (pss_one (ps_ret (pe_op op_mod (pe_cal C__law_mixed hr (by first | decide | exact Nat.le_refl _) (by rfl) (pa_cons (pe_ix ix_list (pv 0) pe_int (fun _ _ => rfl)) (pa_cons (pe_ix ix_list (pv 0) pe_int (fun _ _ => rfl)) pa_nil))) (pv 1)))) pss_nil)
  (pss_cons (ps_set (i := 2) sc__law_take.nd rfl (.inl rfl) (pe_ix ix_list (pv 3) (pe_ix ix_list (pv 0) pe_int (fun _ _ => rfl)) (fun _ _ => rfl)))
  (pss_cons (ps_asg (pe_op op_add (pe_ix ix_list (pv 0) pe_int (fun _ _ => rfl)) pe_int) (pg_sub (pv 0) pe_int set_list))
  (pss_cons (ps_if (pt_cmpR op_eq (pe_op op_mod (pe_callTy call_int1 (by rfl) m_int (by decide +kernel) (pa_cons (pv 2) pa_nil)) pe_int) pe_int (nomark _))
  (pss_one (ps_ret (pe_op op_mod (pe_cal C__law_mixed hr (by first | decide | exact Nat.le_refl _) (by rfl) (pa_cons (pv 2) (pa_cons (pe_ix ix_list (pv 0) pe_int (fun _ _ => rfl)) pa_nil))) (pv 1)))) pss_nil)
  (pss_cons (ps_asg (pe_op op_fdiv (pe_callB call_abs (by rfl) m_abs (by decide +kernel) (pa_cons (pv 2) pa_nil)) pe_int) (pg_sub (pv 0) pe_int set_list))
  (pss_one (ps_asg pe_int (pg_sub (pv 0) pe_int set_list)))))))) pss_nil)
  (pss_cons (ps_set (i := 4) sc__law_take.nd rfl (.inl rfl) (pe_op op_mod (pe_callTy call_int1 (by rfl) m_int (by decide +kernel) (pa_cons (pe_ix ix_list (pv 0) pe_int (fun _ _ => rfl)) pa_nil)) (pv 1)))
  (pss_cons (ps_asg (pe_op op_sub (pe_ix ix_list (pv 0) pe_int (fun _ _ => rfl)) pe_int) (pg_sub (pv 0) pe_int set_list))
  (pss_cons (ps_asg (pe_op op_mul (pe_op op_fdiv (pe_ix ix_list (pv 0) pe_int (fun _ _ => rfl)) (pv 1)) (pe_callTy call_int1 (by rfl) m_int (by decide +kernel) (pa_cons (pe_cmpR op_gt (pe_ix ix_list (pv 0) pe_int (fun _ _ => rfl)) pe_int (nomark _)) pa_nil))) (pg_sub (pv 0) pe_int set_list))
  (pss_one (ps_ret (pv 4))))))))), ?_⟩
  refine ⟨_, rfl, st, _, 4, _, rfl, rfl, SqL.of h1, rfl, ?_⟩
  refine ⟨_, rfl, st, _, 2, _, rfl, rfl, SqL.of h1, rfl, _, _, rfl, rfl, _, rfl, st, _, _, 2, rfl, rfl, h1, rfl, ?_⟩
  refine ⟨fun σ' H' => ∃ (y z : Option V) (a' i' n' : Int), σ' = [some (.ref st), some (.int lim), y, some (.ref c), z] ∧
    (∃ G : Hp, Kept st H G ∧ H' = upd G st (.lst [.int a', .int i', .int (k + 1), .int sd, .ref c, .int n'])) ∧ 0 ≤ i' ∧ i' ≤ ns.length, ?_, ?_⟩
  · refine ⟨_, rfl, st, _, 0, _, rfl, rfl, SqL.of upd_same, rfl, rfl, _, rfl, ite2 (fun e => ?_) (fun e => ?_)⟩
    · have hc : SqL K (upd H st (.lst [.int a, .int j, .int (k + 1), .int sd, .ref c, .int n])) c (ns.map V.int) := SqL.of (by rw [upd_ne h5]; exact h2)
      refine ⟨_, rfl, st, _, 1, _, rfl, rfl, SqL.of upd_same, rfl, _, rfl, c, _, rfl, .inl hc, rfl, _, rfl, ite2 (fun e2 => ?_) (fun e2 => ?_)⟩
      · refine ⟨_, rfl, st, _, 3, _, rfl, rfl, SqL.of upd_same, rfl, _, rfl, st, _, 2, _, rfl, rfl, SqL.of upd_same, rfl, _, _, rfl, fun d => ⟨_, rfl, _, _, rfl, rfl, hl0, ?_⟩⟩
        exact q _ _ (Int.emod_nonneg _ (by omega)) (Int.emod_lt_of_pos _ hl0) Kept.own ⟨_, _, _, _, _, upd_same, by rw [upd_ne h5]; exact h2, h3, h4, h5⟩
      · have hj : j < ns.length := by
          have z : ¬ (j : Int) = ns.length := fun z => e2 (decide_eq_true (congrArg V.int (by rw [List.length_map]; exact z)))
          omega
        have hat : atI (ns.map V.int) (j : Int) = some (.int ns[j]) := atI_nat (by rw [List.getElem?_map, List.getElem?_eq_getElem hj]; rfl)
        refine ⟨_, rfl, _, rfl, st, _, 1, _, rfl, rfl, SqL.of upd_same, rfl, c, _, _, _, rfl, rfl, hc, hat, ?_⟩
        refine ⟨_, rfl, st, _, 1, _, rfl, rfl, SqL.of upd_same, rfl, _, _, rfl, rfl, _, rfl, st, _, _, 1, rfl, rfl, upd_same, rfl, ?_⟩
        refine ⟨_, rfl, .inl ⟨_, rfl, _, _, rfl, rfl, two, rfl, _, rfl, ite2 (fun e3 => ?_) (fun e3 => ?_)⟩⟩
        · refine ⟨_, rfl, _, rfl, st, _, 2, _, rfl, rfl, SqL.of upd_same, rfl, _, _, rfl, fun d => ⟨_, rfl, _, _, rfl, rfl, hl0, ?_⟩⟩
          exact q _ _ (Int.emod_nonneg _ (by omega)) (Int.emod_lt_of_pos _ hl0) (Kept.own.trans Kept.own)
            ⟨_, _, _, _, _, upd_same, by rw [upd_ne h5, upd_ne h5]; exact h2, by omega, by omega, h5⟩
        · refine ⟨_, rfl, _, rfl, _, _, rfl, rfl, ⟨by decide, by decide⟩, _, rfl, st, _, _, 0, rfl, rfl, upd_same, rfl, ?_⟩
          refine ⟨_, rfl, st, _, _, 5, rfl, rfl, upd_same, rfl, ?_⟩
          exact ⟨_, _, _, _, _, rfl, ⟨_, (Kept.own.trans Kept.own).trans Kept.own, rfl⟩, by omega, by omega⟩
    · exact ⟨_, _, _, _, _, rfl, ⟨_, Kept.refl _ _, rfl⟩, h3, h4⟩
  · rintro σ' H' ⟨y, z, a', i', n', rfl, ⟨G, hG, rfl⟩, hi0, hi1⟩
    have gc : G c = some (.lst (ns.map V.int)) := hG _ _ h5 h2
    have small : ∀ b : Bool, -(2 ^ 64 : Int) < (if b then 1 else 0) ∧ (if b then 1 else 0) < (2 ^ 64 : Int) := by decide
    refine ⟨_, rfl, st, _, 0, _, rfl, rfl, SqL.of upd_same, rfl, .inl ⟨_, rfl, _, rfl, _, _, rfl, rfl, hl0, ?_⟩⟩
    refine ⟨_, rfl, st, _, 5, _, rfl, rfl, SqL.of upd_same, rfl, _, _, rfl, rfl, _, rfl, st, _, _, 5, rfl, rfl, upd_same, rfl, ?_⟩
    refine ⟨_, rfl, st, _, 0, _, rfl, rfl, SqL.of upd_same, rfl, _, rfl, _, _, rfl, rfl, ⟨hl0, hl1⟩, _, rfl, st, _, 5, _, rfl, rfl, SqL.of upd_same, rfl, _, _, rfl, rfl,
      .inr ⟨_, rfl, _, _, rfl, rfl, .inr (small _), _, rfl, st, _, _, 0, rfl, rfl, upd_same, rfl, _, rfl, ?_⟩⟩
    exact q _ _ (Int.emod_nonneg _ (by omega)) (Int.emod_lt_of_pos _ hl0) (hG.trans ((Kept.own.trans Kept.own).trans Kept.own))
      ⟨_, _, _, _, _, upd_same, by rw [upd_ne h5, upd_ne h5, upd_ne h5]; exact gc, hi0, hi1, h5⟩

def sp_same_n (n : Nat) (K : PySem.W.Frag) : Sp := fun vs H Q _ => ∃ (x y : V) (d : PyData), vs = [x, y] ∧ Dp K H x d ∧ Dp K H y d ∧ okD n d ∧ ∀ H', Same H H' → Q (.bl true) H'
def sp__law_same (K : PySem.W.Frag) : Sp := sp_same_n 8 K
set_option maxHeartbeats 1000000 in
theorem ok__law_same (F : Fun K "_law_same" "_law_same" s__law_same f fd) (bs : Binds K fd ["actual", "due"] []) (gs : mg "_law_same" = some (.ref f)) (m_isinstance : mg "isinstance" = none) (m_bool : mg "bool" = none) (m_int : mg "int" = none) (m_str : mg "str" = none) (m_range : mg "range" = none) (m_len : mg "len" = none) (m_list : mg "list" = none) (m_tuple : mg "tuple" = none) :
    ∀ n : Nat, FnOk P w K mg base CX0 n f fd ["actual", "due"] (sp_same_n n K)
  | 0 => by
    have no : ∀ vs H Q E, ¬ sp_same_n 0 K vs H Q E := fun vs H Q E h => by
      obtain ⟨x, y, d, _, _, _, ok, _⟩ := h
      exact ok
    exact ⟨fun vs H Q E h => absurd h (no vs H Q E), fun A outer s H args us vs Q E _ _ _ _ h => absurd h (no vs H Q E)⟩
  | n + 1 => by
    have ih := ok__law_same F bs gs m_isinstance m_bool m_int m_str m_range m_len m_list m_tuple n
    have C__law_same : Cal P w K mg base n "_law_same" s__law_same ["actual", "due"] (sp_same_n n K) := ⟨_, _, ih, F, bs, gs⟩
    refine F.ok sc__law_same (fun vs H Q E h => ?_) (fun cdv A outer s H vs Q E hr h => ?_)
    · obtain ⟨x, y, d, rfl, _⟩ := h
      rfl
    obtain ⟨x, y, d, rfl, hx, hy, ok, q⟩ := h
    refine ⟨_, (pss_cons (ps_if (pt_cmpR op_isN (pv 1) pe_non (nomark _))
  (pss_one (ps_ret (pe_cmpR op_isN (pv 0) pe_non (nomark _)))) pss_nil)
  (pss_cons (ps_if (pt_val (pe_callB call_isi (by rfl) m_isinstance (by decide +kernel) (pa_cons (pv 1) (pa_cons (pe_bltn (v := .ty "bool") (by rfl) m_bool (by decide +kernel) rfl) pa_nil))))
  (pss_one (ps_ret (pe_and (pe_callB call_isi (by rfl) m_isinstance (by decide +kernel) (pa_cons (pv 0) (pa_cons (pe_bltn (v := .ty "bool") (by rfl) m_bool (by decide +kernel) rfl) pa_nil))) (pe_one (pe_cmpR op_eq (pv 0) (pv 1) (nomark _)))))) pss_nil)
  (pss_cons (ps_if (pt_val (pe_callB call_isi (by rfl) m_isinstance (by decide +kernel) (pa_cons (pv 1) (pa_cons (pe_bltn (v := .ty "int") (by rfl) m_int (by decide +kernel) rfl) pa_nil))))
  (pss_one (ps_ret (pe_and (pe_callB call_isi (by rfl) m_isinstance (by decide +kernel) (pa_cons (pv 0) (pa_cons (pe_bltn (v := .ty "int") (by rfl) m_int (by decide +kernel) rfl) pa_nil))) (pe_and (pe_not (pe_callB call_isi (by rfl) m_isinstance (by decide +kernel) (pa_cons (pv 0) (pa_cons (pe_bltn (v := .ty "bool") (by rfl) m_bool (by decide +kernel) rfl) pa_nil)))) (pe_one (pe_cmpR op_eq (pv 0) (pv 1) (nomark _))))))) pss_nil)
  (pss_cons (ps_if (pt_val (pe_callB call_isi (by rfl) m_isinstance (by decide +kernel) (pa_cons (pv 1) (pa_cons (pe_bltn (v := .ty "str") (by rfl) m_str (by decide +kernel) rfl) pa_nil))))
  (pss_one (ps_ret (pe_and (pe_callB call_isi (by rfl) m_isinstance (by decide +kernel) (pa_cons (pv 0) (pa_cons (pe_bltn (v := .ty "str") (by rfl) m_str (by decide +kernel) rfl) pa_nil))) (pe_one (pe_cmpR op_eq (pv 0) (pv 1) (nomark _)))))) pss_nil)
  (pss_cons (ps_if (PW.pt (pw_or (pt_cmpR op_ne (pe_callB call_isi (by rfl) m_isinstance (by decide +kernel) (pa_cons (pv 1) (pa_cons (pe_bltn (v := .ty "list") (by rfl) m_list (by decide +kernel) rfl) pa_nil))) (pe_callB call_isi (by rfl) m_isinstance (by decide +kernel) (pa_cons (pv 0) (pa_cons (pe_bltn (v := .ty "list") (by rfl) m_list (by decide +kernel) rfl) pa_nil))) (nomark _)) (pw_or1 (pt_cmpR op_ne (pe_callB call_isi (by rfl) m_isinstance (by decide +kernel) (pa_cons (pv 1) (pa_cons (pe_bltn (v := .ty "tuple") (by rfl) m_tuple (by decide +kernel) rfl) pa_nil))) (pe_callB call_isi (by rfl) m_isinstance (by decide +kernel) (pa_cons (pv 0) (pa_cons (pe_bltn (v := .ty "tuple") (by rfl) m_tuple (by decide +kernel) rfl) pa_nil))) (nomark _)))))
  (pss_one (ps_ret pe_bl)) pss_nil)
  (pss_cons (ps_if (pt_cmpR op_ne (pe_callB call_len_seq (by rfl) m_len (by decide +kernel) (pa_cons (pv 0) pa_nil)) (pe_callB call_len_seq (by rfl) m_len (by decide +kernel) (pa_cons (pv 1) pa_nil)) (nomark _))
  (pss_one (ps_ret pe_bl)) pss_nil)
  (pss_cons (ps_for PassesOwn.never rfl (pi_range1 (by rfl) m_range (pa_cons (pe_callB call_len_seq (by rfl) m_len (by decide +kernel) (pa_cons (pv 1) pa_nil)) pa_nil)) (pg_name (i := 2) sc__law_same.nd rfl (.inl rfl))
  (pss_one (ps_if (pt_not (pt_val (pe_cal C__law_same hr (by first | decide | exact Nat.le_refl _) (by rfl) (pa_cons (pe_ix ix_seq (pv 0) (pv 2) (fun _ _ => rfl)) (pa_cons (pe_ix ix_seq (pv 1) (pv 2) (fun _ _ => rfl)) pa_nil)))))
  (pss_one (ps_ret pe_bl)) pss_nil)))
  (pss_one (ps_ret pe_bl))))))))), ?_⟩
    have fin := q H (Same.refl H)
    cases d with
    | none =>
      cases hx
      cases hy
      refine ⟨_, rfl, rfl, _, rfl, ite2 (fun _ => ?_) (fun e => absurd (decide_eq_true rfl) e)⟩
      exact ⟨_, rfl, rfl, fin⟩
    | bool b =>
      cases hx
      cases hy
      refine ⟨_, rfl, rfl, _, rfl, ite2 (fun e => absurd (of_decide_eq_true e) (by simp)) (fun _ => ?_)⟩
      refine ⟨_, rfl, _, _, _, _, true, rfl, .ty _, .base (.bl b), kit_ty (by decide +kernel), _, rfl, iteT ?_⟩
      refine ⟨_, rfl, _, _, _, _, true, rfl, .ty _, .base (.bl b), kit_ty (by decide +kernel), _, rfl, iteT ?_⟩
      refine ⟨_, rfl, _, rfl, rfl, ?_⟩
      rw [decide_eq_true rfl]
      exact fin
    | int i =>
      cases hx
      cases hy
      refine ⟨_, rfl, rfl, _, rfl, ite2 (fun e => absurd (of_decide_eq_true e) (by simp)) (fun _ => ?_)⟩
      refine ⟨_, rfl, _, _, _, _, false, rfl, .ty _, .base (.int i), kit_ty (by decide +kernel), _, rfl, iteF ?_⟩
      refine ⟨_, rfl, _, _, _, _, true, rfl, .ty _, .base (.int i), kit_ty (by decide +kernel), _, rfl, iteT ?_⟩
      refine ⟨_, rfl, _, _, _, _, true, rfl, .ty _, .base (.int i), kit_ty (by decide +kernel), _, rfl, iteT ?_⟩
      refine ⟨_, rfl, _, _, _, _, false, rfl, .ty _, .base (.int i), kit_ty (by decide +kernel), _, rfl, _, rfl, iteT ?_⟩
      refine ⟨_, rfl, _, rfl, rfl, ?_⟩
      rw [decide_eq_true rfl]
      exact fin
    | str z =>
      cases hx
      cases hy
      refine ⟨_, rfl, rfl, _, rfl, ite2 (fun e => absurd (of_decide_eq_true e) (by simp)) (fun _ => ?_)⟩
      refine ⟨_, rfl, _, _, _, _, false, rfl, .ty _, .base (.str z), kit_ty (by decide +kernel), _, rfl, iteF ?_⟩
      refine ⟨_, rfl, _, _, _, _, false, rfl, .ty _, .base (.str z), kit_ty (by decide +kernel), _, rfl, iteF ?_⟩
      refine ⟨_, rfl, _, _, _, _, true, rfl, .ty _, .base (.str z), kit_ty (by decide +kernel), _, rfl, iteT ?_⟩
      refine ⟨_, rfl, _, _, _, _, true, rfl, .ty _, .base (.str z), kit_ty (by decide +kernel), _, rfl, iteT ?_⟩
      refine ⟨_, rfl, _, rfl, rfl, ?_⟩
      rw [decide_eq_true rfl]
      exact fin
    | list ds =>
      obtain ⟨a, xs, rfl, ha, da⟩ := Dp.lstI hx
      obtain ⟨b, ys, rfl, hb, db⟩ := Dp.lstI hy
      obtain ⟨ok1, ok2⟩ : ds.length ≤ 100000 ∧ ∀ e ∈ ds, okD n e := ok
      have l1 := da.len
      have l2 := db.len
      have ta := SqL.ty ha
      have tb := SqL.ty hb
      refine ⟨_, rfl, rfl, _, rfl, ite2 (fun e => absurd (of_decide_eq_true e) (by simp)) (fun _ => ?_)⟩
      refine ⟨_, rfl, _, _, _, _, false, rfl, .ty _, tb, kit_ty (by decide +kernel), _, rfl, iteF ?_⟩
      refine ⟨_, rfl, _, _, _, _, false, rfl, .ty _, tb, kit_ty (by decide +kernel), _, rfl, iteF ?_⟩
      refine ⟨_, rfl, _, _, _, _, false, rfl, .ty _, tb, kit_ty (by decide +kernel), _, rfl, iteF ?_⟩
      refine ⟨_, rfl, _, _, _, _, true, rfl, .ty _, tb, kit_ty (by decide +kernel), _, rfl, _, _, _, _, true, rfl, .ty _, ta, kit_ty (by decide +kernel), rfl, _, rfl, iteF ?_⟩
      refine ⟨_, rfl, _, _, _, _, false, rfl, .ty _, tb, kit_ty (by decide +kernel), _, rfl, _, _, _, _, false, rfl, .ty _, ta, kit_ty (by decide +kernel), rfl, _, rfl, iteF ?_⟩
      refine ⟨_, rfl, _, _, rfl, .inl ha, _, rfl, _, _, rfl, .inl hb, rfl, _, rfl, ite2 (fun e => ?_) (fun _ => ?_)⟩
      · rw [l1, l2, decide_eq_true rfl] at e
        cases e
      refine ⟨_, rfl, _, _, rfl, .inl hb, _, rfl, by omega, by omega, ?_⟩
      have en : ((ys.length : Nat) : Int).toNat = ds.length := by omega
      rw [en]
      refine for_range (n := ds.length) (fun i σ H1 => (∃ z : Option V, σ = [some (.ref a), some (.ref b), z]) ∧ Same H H1) ⟨⟨_, rfl⟩, Same.refl H⟩ ?_ ?_
      · rintro i σ H1 hi ⟨⟨z, rfl⟩, sm⟩
        have hd : ds[i]? = some ds[i] := List.getElem?_eq_getElem hi
        obtain ⟨v1, e1, d1⟩ := da.get hd
        obtain ⟨v2, e2, d2⟩ := db.get hd
        have e0 : (0 : Int) + (i : Nat) = (i : Nat) := by omega
        refine ⟨_, rfl, _, rfl, .inl ⟨a, xs, _, v1, rfl, rfl, sm.seq ha, by rw [e0]; exact atI_nat e1, ?_⟩⟩
        refine ⟨_, rfl, _, rfl, .inl ⟨b, ys, _, v2, rfl, rfl, sm.seq hb, by rw [e0]; exact atI_nat e2, ?_⟩⟩
        refine ⟨_, _, _, rfl, Dp.same sm d1, Dp.same sm d2, ok2 _ (List.getElem_mem hi), fun H2 sm2 => ⟨_, rfl, iteF ?_⟩⟩
        exact ⟨⟨_, rfl⟩, sm.trans sm2⟩
      · rintro σ H1 ⟨⟨z, rfl⟩, sm⟩
        exact q H1 sm
    | tuple ds =>
      obtain ⟨a, xs, rfl, ha, da⟩ := Dp.tupI hx
      obtain ⟨b, ys, rfl, hb, db⟩ := Dp.tupI hy
      obtain ⟨ok1, ok2⟩ : ds.length ≤ 100000 ∧ ∀ e ∈ ds, okD n e := ok
      have l1 := da.len
      have l2 := db.len
      have ta := SqT.ty ha
      have tb := SqT.ty hb
      refine ⟨_, rfl, rfl, _, rfl, ite2 (fun e => absurd (of_decide_eq_true e) (by simp)) (fun _ => ?_)⟩
      refine ⟨_, rfl, _, _, _, _, false, rfl, .ty _, tb, kit_ty (by decide +kernel), _, rfl, iteF ?_⟩
      refine ⟨_, rfl, _, _, _, _, false, rfl, .ty _, tb, kit_ty (by decide +kernel), _, rfl, iteF ?_⟩
      refine ⟨_, rfl, _, _, _, _, false, rfl, .ty _, tb, kit_ty (by decide +kernel), _, rfl, iteF ?_⟩
      refine ⟨_, rfl, _, _, _, _, false, rfl, .ty _, tb, kit_ty (by decide +kernel), _, rfl, _, _, _, _, false, rfl, .ty _, ta, kit_ty (by decide +kernel), rfl, _, rfl, iteF ?_⟩
      refine ⟨_, rfl, _, _, _, _, true, rfl, .ty _, tb, kit_ty (by decide +kernel), _, rfl, _, _, _, _, true, rfl, .ty _, ta, kit_ty (by decide +kernel), rfl, _, rfl, iteF ?_⟩
      refine ⟨_, rfl, _, _, rfl, .inr ha, _, rfl, _, _, rfl, .inr hb, rfl, _, rfl, ite2 (fun e => ?_) (fun _ => ?_)⟩
      · rw [l1, l2, decide_eq_true rfl] at e
        cases e
      refine ⟨_, rfl, _, _, rfl, .inr hb, _, rfl, by omega, by omega, ?_⟩
      have en : ((ys.length : Nat) : Int).toNat = ds.length := by omega
      rw [en]
      refine for_range (n := ds.length) (fun i σ H1 => (∃ z : Option V, σ = [some (.ref a), some (.ref b), z]) ∧ Same H H1) ⟨⟨_, rfl⟩, Same.refl H⟩ ?_ ?_
      · rintro i σ H1 hi ⟨⟨z, rfl⟩, sm⟩
        have hd : ds[i]? = some ds[i] := List.getElem?_eq_getElem hi
        obtain ⟨v1, e1, d1⟩ := da.get hd
        obtain ⟨v2, e2, d2⟩ := db.get hd
        have e0 : (0 : Int) + (i : Nat) = (i : Nat) := by omega
        refine ⟨_, rfl, _, rfl, .inr (.inl ⟨a, xs, _, v1, rfl, rfl, sm.seqT ha, by rw [e0]; exact atI_nat e1, ?_⟩)⟩
        refine ⟨_, rfl, _, rfl, .inr (.inl ⟨b, ys, _, v2, rfl, rfl, sm.seqT hb, by rw [e0]; exact atI_nat e2, ?_⟩)⟩
        refine ⟨_, _, _, rfl, Dp.same sm d1, Dp.same sm d2, ok2 _ (List.getElem_mem hi), fun H2 sm2 => ⟨_, rfl, iteF ?_⟩⟩
        exact ⟨⟨_, rfl⟩, sm.trans sm2⟩
      · rintro σ H1 ⟨⟨z, rfl⟩, sm⟩
        exact q H1 sm
    | dict kvs => cases hx

/-- a language of many relations stands at t -/
def sp__law_language (K : PySem.W.Frag) : Sp := fun vs H Q _ => ∃ (st c : Addr) (ns : List Int) (many : Nat), vs = [.ref st, .int (many : Int)] ∧ StAt st c ns H ∧ many ≤ 16 ∧
  ∀ (t : Addr) (L : Lg) (H' : Hp), LgOk L → L.rels.length = many → Kept st H H' → StAt st c ns H' → LangAt K H' t L → Q (.ref t) H'
def alph : Str := "abcdefghijklmnopqrstuvwxyz"
theorem alph_len : alph.cps.toList.length = 26 := by decide +kernel
theorem alph_fits : alph.length ≤ sizeLine := by decide +kernel
theorem signs_len : (signsV alph).length = 26 := by decide +kernel
theorem places_ok : ∀ v ∈ [V.int 1, V.int 2, V.int 2, V.int 3, V.int 4, V.int 1], ∃ x : Nat, v = .int (x : Int) ∧ 1 ≤ x ∧ x ≤ 4 := by
  intro v hv
  simp only [List.mem_cons, List.mem_singleton, List.not_mem_nil, or_false] at hv
  rcases hv with rfl | rfl | rfl | rfl | rfl | rfl
  · exact ⟨1, rfl, by omega, by omega⟩
  · exact ⟨2, rfl, by omega, by omega⟩
  · exact ⟨2, rfl, by omega, by omega⟩
  · exact ⟨3, rfl, by omega, by omega⟩
  · exact ⟨4, rfl, by omega, by omega⟩
  · exact ⟨1, rfl, by omega, by omega⟩
theorem sorts_ok : ∀ v ∈ [V.int 1, V.int 1, V.int 2, V.int 2, V.int 3, V.int 4], ∃ x : Nat, v = .int (x : Int) ∧ 1 ≤ x ∧ x ≤ 4 := by
  intro v hv
  simp only [List.mem_cons, List.mem_singleton, List.not_mem_nil, or_false] at hv
  rcases hv with rfl | rfl | rfl | rfl | rfl | rfl
  · exact ⟨1, rfl, by omega, by omega⟩
  · exact ⟨1, rfl, by omega, by omega⟩
  · exact ⟨2, rfl, by omega, by omega⟩
  · exact ⟨2, rfl, by omega, by omega⟩
  · exact ⟨3, rfl, by omega, by omega⟩
  · exact ⟨4, rfl, by omega, by omega⟩
theorem two_fits : 2 ≤ sizeLine := by decide
set_option maxHeartbeats 4000000 in
theorem ok__law_language (F : Fun K "_law_language" "_law_language" s__law_language f fd) (C__law_take : Cal P w K mg base 2 "_law_take" s__law_take ["state", "limit"] (sp__law_take K)) (m_list : mg "list" = none) (m_range : mg "range" = none) (m_tuple : mg "tuple" = none) (m_len : mg "len" = none) : FnOk P w K mg base CX0 3 f fd ["state", "many"] (sp__law_language K) := by
  refine F.ok sc__law_language (fun vs H Q E h => ?_) (fun cdv A outer s H vs Q E hr h => ?_)
  · obtain ⟨a, c, ns, m, rfl, _⟩ := h
    rfl
  obtain ⟨st, c, ns, many, rfl, hst, hm, q⟩ := h
  have W := drw st c ns
  refine ⟨_, (pss_cons (ps_set (i := 5) sc__law_language.nd rfl (.inr rfl) pe_str)
  (pss_cons (ps_set (i := 7) sc__law_language.nd rfl (.inl rfl) (pe_callTy (call_list_txt rfl) (by rfl) m_list (by decide +kernel) (pa_cons (pv 5) pa_nil)))
  (pss_cons (ps_set (i := 2) sc__law_language.nd rfl (.inl rfl) (pe_join pe_str (pe_lc (own := [("k", 4)]) rfl sc__law_language.nd (pi_range1 (by rfl) m_range (pa_cons (pe_cal C__law_take hr (by first | decide | exact Nat.le_refl _) (by rfl) (pa_cons (pv 0) (pa_cons pe_int pa_nil))) pa_nil)) (blkOk_by (N := ["state", "many", "ahead", "behind", "k", "letters", "places", "pool", "rows", "sorts", "j"]) (sc := defScope s__law_language) (by decide +kernel)) (fun _ _ _ _ _ => (pg_name (i := 4) sc__law_language.nd rfl (.inl rfl))) (fun _ _ _ _ _ => pts_nil) (fun _ _ _ _ _ => (pe_ix ix_str (pv 5) (pe_cal C__law_take hr (by first | decide | exact Nat.le_refl _) (by rfl) (pa_cons (pv 0) (pa_cons pe_int pa_nil))) (fun _ _ => rfl))))))
  (pss_cons (ps_set (i := 3) sc__law_language.nd rfl (.inl rfl) (pe_join pe_str (pe_lc (own := [("k", 4)]) rfl sc__law_language.nd (pi_range1 (by rfl) m_range (pa_cons (pe_cal C__law_take hr (by first | decide | exact Nat.le_refl _) (by rfl) (pa_cons (pv 0) (pa_cons pe_int pa_nil))) pa_nil)) (blkOk_by (N := ["state", "many", "ahead", "behind", "k", "letters", "places", "pool", "rows", "sorts", "j"]) (sc := defScope s__law_language) (by decide +kernel)) (fun _ _ _ _ _ => (pg_name (i := 4) sc__law_language.nd rfl (.inl rfl))) (fun _ _ _ _ _ => pts_nil) (fun _ _ _ _ _ => (pe_ix ix_str (pv 5) (pe_cal C__law_take hr (by first | decide | exact Nat.le_refl _) (by rfl) (pa_cons (pv 0) (pa_cons pe_int pa_nil))) (fun _ _ => rfl))))))
  (pss_cons (ps_set (i := 9) sc__law_language.nd rfl (.inr rfl) (pe_ix ix_list (pe_lst (pa_cons pe_int (pa_cons pe_int (pa_cons pe_int (pa_cons pe_int (pa_cons pe_int (pa_cons pe_int pa_nil))))))) (pe_cal C__law_take hr (by first | decide | exact Nat.le_refl _) (by rfl) (pa_cons (pv 0) (pa_cons pe_int pa_nil))) (fun _ _ => rfl)))
  (pss_cons (ps_set (i := 8) sc__law_language.nd rfl (.inl rfl) (pe_lst pa_nil))
  (pss_cons (ps_for PassesOwn.never rfl (pi_range1 (by rfl) m_range (pa_cons (pv 1) pa_nil)) (pg_name (i := 4) sc__law_language.nd rfl (.inl rfl))
  (pss_cons (ps_setLc (i := 6) (own := [("j", 10)]) rfl sc__law_language.nd rfl rfl (sw_true rfl rfl rfl (by decide +kernel)) (pi_range1 (by rfl) m_range (pa_cons (pe_ix ix_list (pe_lst (pa_cons pe_int (pa_cons pe_int (pa_cons pe_int (pa_cons pe_int (pa_cons pe_int (pa_cons pe_int pa_nil))))))) (pe_cal C__law_take hr (by first | decide | exact Nat.le_refl _) (by rfl) (pa_cons (pv 0) (pa_cons pe_int pa_nil))) (fun _ _ => rfl)) pa_nil)) (blkOk_by (N := ["state", "many", "ahead", "behind", "k", "letters", "places", "pool", "rows", "sorts", "j"]) (sc := defScope s__law_language) (by decide +kernel)) (fun _ _ _ _ _ => (pg_name (i := 10) sc__law_language.nd rfl (.inl rfl))) (fun _ _ _ _ _ => pts_nil) (fun _ _ _ _ _ => (pe_cal C__law_take hr (by first | decide | exact Nat.le_refl _) (by rfl) (pa_cons (pv 0) (pa_cons (pv 9) pa_nil)))))
  (pss_one (ps_expr (pe_bm PySem.F.plainAttrs_list PySem.F.slot_list_append PySem.F.type_list_append mt_append (pv 8) (pa_cons (pe_tup (pa_cons (pe_op op_add_str (pe_op op_add_str (pv 2) (pe_bm PySem.F.plainAttrs_list PySem.F.slot_list_pop PySem.F.type_list_pop mt_popAt (pv 7) (pa_cons (pe_cal C__law_take hr (by first | decide | exact Nat.le_refl _) (by rfl) (pa_cons (pv 0) (pa_cons (pe_callB call_len_seq (by rfl) m_len (by decide +kernel) (pa_cons (pv 7) pa_nil)) pa_nil))) pa_nil))) (pv 3)) (pa_cons (pe_callTy call_tuple_of (by rfl) m_tuple (by decide +kernel) (pa_cons (pv 6) pa_nil)) pa_nil))) pa_nil))))))
  (pss_one (ps_ret (pe_tup (pa_cons (pv 9) (pa_cons (pe_callTy call_tuple_of (by rfl) m_tuple (by decide +kernel) (pa_cons (pv 8) pa_nil)) pa_nil)))))))))))), ?_⟩
  -- letters, pool
  refine ⟨_, rfl, alph, rfl, alph_fits, fun pl npl => ?_⟩
  have s1 := W.new (o := .lst (signsV alph)) hst npl
  have k1 : Kept st H (upd H pl (.lst (signsV alph))) := Kept.new npl
  have e1 : (upd H pl (.lst (signsV alph))) pl = some (.lst (signsV alph)) := upd_same
  have npl2 := (W.fresh _ _ hst npl).1
  generalize upd H pl (.lst (signsV alph)) = H1 at s1 k1 e1
  -- ahead
  refine ⟨⟨_, rfl⟩, _, rfl, st, c, ns, 4, rfl, s1, by decide, by decide, fun d1 H2 d10 d11 k2 s2 => ⟨_, rfl, by omega, by omega, fun D nD => ?_⟩⟩
  refine lc_draw W (fun _ v => One v) (fun _ _ _ _ h => h) (by omega) s2 nD (fun _ => rfl) ?_ ?_
  · intro i H3 hi s3 k3 R hR
    refine ⟨_, rfl, _, rfl, st, c, ns, 26, rfl, s3, by decide, by decide, fun d H4 h0 h1 k4 s4 => ?_⟩
    obtain ⟨ch, hat, _⟩ := atI_pick (l := alph.cps.toList) h0 (by rw [alph_len]; exact h1)
    exact ⟨alph, d, ch, rfl, rfl, alph_fits, hat, hR _ _ ⟨ch, rfl⟩ k4 s4⟩
  intro H5 xs l5 o5 e5 k5 s5
  obtain ⟨ys, rfl, y1⟩ := ones_strs o5
  rw [List.length_map] at l5
  refine ⟨Str.empty, D, ys, congrArg V.str empty_eq, rfl, .inl (SqL.of e5), word_sum (n := 4) (by omega) y1 (by omega), ?_⟩
  have lA : (Txt.join Str.empty ys).length ≤ 4 := word_len (by omega) y1
  generalize Txt.join Str.empty ys = wA at lA
  have kA : Kept st H1 H5 := k2.trans k5
  clear nD e5 k5 k2 s2 l5 o5
  -- behind
  refine ⟨⟨_, rfl⟩, _, rfl, st, c, ns, 5, rfl, s5, by decide, by decide, fun d2 H6 d20 d21 k6 s6 => ⟨_, rfl, by omega, by omega, fun D2 nD2 => ?_⟩⟩
  refine lc_draw W (fun _ v => One v) (fun _ _ _ _ h => h) (by omega) s6 nD2 (fun _ => rfl) ?_ ?_
  · intro i H3 hi s3 k3 R hR
    refine ⟨_, rfl, _, rfl, st, c, ns, 26, rfl, s3, by decide, by decide, fun d H4 h0 h1 k4 s4 => ?_⟩
    obtain ⟨ch, hat, _⟩ := atI_pick (l := alph.cps.toList) h0 (by rw [alph_len]; exact h1)
    exact ⟨alph, d, ch, rfl, rfl, alph_fits, hat, hR _ _ ⟨ch, rfl⟩ k4 s4⟩
  intro H7 xs l7 o7 e7 k7 s7
  obtain ⟨ys, rfl, y2⟩ := ones_strs o7
  rw [List.length_map] at l7
  refine ⟨Str.empty, D2, ys, congrArg V.str empty_eq, rfl, .inl (SqL.of e7), word_sum (n := 5) (by omega) y2 (by omega), ?_⟩
  have lB : (Txt.join Str.empty ys).length ≤ 5 := word_len (by omega) y2
  generalize Txt.join Str.empty ys = wB at lB
  have kB : Kept st H1 H7 := kA.trans (k6.trans k7)
  clear nD2 e7 k7 k6 s6 l7 o7 kA s5
  -- sorts
  refine ⟨show 6 ≤ sizeLine by decide, fun l nl => ?_⟩
  have s8 := W.new (o := .lst [V.int 1, V.int 1, V.int 2, V.int 2, V.int 3, V.int 4]) s7 nl
  have nls := (W.fresh _ _ s7 nl).1
  refine ⟨_, rfl, st, c, ns, 6, rfl, s8, by decide, by decide, fun d3 H9 d30 d31 k9 s9 => ?_⟩
  obtain ⟨sv, hat, hsv⟩ := atI_pick (l := [V.int 1, V.int 1, V.int 2, V.int 2, V.int 3, V.int 4]) d30 (by exact d31)
  obtain ⟨sorts, rfl, so1, so4⟩ := sorts_ok sv hsv
  refine ⟨l, _, d3, _, rfl, rfl, SqL.of (k9 _ _ nls upd_same), hat, ?_⟩
  have kC : Kept st H1 H9 := kB.trans ((Kept.new nl).trans k9)
  clear hat hsv
  -- rows = []
  refine ⟨Nat.zero_le _, fun rl nrl => ?_⟩
  have s10 := W.new (o := .lst ([] : List V)) s9 nrl
  have kpl : H9 pl = some (.lst (signsV alph)) := kC _ _ npl2 e1
  have nrs := (W.fresh _ _ s9 nrl).1
  have nrp : pl ≠ rl := ne_of_none kpl nrl
  have hk : Kept st H H9 := k1.trans kC
  have hrl : H rl = none := by
    cases e : H rl with
    | none => rfl
    | some o =>
      have z := hk rl o nrs e
      rw [nrl] at z
      cases z
  have putp := (W.fresh _ _ hst npl).2
  have putr := (W.fresh _ _ s9 nrl).2
  have tm : ((many : Nat) : Int).toNat = many := by omega
  refine ⟨_, rfl, _, rfl, by omega, by omega, ?_⟩
  rw [tm]
  refine for_range (n := many) (fun i σ H' => ∃ (a4 a6 a10 : Option V) (ps : List (Addr × Addr)) (rels : List (Str × List Nat)) (pool : List V),
    σ = [some (.ref st), some (.int (many : Int)), some (.str wA), some (.str wB), a4, some (.str alph), a6, some (.ref pl), some (.ref rl), some (.int (sorts : Int)), a10] ∧
    H' rl = some (.lst (ps.map fun p => .ref p.1)) ∧ H' pl = some (.lst pool) ∧ pool.length = 26 - i ∧ (∀ v ∈ pool, One v) ∧ ps.length = i ∧ rels.length = i ∧
    (∀ (j : Nat) (p : Addr × Addr) (r : Str × List Nat), ps[j]? = some p → rels[j]? = some r → SqT K H' p.1 [.str r.1, .ref p.2] ∧ SqT K H' p.2 (intsV r.2)) ∧
    (∀ r ∈ rels, 1 ≤ r.2.length ∧ r.2.length ≤ 4 ∧ ∀ s ∈ r.2, s < sorts) ∧ Kept st H H' ∧ StAt st c ns H')
    ⟨_, _, _, [], [], _, rfl, upd_same, by rw [upd_ne nrp]; exact kpl, by rw [signs_len], ones_signs alph, rfl, rfl, by simp, by simp, Kept.over hrl hk, s10⟩ ?_ ?_
  · rintro i σ H1 hi ⟨a4, a6, a10, ps, rels, pool, rfl, f1, f2, f3, f4, f5, f6, f7, f8, f9, f10⟩
    -- places
    refine ⟨show 6 ≤ sizeLine by decide, fun l2 nl2 => ?_⟩
    have t1 := W.new (o := .lst [V.int 1, V.int 2, V.int 2, V.int 3, V.int 4, V.int 1]) f10 nl2
    have nls2 := (W.fresh _ _ f10 nl2).1
    refine ⟨_, rfl, st, c, ns, 6, rfl, t1, by decide, by decide, fun d4 H2 d40 d41 k2 s2 => ?_⟩
    obtain ⟨mv, hat, hmv⟩ := atI_pick (l := [V.int 1, V.int 2, V.int 2, V.int 3, V.int 4, V.int 1]) d40 (by exact d41)
    obtain ⟨m, rfl, m1, m4⟩ := places_ok mv hmv
    refine ⟨l2, _, d4, _, rfl, rfl, SqL.of (k2 _ _ nls2 upd_same), hat, ?_⟩
    have kk : Kept st H1 H2 := (Kept.new nl2).trans k2
    have tmm : ((m : Nat) : Int).toNat = m := by omega
    refine ⟨_, rfl, by omega, by omega, ?_⟩
    rw [tmm]
    intro D nD
    refine lc_draw W (fun _ v => Nums sorts v) (fun _ _ _ _ h => h) (by omega) s2 nD (fun _ => rfl) ?_ ?_
    · intro j H3 hj s3 k3 R hR
      refine ⟨_, rfl, _, rfl, st, c, ns, _, rfl, s3, by omega, by omega, fun d H4 h0 h1 k4 s4 => hR _ _ ?_ k4 s4⟩
      obtain ⟨x, rfl⟩ := Int.eq_ofNat_of_zero_le h0
      exact ⟨x, rfl, by omega⟩
    intro H3 xs l3 o3 e3 k3 s3
    obtain ⟨pls, rfl, pb⟩ := nums_ints o3
    have lp : pls.length = m := by simpa [intsV] using l3
    have k5 : Kept st H1 H3 := kk.trans k3
    -- rows.append
    have hne : rl ≠ pl := nrp.symm
    refine ⟨_, rfl, .inl ⟨rfl, _, SqL.of (k5 _ _ nrs f1)⟩, ?_⟩
    refine ⟨_, rfl, _, rfl, .inl ⟨rfl, _, SqL.of (k5 _ _ npl2 f2)⟩, ?_⟩
    refine ⟨_, rfl, _, rfl, _, _, rfl, .inl (SqL.of (k5 _ _ npl2 f2)), st, c, ns, _, rfl, s3, by omega, by omega, fun d5 H4 h0 h1 k4 s4 => ?_⟩
    have k6 : Kept st H1 H4 := k5.trans k4
    have hlt : d5.toNat < pool.length := by omega
    have hpy : pool[d5.toNat]? = some pool[d5.toNat] := List.getElem?_eq_getElem hlt
    obtain ⟨ch, hch⟩ := f4 _ (List.getElem_mem hlt)
    refine ⟨pl, pool, d5, d5.toNat, _, rfl, rfl, k6 _ _ npl2 f2, by omega, by omega, seqIx h0 h1, hpy, ?_⟩
    rw [hch]
    have u1 : (⟨#[ch]⟩ : Str).length = 1 := rfl
    have small : (10 : Nat) ≤ sizeLine := by decide
    have lAC : (wA ++ (⟨#[ch]⟩ : Str)).length ≤ 5 := by rw [PySem.Str.length_append]; omega
    refine ⟨_, _, rfl, rfl, by omega, ?_⟩
    refine ⟨_, rfl, _, _, rfl, rfl, by omega, ?_⟩
    generalize hnm : (wA ++ (⟨#[ch]⟩ : Str)) ++ wB = nm
    have nDs := (W.fresh _ _ s2 nD).1
    have nDp : D ≠ pl := fun e => by
      have z := kk _ _ npl2 f2
      rw [← e, nD] at z
      cases z
    have hpl : H pl = none := npl
    have s5 := putp H4 (.lst (pool.eraseIdx d5.toNat)) s4
    have t5 : Tups H1 (upd H4 pl (.lst (pool.eraseIdx d5.toNat))) := (W.tups f10 k6).trans (Tups.lst (k6 _ _ npl2 f2))
    have e5D : (upd H4 pl (.lst (pool.eraseIdx d5.toNat))) D = some (.lst (intsV pls)) := by
      rw [upd_ne nDp]
      exact k4 _ _ nDs e3
    have e5r : (upd H4 pl (.lst (pool.eraseIdx d5.toNat))) rl = some (.lst (ps.map fun p => .ref p.1)) := by
      rw [upd_ne hne]
      exact k6 _ _ nrs f1
    have e5p : (upd H4 pl (.lst (pool.eraseIdx d5.toNat))) pl = some (.lst (pool.eraseIdx d5.toNat)) := upd_same
    have k7 : Kept st H (upd H4 pl (.lst (pool.eraseIdx d5.toNat))) := Kept.over hpl (f9.trans k6)
    generalize upd H4 pl (.lst (pool.eraseIdx d5.toNat)) = H5 at s5 t5 e5D e5r e5p k7
    refine ⟨_, rfl, D, _, rfl, .inl ⟨SqL.of e5D, fun q nq => ?_⟩⟩
    refine ⟨two_fits, fun tq ntq => ?_⟩
    have n1 : q ≠ tq := fun e => by
      rw [← e, upd_same] at ntq
      cases ntq
    have ntq5 : H5 tq = none := by rwa [upd_ne (Ne.symm n1)] at ntq
    have nqr := ne_of_none e5r nq
    have ntr := ne_of_none e5r ntq5
    have nqp := ne_of_none e5p nq
    have ntp := ne_of_none e5p ntq5
    refine ⟨rl, _, _, rfl, rfl, by rw [upd_ne ntr, upd_ne nqr]; exact e5r, small1000 (by rw [List.length_map]; omega), ?_⟩
    have t6 : Tups H5 (upd (upd H5 q (.tup (intsV pls))) tq (.tup [.str nm, .ref q])) := (Tups.new nq).trans (Tups.new ntq)
    have t7 : Tups (upd (upd H5 q (.tup (intsV pls))) tq (.tup [.str nm, .ref q])) (upd (upd (upd H5 q (.tup (intsV pls))) tq (.tup [.str nm, .ref q])) rl (.lst ((ps.map fun p => V.ref p.1) ++ [.ref tq]))) :=
      Tups.lst (by rw [upd_ne ntr, upd_ne nqr]; exact e5r)
    have s6 := W.new (o := .tup [.str nm, .ref q]) (W.new (o := .tup (intsV pls)) s5 nq) ntq
    refine ⟨_, _, _, ps ++ [(tq, q)], rels ++ [(nm, pls)], pool.eraseIdx d5.toNat, rfl, by rw [upd_same, List.map_append]; rfl, by rw [upd_ne nrp, upd_ne ntp, upd_ne nqp]; exact e5p,
      by rw [List.length_eraseIdx_of_lt hlt]; omega, fun v hv => f4 v (List.mem_of_mem_eraseIdx hv), by simp [f5], by simp [f6], ?_, ?_, Kept.over hrl (k7.trans ((Kept.new nq).trans (Kept.new ntq))), putr _ _ s6⟩
    · intro j p r h1 h2
      by_cases hj : j < ps.length
      · rw [List.getElem?_append_left hj] at h1
        rw [List.getElem?_append_left (by omega)] at h2
        obtain ⟨z1, z2⟩ := f7 j p r h1 h2
        exact ⟨t7 _ _ _ (t6 _ _ _ (t5 _ _ _ z1)), t7 _ _ _ (t6 _ _ _ (t5 _ _ _ z2))⟩
      · rw [List.getElem?_append_right (by omega)] at h1
        rw [List.getElem?_append_right (by omega)] at h2
        have ej : j - ps.length = 0 := by
          rcases Nat.eq_zero_or_pos (j - ps.length) with e | e
          · exact e
          · rw [List.getElem?_eq_none (by simp; omega)] at h1
            cases h1
        have ej2 : j - rels.length = 0 := by omega
        rw [ej] at h1
        rw [ej2] at h2
        cases (show some _ = some _ from h1)
        cases (show some _ = some _ from h2)
        exact ⟨t7 _ _ _ (.inl (.inl upd_same)), t7 _ _ _ (.inl (.inl (by rw [upd_ne n1, upd_same])))⟩
    · intro r hr
      rcases List.mem_append.mp hr with hr | hr
      · exact f8 r hr
      · rw [List.mem_singleton.mp hr]
        exact ⟨by show 1 ≤ pls.length; omega, by show pls.length ≤ 4; omega, pb⟩
  · rintro σ H1 ⟨a4, a6, a10, ps, rels, pool, rfl, f1, f2, f3, f4, f5, f6, f7, f8, f9, f10⟩
    refine ⟨_, rfl, _, rfl, rl, _, rfl, .inl ⟨SqL.of f1, fun rt nrt => ?_⟩⟩
    refine ⟨two_fits, fun t nt => ?_⟩
    have n1 : rt ≠ t := fun e => by
      rw [← e, upd_same] at nt
      cases nt
    have t6 := (Tups.new (o := .tup (ps.map fun p => V.ref p.1)) nrt).trans (Tups.new (o := .tup [.int (sorts : Int), .ref rt]) nt)
    refine q t ⟨sorts, rels⟩ _ ⟨so1, so4, by show rels.length ≤ 16; omega, f8⟩ f6 (f9.trans ((Kept.new nrt).trans (Kept.new nt))) (W.new (W.new f10 nrt) nt)
      ⟨rt, ps, .inl (.inl upd_same), .inl (.inl (by rw [upd_ne n1, upd_same])), by rw [f5, f6], fun i p r h1 h2 => ?_⟩
    obtain ⟨z1, z2⟩ := f7 i p r h1 h2
    exact ⟨t6 _ _ _ z1, t6 _ _ _ z2⟩


def sp_row_atoms (K : PySem.W.Frag) : Sp := fun vs H Q _ => ∃ (t a : Addr) (L : Lg) (sorts : List Nat), vs = [.ref t, .ref a] ∧ LangAt K H t L ∧ LgOk L ∧ SqT K H a (intsV sorts) ∧ sorts.length ≤ 4 ∧
  ∀ (H' : Hp) (p : Addr) (as : List Addr), Same H H' → SqT K H' p (as.map V.ref) → AtomsAt K H' as (atomsOf L sorts) → Q (.ref p) H'
set_option maxHeartbeats 4000000 in
theorem ok_row_atoms (F : Fun K "row_atoms" "row_atoms" s_row_atoms f fd) (m_enumerate : mg "enumerate" = none) (m_tuple : mg "tuple" = none) : FnOk P w K mg base CX0 1 f fd ["language", "sorts"] (sp_row_atoms K) := by
  refine F.ok sc_row_atoms (fun vs H Q E h => ?_) (fun cdv A outer s H vs Q E hr h => ?_)
  · obtain ⟨t, a, L, sorts, rfl, _⟩ := h
    rfl
  obtain ⟨t, a, L, sorts, rfl, ⟨rt, rs, hL1, hL2, hL3, hL4⟩, hok, hS, hs4, q⟩ := h
  refine ⟨_, (pss_cons (ps_set (i := 3) sc_row_atoms.nd rfl (.inl rfl) (pe_lst pa_nil))
  (pss_cons (ps_for PassesOwn.never rfl (pi_enumT K rfl (by rfl) m_enumerate (pa_cons (pe_ix ix_tup (pv 0) pe_int (fun _ _ => rfl)) pa_nil)) (pg_tup rfl (pgs_cons (pg_name (i := 6) sc_row_atoms.nd rfl (.inr rfl)) (pgs_cons (pg_tup rfl (pgs_cons (pg_name (i := 2) sc_row_atoms.nd rfl (.inl rfl)) (pgs_cons (pg_name (i := 5) sc_row_atoms.nd rfl (.inl rfl)) pgs_nil))) pgs_nil)))
  (pss_cons (ps_set (i := 7) sc_row_atoms.nd rfl (.inl rfl) (pe_lst (pa_cons (pe_tup pa_nil) pa_nil)))
  (pss_cons (ps_for PassesOwn.never rfl (pi_tup (pv 5)) (pg_name (i := 4) sc_row_atoms.nd rfl (.inr rfl))
  (pss_one (ps_setLc2 (i := 7) (own := [("row", 8), ("slot", 9), ("sort", 10)]) (vs1 := [9, 10]) rfl sc_row_atoms.nd rfl rfl (sw_true rfl rfl rfl (by decide +kernel)) (pi_list (pv 7)) (blkOk_by (N := ["language", "sorts", "_", "found", "place", "places", "relation", "rows", "row", "slot", "sort"]) (sc := defScope s_row_atoms) (by decide +kernel)) (by decide) (fun _ _ _ _ _ => (pg_name (i := 8) sc_row_atoms.nd rfl (.inl rfl))) (fun _ _ _ _ _ => pts_nil) (fun _ _ _ _ _ => (pi_enumT K rfl (by rfl) m_enumerate (pa_cons (pv 1) pa_nil))) (fun _ _ _ _ _ => (pg_tupK K rfl 2 rfl (pgs_cons (pg_name (i := 9) sc_row_atoms.nd rfl (.inl rfl)) (pgs_cons (pg_name (i := 10) sc_row_atoms.nd rfl (.inl rfl)) pgs_nil)))) (fun _ _ _ _ _ => (pts_one (pt_cmpR op_eq (pv 10) (pv 4) (nomark _)))) (fun _ _ _ _ _ => (pe_op (op_catAK K rfl) (pv 8) (pe_tup (pa_cons (pv 9) pa_nil)))))))
  (pss_one (ps_expr (pe_bm PySem.F.plainAttrs_list PySem.F.slot_list_extend PySem.F.type_list_extend mt_extend (pv 3) (pa_cons (pe_lc (own := [("row", 8)]) rfl sc_row_atoms.nd (pi_list (pv 7)) (blkOk_by (N := ["language", "sorts", "_", "found", "place", "places", "relation", "rows", "row", "slot", "sort"]) (sc := defScope s_row_atoms) (by decide +kernel)) (fun _ _ _ _ _ => (pg_name (i := 8) sc_row_atoms.nd rfl (.inl rfl))) (fun _ _ _ _ _ => pts_nil) (fun _ _ _ _ _ => (pe_tup (pa_cons (pv 6) (pa_cons (pv 8) pa_nil))))) pa_nil)))))))
  (pss_one (ps_ret (pe_callTy call_tuple_of (by rfl) m_tuple (by decide +kernel) (pa_cons (pv 3) pa_nil)))))), ?_⟩
  -- found = []
  refine ⟨Nat.zero_le _, fun fo nfo => ?_⟩
  have sm0 : Same H (upd H fo (.lst [])) := same_new nfo
  refine ⟨_, rfl, t, _, 1, _, rfl, rfl, sm0.seqT hL1, rfl, rt, _, rfl, sm0.seqT hL2, ?_⟩
  refine for_it walk_enumT (fun i σ H' => (∃ a2 a4 a5 a6 a7 a8 a9 a10 : Option V, σ = [some (.ref t), some (.ref a), a2, some (.ref fo), a4, a5, a6, a7, a8, a9, a10]) ∧ Same H H' ∧
    ∃ as : List Addr, H' fo = some (.lst (as.map V.ref)) ∧ AtomsAt K H' as (atomsFrom sorts 0 (L.rels.take i)) ∧ as.length ≤ i * 256)
    ⟨⟨_, _, _, _, _, _, _, _, rfl⟩, sm0, [], upd_same, ⟨rfl, fun j p x h => by simp at h⟩, Nat.zero_le _⟩ (fun i σ H' _ h => h.2.1.seqT hL2) ?_ ?_
  · rintro i v σ H1 H2 hi ⟨⟨a2, a4, a5, a6, a7, a8, a9, a10, rfl⟩, sm, as, f1, f2, f3⟩ ⟨T, x, y, rfl, nT, rfl, hx, hy⟩
    cases hx
    replace hy : (rs.map fun p => V.ref p.1)[i]? = some y := hy
    rw [List.getElem?_map] at hy
    obtain ⟨p, hp, rfl⟩ := Option.map_eq_some_iff.mp hy
    have hi2 : i < L.rels.length := by rw [List.length_map] at hi; omega
    have hr2 : L.rels[i]? = some L.rels[i] := List.getElem?_eq_getElem hi2
    obtain ⟨z1, z2⟩ := hL4 i p _ hp hr2
    obtain ⟨p1, p2, p3⟩ := hok.pl _ (List.getElem_mem hi2)
    generalize L.rels[i] = r at *
    have smT : Same H1 (upd H1 T (.tup [.int (i : Nat), .ref p.1])) := same_new nT
    have f1' := smT _ _ f1
    have f2' := f2.tups (Tups.same smT)
    have sm' : Same H (upd H1 T (.tup [.int (i : Nat), .ref p.1])) := sm.trans smT
    refine ⟨T, [.int (i : Nat), .ref p.1], rfl, .inl (.inl upd_same), rfl, .int (i : Nat), [.ref p.1], rfl, .ref p.1, [], rfl, p.1, [.str r.1, .ref p.2], rfl, sm'.seqT z1, rfl, .str r.1, [.ref p.2], rfl, .ref p.2, [], rfl, rfl, rfl, ?_⟩
    generalize upd H1 T (.tup [.int (i : Nat), .ref p.1]) = H2 at f1' f2' sm'
    clear f1 f2 nT smT sm
    -- rows = [()]
    refine ⟨Nat.zero_le _, fun e0 ne0 => ⟨show 1 ≤ sizeLine by decide, fun rw0 nrw0 => ?_⟩⟩
    have t1 : Same H2 (upd (upd H2 e0 (.tup [])) rw0 (.lst [.ref e0])) := (same_new ne0).trans (same_new nrw0)
    have e0w : e0 ≠ rw0 := fun e => by
      rw [← e, upd_same] at nrw0
      cases nrw0
    have hq : SqT K H2 p.2 (intsV r.2) := sm'.seqT z2
    have hA : SqT K H2 a (intsV sorts) := sm'.seqT hS
    refine ⟨_, rfl, p.2, rfl, ⟨_, t1.seqT hq⟩, for_tup (xs := intsV r.2)
      (fun k σ H' => (∃ (a2 a4 a8 a9 a10 : Option V) (rw_ : Addr) (bs : List Addr), σ = [some (.ref t), some (.ref a), a2, some (.ref fo), a4, some (.ref p.2), some (.int (i : Nat)), some (.ref rw_), a8, a9, a10] ∧
        H' rw_ = some (.lst (bs.map V.ref)) ∧ RowsAt K H' bs (rowsOf sorts (r.2.take k))) ∧ Same H2 H')
      ⟨⟨_, _, _, _, _, rw0, [e0], rfl, upd_same, ⟨rfl, fun j c w h1 h2 => ?_⟩⟩, t1⟩ (fun k σ H' _ h => h.2.seqT hq) ?_ ?_⟩
    · match j, h1, h2 with
      | 0, h1, h2 =>
        cases (show some _ = some _ from h1)
        cases (show some _ = some _ from h2)
        exact .inl (.inl (by rw [upd_ne e0w, upd_same]; rfl))
      | j + 1, h1, _ => simp at h1
    · rintro k x σ H3 hx ⟨⟨b2, b4, b8, b9, b10, rw_, bs, rfl, g1, g2⟩, sm3⟩
      have hx2 : (r.2.map fun n : Nat => V.int (n : Int))[k]? = some x := hx
      rw [List.getElem?_map] at hx2
      obtain ⟨pl, hpl, rfl⟩ := Option.map_eq_some_iff.mp hx2
      have hk : k < r.2.length := (List.getElem?_eq_some_iff.mp hpl).1
      have hA3 : SqT K H3 a (intsV sorts) := sm3.seqT hA
      have lrows : (rowsOf sorts (r.2.take k)).length ≤ 256 := by
        have z := rows_bound hs4 4 (r.2.take k) (by rw [List.length_take]; omega) (Nat.le_refl 4)
        exact z
      have lbs : bs.length ≤ 256 := by rw [g2.1]; exact lrows
      refine ⟨_, rfl, rw_, rfl, ⟨_, SqL.of g1⟩, fun D nD => ?_⟩
      refine lc2_it (walk_list (xs := bs.map V.ref)) (fun m H' => ∃ cs : List Addr, H' D = some (.lst (cs.map V.ref)) ∧ RowsAt K H' cs (((rowsOf sorts (r.2.take k)).take m).flatMap (extend sorts pl)) ∧ Same H3 H')
        ⟨[], upd_same, ⟨rfl, fun j c w h _ => by simp at h⟩, same_new nD⟩ (fun m H' _ ⟨_, _, _, z⟩ => SqL.of (z _ _ g1)) ?_ ?_
      · rintro m x H4 _ hm ⟨cs, c1, c2, c3⟩ ⟨rfl, hx⟩
        rw [List.getElem?_map] at hx
        obtain ⟨b, hb, rfl⟩ := Option.map_eq_some_iff.mp hx
        have hmr : m < (rowsOf sorts (r.2.take k)).length := by
          rw [← g2.1]
          exact (List.getElem?_eq_some_iff.mp hb).1
        have hrow : (rowsOf sorts (r.2.take k))[m]? = some (rowsOf sorts (r.2.take k))[m] := List.getElem?_eq_getElem hmr
        have qrow := g2.2 m b _ hb hrow
        have lrow := (rows_ok sorts (r.2.take k) _ (List.getElem_mem hmr)).1
        rw [List.length_take] at lrow
        have etake : ((rowsOf sorts (r.2.take k)).take (m + 1)).flatMap (extend sorts pl) = ((rowsOf sorts (r.2.take k)).take m).flatMap (extend sorts pl) ++ extend sorts pl (rowsOf sorts (r.2.take k))[m] := by
          rw [List.take_add_one, hrow, List.flatMap_append]
          simp
        rw [etake]
        have lprev : (((rowsOf sorts (r.2.take k)).take m).flatMap (extend sorts pl)).length ≤ 1024 := by
          have z := flat_len (f := extend sorts pl) (c := 4) ((rowsOf sorts (r.2.take k)).take m) fun w _ => Nat.le_trans (extend_len sorts pl w) hs4
          rw [List.length_take] at z
          omega
        generalize ((rowsOf sorts (r.2.take k)).take m).flatMap (extend sorts pl) = prev at c2 lprev
        generalize (rowsOf sorts (r.2.take k))[m] = row at qrow lrow
        refine ⟨rfl, yes_ ?_⟩
        refine ⟨_, rfl, a, _, rfl, c3.seqT hA3, ?_⟩
        have nlen : (intsV sorts).length = sorts.length := by simp [intsV]
        refine in_it walk_enumT (fun j H' => ∃ cs' : List Addr, H' D = some (.lst (cs'.map V.ref)) ∧ RowsAt K H' cs' (prev ++ ((List.range j).filter fun i => sorts.getD i 0 == pl).map fun s => row ++ [s]) ∧ Same H3 H')
          ⟨cs, c1, by simpa using c2, c3⟩ (fun j H' _ ⟨_, _, _, z⟩ => z.seqT hA3) ?_ ?_
        · rintro j v H5 _ hj ⟨cs', d1, d2, d3⟩ ⟨T, x, y, rfl, nT, rfl, hx, hy⟩
          cases hx
          rw [nlen] at hj
          have hy2 : (sorts.map fun n : Nat => V.int (n : Int))[j]? = some y := hy
          rw [List.getElem?_map, List.getElem?_eq_getElem hj] at hy2
          cases (show some _ = some _ from hy2)
          have smT : Same H5 (upd H5 T (.tup [.int (j : Nat), .int (sorts[j] : Int)])) := same_new nT
          have d1' := smT _ _ d1
          have d2' := d2.tups (Tups.same smT)
          have d3' := d3.trans smT
          have hgd : sorts.getD j 0 = sorts[j] := by
            rw [List.getD_eq_getElem?_getD, List.getElem?_eq_getElem hj]
            rfl
          have lcs : cs'.length ≤ 2000 := by
            rw [d2.1, List.length_append, List.length_map]
            have z := List.length_filter_le (fun i => sorts.getD i 0 == pl) (List.range j)
            rw [List.length_range] at z
            omega
          refine ⟨T, [.int (j : Nat), .int (sorts[j] : Int)], rfl, .inl (.inl upd_same), rfl, _, [_], rfl, _, [], rfl, rfl, rfl, ?_⟩
          refine ⟨_, rfl, _, rfl, rfl, _, rfl, ?_⟩
          generalize upd H5 T (.tup [.int (j : Nat), .int (sorts[j] : Int)]) = H6 at d1' d2' d3'
          refine ite2 (fun e => ?_) (fun e => ?_)
          · have e1 : (sorts[j] : Int) = (pl : Int) := V.int.inj (of_decide_eq_true e)
            have e2 : (sorts.getD j 0 == pl) = true := by
              rw [hgd]
              exact beq_iff_eq.mpr (by omega)
            have fin : ∀ (x : Addr) (G : Hp), Same H6 G → SqT K G x (intsV (row ++ [j])) → ∃ acc, G D = some (.lst acc) ∧ acc.length < sizeLine ∧ ∃ cs' : List Addr, (upd G D (.lst (acc ++ [.ref x]))) D = some (.lst (cs'.map V.ref)) ∧
                RowsAt K (upd G D (.lst (acc ++ [.ref x]))) cs' (prev ++ ((List.range (j + 1)).filter fun i => sorts.getD i 0 == pl).map fun s => row ++ [s]) ∧ Same H3 (upd G D (.lst (acc ++ [.ref x]))) := fun x G sG qx => by
              have eG := sG _ _ d1'
              refine ⟨cs'.map V.ref, eG, by rw [List.length_map]; exact Nat.lt_of_le_of_lt lcs (by decide), cs' ++ [x], by rw [upd_same, List.map_append]; rfl, ?_, Same.over nD (d3'.trans sG)⟩
              have z := (d2'.tups ((Tups.same sG).trans (Tups.lst eG))).snoc (Tups.lst (o := .lst (cs'.map V.ref ++ [.ref x])) eG _ _ _ qx)
              have ef : ([j] : List Nat).filter (fun i => sorts.getD i 0 == pl) = [j] := by
                rw [List.filter_cons_of_pos (by exact e2)]
                rfl
              rw [List.range_succ, List.filter_append, ef, List.map_append, ← List.append_assoc]
              exact z
            refine ⟨_, rfl, _, rfl, show 1 ≤ sizeLine by decide, fun u nu => ?_⟩
            have su : Same H6 (upd H6 u (.tup [.int (j : Nat)])) := same_new nu
            have qu : SqT K (upd H6 u (.tup [.int (j : Nat)])) u [.int (j : Nat)] := .inl (.inl upd_same)
            have lr : (intsV row).length ≤ 4 := by simp only [intsV, List.length_map]; omega
            refine ⟨b, u, intsV row, [.int (j : Nat)], rfl, rfl, (d3'.trans su).seqT qrow, qu, Nat.le_trans (Nat.add_le_add lr (Nat.le_refl 1)) (by decide), fun e => ?_, fun _ e => (by cases e), fun _ _ w nw => ?_⟩
            · have er : row = [] := by simpa [intsV] using e
              exact fin u _ su (by rw [er]; exact qu)
            · exact fin w _ (su.trans (same_new nw)) (.inl (.inl (by rw [upd_same]; simp [intsV])))
          · have e2 : (sorts.getD j 0 == pl) = false := by
              rw [hgd]
              refine beq_eq_false_iff_ne.mpr fun z => e (decide_eq_true ?_)
              rw [z]
            refine ⟨cs', d1', ?_, d3'⟩
            have ef : ([j] : List Nat).filter (fun i => sorts.getD i 0 == pl) = [] := by
              rw [List.filter_cons_of_neg (by rw [e2]; exact Bool.false_ne_true)]
              rfl
            rw [List.range_succ, List.filter_append, ef, List.append_nil]
            exact d2'
        · rintro H5 ⟨cs', d1, d2, d3⟩
          refine ⟨cs', d1, ?_, d3⟩
          rw [nlen] at d2
          exact d2
      · rintro H4 ⟨cs, c1, c2, c3⟩
        rw [List.length_map, g2.1, List.take_length, ← rows_take sorts r.2 k pl hpl] at c2
        exact ⟨⟨_, _, _, _, _, D, cs, rfl, c1, c2⟩, sm3.trans c3⟩
    · rintro σ H3 ⟨⟨b2, b4, b8, b9, b10, rw_, bs, rfl, g1, g2⟩, sm3⟩
      have lq : (intsV r.2).length = r.2.length := by simp [intsV]
      rw [lq, List.take_length] at g2
      have lrows : (rowsOf sorts r.2).length ≤ 256 := rows_bound hs4 4 r.2 p2 (Nat.le_refl 4)
      have lbs : bs.length ≤ 256 := by rw [g2.1]; exact lrows
      have f1'' := sm3 _ _ f1'
      refine ⟨_, rfl, .inl ⟨rfl, _, SqL.of f1''⟩, ?_⟩
      refine ⟨_, rfl, rw_, rfl, ⟨_, SqL.of g1⟩, fun D nD => ?_⟩
      refine lc_it (walk_list (xs := bs.map V.ref)) (fun m H' => ∃ cs : List Addr, H' D = some (.lst (cs.map V.ref)) ∧ AtomsAt K H' cs (((rowsOf sorts r.2).take m).map fun w => (i, w)) ∧ Same H3 H')
        ⟨[], upd_same, ⟨rfl, fun j c w h _ => by simp at h⟩, same_new nD⟩ (fun m H' _ ⟨_, _, _, z⟩ => SqL.of (z _ _ g1)) ?_ ?_
      · rintro m x _ H4 hm ⟨cs, c1, c2, c3⟩ ⟨rfl, hx⟩
        rw [List.getElem?_map] at hx
        obtain ⟨b, hb, rfl⟩ := Option.map_eq_some_iff.mp hx
        have hmr : m < (rowsOf sorts r.2).length := by
          rw [← g2.1]
          exact (List.getElem?_eq_some_iff.mp hb).1
        have hrow : (rowsOf sorts r.2)[m]? = some (rowsOf sorts r.2)[m] := List.getElem?_eq_getElem hmr
        have qrow := g2.2 m b _ hb hrow
        have lcs : cs.length ≤ 256 := by
          rw [c2.1, List.length_map, List.length_take]
          omega
        refine ⟨rfl, yes_ ?_⟩
        refine ⟨_, rfl, _, rfl, two_fits, fun u nu => ?_⟩
        have su : Same H4 (upd H4 u (.tup [.int (i : Nat), .ref b])) := same_new nu
        have eu := su _ _ c1
        refine ⟨cs.map V.ref, eu, by rw [List.length_map]; exact Nat.lt_of_le_of_lt lcs (by decide), cs ++ [u], by rw [upd_same, List.map_append]; rfl, ?_, Same.over nD (c3.trans su)⟩
        have tt := Tups.lst (o := .lst (cs.map V.ref ++ [.ref u])) eu
        rw [List.take_add_one, hrow, List.map_append]
        exact (c2.tups ((Tups.same su).trans tt)).snoc ⟨b, tt _ _ _ (.inl (.inl upd_same)), tt _ _ _ ((c3.trans su).seqT qrow)⟩
      · rintro H4 ⟨cs, c1, c2, c3⟩
        rw [List.length_map, g2.1, List.take_length] at c2
        have e4 := c3 _ _ f1''
        have sm4 := (sm'.trans sm3).trans c3
        have ldl : cs.length ≤ 256 := by rw [c2.1, List.length_map]; exact lrows
        have hfew := hok.few
        have lf : as.length + cs.length ≤ 5000 := by omega
        refine ⟨fo, D, _, _, rfl, rfl, e4, c1, by rw [List.length_map, List.length_map]; exact Nat.le_trans lf (by decide), ?_⟩
        refine ⟨⟨_, _, _, _, _, _, _, _, rfl⟩, Same.over nfo sm4, as ++ cs, by rw [upd_same, List.map_append], ?_, ?_⟩
        · rw [atoms_take sorts L.rels i r hr2]
          exact ((f2'.tups (Tups.same (sm3.trans c3))).append c2).tups (Tups.lst e4)
        · rw [List.length_append]
          omega
  · rintro σ H1 ⟨⟨a2, a4, a5, a6, a7, a8, a9, a10, rfl⟩, sm, as, f1, f2, f3⟩
    refine ⟨_, rfl, fo, _, rfl, .inl ⟨SqL.of f1, fun p np => ?_⟩⟩
    rw [List.length_map, hL3, List.take_length] at f2
    exact q _ p as (sm.trans (same_new np)) (.inl (.inl upd_same)) (f2.tups (Tups.new np))

def sp__law_many (K : PySem.W.Frag) : Sp := fun vs H Q _ => ∃ (t a : Addr) (L : Lg) (sorts : List Nat), vs = [.ref t, .ref a] ∧ LangAt K H t L ∧ SqT K H a (intsV sorts) ∧ sorts.length ≤ 4 ∧
  ∀ (H' : Hp), Same H H' → Q (.int (total sorts L.rels : Int)) H'
theorem cnt_le (sorts : List Nat) (p : Nat) : cnt sorts p ≤ sorts.length := List.length_filter_le _ _
theorem prod_take (sorts places : List Nat) (k p : Nat) (h : places[k]? = some p) : prod sorts (places.take (k + 1)) = prod sorts (places.take k) * cnt sorts p := by
  rw [List.take_add_one, h]
  exact prod_snoc sorts _ p
theorem total_take (sorts : List Nat) (rels : List (Str × List Nat)) (i : Nat) (r : Str × List Nat) (h : rels[i]? = some r) : total sorts (rels.take (i + 1)) = total sorts (rels.take i) + prod sorts r.2 := by
  unfold total
  rw [List.take_add_one, h, List.map_append, List.sum_append]
  simp
set_option maxHeartbeats 2000000 in
theorem ok__law_many (F : Fun K "_law_many" "_law_many" s__law_many f fd) (m_len : mg "len" = none) : FnOk P w K mg base CX0 1 f fd ["language", "sorts"] (sp__law_many K) := by
  refine F.ok sc__law_many (fun vs H Q E h => ?_) (fun cdv A outer s H vs Q E hr h => ?_)
  · obtain ⟨t, a, L, sorts, rfl, _⟩ := h
    rfl
  obtain ⟨t, a, L, sorts, rfl, ⟨rt, rs, hL1, hL2, hL3, hL4⟩, hS, hs4, q⟩ := h
  refine ⟨_, (pss_cons (ps_set (i := 6) sc__law_many.nd rfl (.inl rfl) pe_int)
  (pss_cons (ps_for PassesOwn.never rfl (pi_tup (pe_ix ix_tup (pv 0) pe_int (fun _ _ => rfl))) (pg_tup rfl (pgs_cons (pg_name (i := 2) sc__law_many.nd rfl (.inl rfl)) (pgs_cons (pg_name (i := 4) sc__law_many.nd rfl (.inl rfl)) pgs_nil)))
  (pss_cons (ps_set (i := 5) sc__law_many.nd rfl (.inl rfl) pe_int)
  (pss_cons (ps_for PassesOwn.never rfl (pi_tup (pv 4)) (pg_name (i := 3) sc__law_many.nd rfl (.inr rfl))
  (pss_one (ps_set (i := 5) sc__law_many.nd rfl (.inl rfl) (pe_op op_mul (pv 5) (pe_callB call_len_seq (by rfl) m_len (by decide +kernel) (pa_cons (pe_lc (own := [("sort", 7)]) rfl sc__law_many.nd (pi_tup (pv 1)) (blkOk_by (N := ["language", "sorts", "name", "place", "places", "size", "total", "sort"]) (sc := defScope s__law_many) (by decide +kernel)) (fun _ _ _ _ _ => (pg_name (i := 7) sc__law_many.nd rfl (.inl rfl))) (fun _ _ _ _ _ => (pts_one (pt_cmpR op_eq (pv 7) (pv 3) (nomark _)))) (fun _ _ _ _ _ => (pv 7))) pa_nil))))))
  (pss_one (ps_set (i := 6) sc__law_many.nd rfl (.inl rfl) (pe_op op_add (pv 6) (pv 5)))))))
  (pss_one (ps_ret (pv 6))))), ?_⟩
  refine ⟨_, rfl, t, _, 1, _, rfl, rfl, hL1, rfl, rt, rfl, ⟨_, hL2⟩, ?_⟩
  refine for_tup (xs := rs.map fun p : Addr × Addr => V.ref p.1) (fun i σ H' => (∃ a2 a3 a4 a5 a7 : Option V, σ = [some (.ref t), some (.ref a), a2, a3, a4, a5, some (.int (total sorts (L.rels.take i) : Int)), a7]) ∧ Same H H')
    ⟨⟨_, _, _, _, _, rfl⟩, Same.refl H⟩ (fun i σ H' _ h => h.2.seqT hL2) ?_ ?_
  · rintro i v σ H1 hv ⟨⟨a2, a3, a4, a5, a7, rfl⟩, sm⟩
    rw [List.getElem?_map] at hv
    obtain ⟨p, hp, rfl⟩ := Option.map_eq_some_iff.mp hv
    have hi2 : i < L.rels.length := by rw [← hL3]; exact (List.getElem?_eq_some_iff.mp hp).1
    have hr2 : L.rels[i]? = some L.rels[i] := List.getElem?_eq_getElem hi2
    obtain ⟨z1, z2⟩ := hL4 i p _ hp hr2
    generalize L.rels[i] = r at *
    refine ⟨p.1, _, rfl, sm.seqT z1, rfl, .str r.1, [.ref p.2], rfl, .ref p.2, [], rfl, rfl, ?_⟩
    refine ⟨_, rfl, p.2, rfl, ⟨_, sm.seqT z2⟩, for_tup (xs := intsV r.2) (fun k σ H' => (∃ a3 a7 : Option V, σ = [some (.ref t), some (.ref a), some (.str r.1), a3, some (.ref p.2), some (.int (prod sorts (r.2.take k) : Int)), some (.int (total sorts (L.rels.take i) : Int)), a7]) ∧ Same H1 H')
      ⟨⟨_, _, rfl⟩, Same.refl _⟩ (fun k σ H' _ h => (sm.trans h.2).seqT z2) ?_ ?_⟩
    · rintro k v σ H2 hv ⟨⟨b3, b7, rfl⟩, sm2⟩
      have hx2 : (r.2.map fun n : Nat => V.int (n : Int))[k]? = some v := hv
      rw [List.getElem?_map] at hx2
      obtain ⟨pl, hpl, rfl⟩ := Option.map_eq_some_iff.mp hx2
      have hA : SqT K H2 a (intsV sorts) := (sm.trans sm2).seqT hS
      refine ⟨_, rfl, _, rfl, a, rfl, ⟨_, hA⟩, fun D nD => ?_⟩
      refine lc_it (walk_tup (xs := intsV sorts)) (fun m H' => H' D = some (.lst (((sorts.take m).filter fun x => x == pl).map fun n : Nat => V.int (n : Int))) ∧ Same H2 H')
        ⟨upd_same, same_new nD⟩ (fun m H' _ h => h.2.seqT hA) ?_ ?_
      · rintro m v _ H3 hm ⟨c1, c2⟩ ⟨rfl, hx⟩
        have hx2 : (sorts.map fun n : Nat => V.int (n : Int))[m]? = some v := hx
        rw [List.getElem?_map] at hx2
        obtain ⟨s0, hs0, rfl⟩ := Option.map_eq_some_iff.mp hx2
        refine ⟨rfl, _, rfl, _, rfl, rfl, _, rfl, ite2 (fun e => ?_) (fun e => ?_)⟩
        · have e1 : (s0 : Int) = (pl : Int) := V.int.inj (of_decide_eq_true e)
          have e2 : (s0 == pl) = true := beq_iff_eq.mpr (by omega)
          refine ⟨_, rfl, _, c1, ?_, ?_, Same.over nD c2⟩
          · rw [List.length_map]
            have z := List.length_filter_le (fun x => x == pl) (sorts.take m)
            rw [List.length_take] at z
            exact small1000 (by omega)
          · rw [upd_same, List.take_add_one, hs0, List.filter_append, List.map_append]
            simp [e2]
        · have e2 : (s0 == pl) = false := beq_eq_false_iff_ne.mpr fun z => e (decide_eq_true (by rw [z]))
          refine ⟨?_, c2⟩
          rw [c1, List.take_add_one, hs0, List.filter_append, List.map_append]
          simp [e2]
      · rintro H3 ⟨c1, c2⟩
        have nl : (intsV sorts).length = sorts.length := by simp [intsV]
        rw [nl, List.take_length] at c1
        have hc := cnt_le sorts pl
        have lc : (((sorts.filter fun x => x == pl).map fun n : Nat => V.int (n : Int)).length : Int) = (cnt sorts pl : Int) := by rw [List.length_map]; rfl
        refine ⟨D, _, rfl, .inl (SqL.of c1), _, _, rfl, rfl, .inr ⟨?_, ?_⟩, ?_⟩
        · rw [lc]
          omega
        · rw [lc]
          omega
        · refine ⟨⟨some (.int (pl : Int)), b7, ?_⟩, sm2.trans c2⟩
          have ep : (prod sorts (r.2.take (k + 1)) : Int) = (prod sorts (r.2.take k) : Int) * (((sorts.filter fun x => x == pl).map fun n : Nat => V.int (n : Int)).length : Int) := by
            rw [lc, prod_take sorts r.2 k pl hpl, Int.natCast_mul]
          rw [ep]
          rfl
    · rintro σ H2 ⟨⟨b3, b7, rfl⟩, sm2⟩
      have nl : (intsV r.2).length = r.2.length := by simp [intsV]
      rw [nl, List.take_length]
      refine ⟨_, rfl, _, rfl, _, _, rfl, rfl, ⟨some (.str r.1), b3, some (.ref p.2), some (.int (prod sorts r.2 : Int)), b7, ?_⟩, sm.trans sm2⟩
      have et : (total sorts (L.rels.take (i + 1)) : Int) = (total sorts (L.rels.take i) : Int) + (prod sorts r.2 : Int) := by
        rw [total_take sorts L.rels i r hr2, Int.natCast_add]
      rw [et]
      rfl
  · rintro σ H1 ⟨⟨a2, a3, a4, a5, a7, rfl⟩, sm⟩
    rw [List.length_map, hL3, List.take_length]
    exact ⟨_, rfl, q _ sm⟩

def sp__law_is_number (K : PySem.W.Frag) : Sp := fun vs H Q _ => ∃ (n m : Int), vs = [.int n, .int m] ∧ 0 ≤ n ∧ n < m ∧ Q (.bl true) H
theorem ok__law_is_number (F : Fun K "_law_is_number" "_law_is_number" s__law_is_number f fd) (m_isinstance : mg "isinstance" = none) (m_int : mg "int" = none) (m_bool : mg "bool" = none) : FnOk P w K mg base CX0 1 f fd ["value", "limit"] (sp__law_is_number K) := by
  refine F.ok sc__law_is_number (fun vs H Q E h => ?_) (fun cdv A outer s H vs Q E hr h => ?_)
  · obtain ⟨n, m, rfl, _⟩ := h
    rfl
  obtain ⟨n, m, rfl, h0, h1, q⟩ := h
  refine ⟨_, (pss_one (ps_ret (pe_and (pe_callB call_isi (by rfl) m_isinstance (by decide +kernel) (pa_cons (pv 0) (pa_cons (pe_bltn (v := .ty "int") (by rfl) m_int (by decide +kernel) rfl) pa_nil))) (pe_and (pe_not (pe_callB call_isi (by rfl) m_isinstance (by decide +kernel) (pa_cons (pv 0) (pa_cons (pe_bltn (v := .ty "bool") (by rfl) m_bool (by decide +kernel) rfl) pa_nil)))) (pe_and (pe_cmpR op_ge (pv 0) pe_int (nomark _)) (pe_one (pe_cmpR op_lt (pv 0) (pv 1) (nomark _)))))))), ?_⟩
  refine ⟨_, rfl, _, _, _, _, true, rfl, .ty _, .base (.int n), kit_ty (by decide +kernel), _, rfl, iteT ?_⟩
  refine ⟨_, rfl, _, _, _, _, false, rfl, .ty _, .base (.int n), kit_ty (by decide +kernel), _, rfl, _, rfl, iteT ?_⟩
  refine ⟨_, rfl, _, _, rfl, rfl, true, congrArg V.bl (decide_eq_true h0), iteT ?_⟩
  refine ⟨_, rfl, _, rfl, _, _, rfl, rfl, ?_⟩
  show Q (.bl (decide (n < m))) H
  rw [decide_eq_true h1]
  exact q

def sp__law_is_atom (K : PySem.W.Frag) : Sp := fun vs H Q _ => ∃ (t a o b : Addr) (L : Lg) (sorts : List Nat) (x : Nat × List Nat), vs = [.ref t, .ref a, .ref o] ∧ LangAt K H t L ∧ LgOk L ∧ SqT K H a (intsV sorts) ∧ AtomOk L.rels sorts x ∧
  SqT K H o [.int (x.1 : Int), .ref b] ∧ SqT K H b (intsV x.2) ∧ ∀ H', Same H H' → Q (.bl true) H'
set_option maxHeartbeats 2000000 in
theorem ok__law_is_atom (F : Fun K "_law_is_atom" "_law_is_atom" s__law_is_atom f fd) (C__law_is_number : Cal P w K mg base 1 "_law_is_number" s__law_is_number ["value", "limit"] (sp__law_is_number K)) (m_range : mg "range" = none) (m_len : mg "len" = none) (m_isinstance : mg "isinstance" = none) (m_tuple : mg "tuple" = none) : FnOk P w K mg base CX0 2 f fd ["language", "sorts", "one"] (sp__law_is_atom K) := by
  refine F.ok sc__law_is_atom (fun vs H Q E h => ?_) (fun cdv A outer s H vs Q E hr h => ?_)
  · obtain ⟨t, a, o, b, L, sorts, x, rfl, _⟩ := h
    rfl
  obtain ⟨t, a, o, b, L, sorts, x, rfl, ⟨rt, rs, hL1, hL2, hL3, hL4⟩, hok, hS, ⟨r, hr1, hr2, hr3⟩, hO, hB, q⟩ := h
  have hx1 : x.1 < L.rels.length := (List.getElem?_eq_some_iff.mp hr1).1
  have hrs : x.1 < rs.length := by omega
  have hp : rs[x.1]? = some rs[x.1] := List.getElem?_eq_getElem hrs
  obtain ⟨z1, z2⟩ := hL4 x.1 _ r hp hr1
  generalize rs[x.1] = p at *
  have hat : atI (rs.map fun p => V.ref p.1) (x.1 : Int) = some (.ref p.1) := atI_nat (by rw [List.getElem?_map, hp]; rfl)
  have p4 := (hok.pl r (List.mem_of_getElem? hr1)).2.1
  refine ⟨_, (pss_cons (ps_if (PW.pt (pw_or (pt_not (pt_val (pe_callB call_isi (by rfl) m_isinstance (by decide +kernel) (pa_cons (pv 2) (pa_cons (pe_bltn (v := .ty "tuple") (by rfl) m_tuple (by decide +kernel) rfl) pa_nil))))) (pw_or (pt_cmpR op_ne (pe_callB call_len_seq (by rfl) m_len (by decide +kernel) (pa_cons (pv 2) pa_nil)) pe_int (nomark _)) (pw_or1 (pt_not (pt_val (pe_cal C__law_is_number hr (by first | decide | exact Nat.le_refl _) (by rfl) (pa_cons (pe_ix ix_tup (pv 2) pe_int (fun _ _ => rfl)) (pa_cons (pe_callB call_len_seq (by rfl) m_len (by decide +kernel) (pa_cons (pe_ix ix_tup (pv 0) pe_int (fun _ _ => rfl)) pa_nil)) pa_nil)))))))))
  (pss_one (ps_ret pe_bl)) pss_nil)
  (pss_cons (ps_set (i := 4) sc__law_is_atom.nd rfl (.inl rfl) (pe_ix ix_tup (pe_ix ix_tup (pe_ix ix_tup (pv 0) pe_int (fun _ _ => rfl)) (pe_ix ix_tup (pv 2) pe_int (fun _ _ => rfl)) (fun _ _ => rfl)) pe_int (fun _ _ => rfl)))
  (pss_cons (ps_if (PW.pt (pw_or (pt_not (pt_val (pe_callB call_isi (by rfl) m_isinstance (by decide +kernel) (pa_cons (pe_ix ix_tup (pv 2) pe_int (fun _ _ => rfl)) (pa_cons (pe_bltn (v := .ty "tuple") (by rfl) m_tuple (by decide +kernel) rfl) pa_nil))))) (pw_or1 (pt_cmpR op_ne (pe_callB call_len_seq (by rfl) m_len (by decide +kernel) (pa_cons (pe_ix ix_tup (pv 2) pe_int (fun _ _ => rfl)) pa_nil)) (pe_callB call_len_seq (by rfl) m_len (by decide +kernel) (pa_cons (pv 4) pa_nil)) (nomark _)))))
  (pss_one (ps_ret pe_bl)) pss_nil)
  (pss_cons (ps_for PassesOwn.never rfl (pi_range1 (by rfl) m_range (pa_cons (pe_callB call_len_seq (by rfl) m_len (by decide +kernel) (pa_cons (pv 4) pa_nil)) pa_nil)) (pg_name (i := 3) sc__law_is_atom.nd rfl (.inl rfl))
  (pss_one (ps_if (PW.pt (pw_or (pt_not (pt_val (pe_cal C__law_is_number hr (by first | decide | exact Nat.le_refl _) (by rfl) (pa_cons (pe_ix ix_tup (pe_ix ix_tup (pv 2) pe_int (fun _ _ => rfl)) (pv 3) (fun _ _ => rfl)) (pa_cons (pe_callB call_len_seq (by rfl) m_len (by decide +kernel) (pa_cons (pv 1) pa_nil)) pa_nil))))) (pw_or1 (pt_cmpR op_ne (pe_ix ix_tup (pv 1) (pe_ix ix_tup (pe_ix ix_tup (pv 2) pe_int (fun _ _ => rfl)) (pv 3) (fun _ _ => rfl)) (fun _ _ => rfl)) (pe_ix ix_tup (pv 4) (pv 3) (fun _ _ => rfl)) (nomark _)))))
  (pss_one (ps_ret pe_bl)) pss_nil)))
  (pss_one (ps_ret pe_bl)))))), ?_⟩
  refine ⟨_, rfl, _, _, _, _, true, rfl, .ty _, SqT.ty hO, kit_ty (by decide +kernel), _, rfl, iteF ?_⟩
  refine ⟨_, rfl, o, _, rfl, .inr hO, rfl, _, rfl, iteF ?_⟩
  refine ⟨_, rfl, o, _, 0, _, rfl, rfl, hO, rfl, _, rfl, t, _, 1, _, rfl, rfl, hL1, rfl, rt, _, rfl, .inr hL2, _, _, rfl, by omega, by rw [List.length_map]; omega, _, rfl, iteF ?_⟩
  refine ⟨_, rfl, t, _, 1, _, rfl, rfl, hL1, rfl, _, rfl, o, _, 0, _, rfl, rfl, hO, rfl, rt, _, _, _, rfl, rfl, hL2, hat, p.1, _, 1, _, rfl, rfl, z1, rfl, ?_⟩
  have nb : (intsV x.2).length = r.2.length := by simp [intsV, hr2]
  have np : (intsV r.2).length = r.2.length := by simp [intsV]
  have ns : (intsV sorts).length = sorts.length := by simp [intsV]
  refine ⟨_, rfl, o, _, 1, _, rfl, rfl, hO, rfl, _, _, _, _, true, rfl, .ty _, SqT.ty hB, kit_ty (by decide +kernel), _, rfl, iteF ?_⟩
  refine ⟨_, rfl, o, _, 1, _, rfl, rfl, hO, rfl, b, _, rfl, .inr hB, _, rfl, p.2, _, rfl, .inr z2, rfl, _, rfl, iteNS (by rw [nb, np]) ?_⟩
  refine ⟨_, rfl, p.2, _, rfl, .inr z2, _, rfl, by omega, by omega, ?_⟩
  have tn : (((intsV r.2).length : Nat) : Int).toNat = r.2.length := by omega
  rw [tn]
  refine for_range (n := r.2.length) (fun k σ H' => (∃ a3 : Option V, σ = [some (.ref t), some (.ref a), some (.ref o), a3, some (.ref p.2)]) ∧ Same H H') ⟨⟨_, rfl⟩, Same.refl H⟩ ?_ ?_
  · rintro k σ H1 hk ⟨⟨a3, rfl⟩, sm⟩
    have hk2 : k < x.2.length := by omega
    have hxk : x.2[k]? = some x.2[k] := List.getElem?_eq_getElem hk2
    obtain ⟨s1, s2⟩ := hr3 k _ hxk
    generalize x.2[k] = sl at *
    have hrk : r.2[k]? = some r.2[k] := List.getElem?_eq_getElem hk
    generalize r.2[k] = pk at *
    have e0 : (0 : Int) + (k : Nat) = (k : Nat) := by omega
    have h1 : atI (intsV x.2) ((0 : Int) + (k : Nat)) = some (.int (sl : Int)) := by rw [e0]; exact atI_nat (by simp [intsV, hxk])
    have h2 : atI (intsV sorts) (sl : Int) = some (.int (pk : Int)) := atI_nat (by simp [intsV, s2, hrk])
    have h3 : atI (intsV r.2) ((0 : Int) + (k : Nat)) = some (.int (pk : Int)) := by rw [e0]; exact atI_nat (by simp [intsV, hrk])
    have hO' := sm.seqT hO
    have hB' := sm.seqT hB
    have hS' := sm.seqT hS
    have z2' := sm.seqT z2
    refine ⟨_, rfl, o, _, 1, _, rfl, rfl, hO', rfl, _, rfl, b, _, _, _, rfl, rfl, hB', h1, _, rfl, a, _, rfl, .inr hS', _, _, rfl, by omega, by omega, _, rfl, iteF ?_⟩
    refine ⟨_, rfl, _, rfl, o, _, 1, _, rfl, rfl, hO', rfl, _, rfl, b, _, _, _, rfl, rfl, hB', h1, a, _, _, _, rfl, rfl, hS', h2, _, rfl, _, rfl, p.2, _, _, _, rfl, rfl, z2', h3, rfl, _, rfl, iteNS rfl ?_⟩
    exact ⟨⟨_, rfl⟩, sm⟩
  · rintro σ H1 ⟨⟨a3, rfl⟩, sm⟩
    exact q _ sm

def sp__law_is_told (K : PySem.W.Frag) : Sp := fun vs H Q _ => ∃ (t a p : Addr) (as : List Addr) (L : Lg) (sorts : List Nat), vs = [.ref t, .ref a, .ref p] ∧ LangAt K H t L ∧ LgOk L ∧ SqT K H a (intsV sorts) ∧ sorts.length ≤ 4 ∧
  SqT K H p (as.map V.ref) ∧ AtomsAt K H as (atomsOf L sorts) ∧ ∀ H', Same H H' → Q (.bl true) H'
set_option maxHeartbeats 2000000 in
theorem ok__law_is_told (F : Fun K "_law_is_told" "_law_is_told" s__law_is_told f fd) (C__law_many : Cal P w K mg base 1 "_law_many" s__law_many ["language", "sorts"] (sp__law_many K)) (C__law_is_atom : Cal P w K mg base 2 "_law_is_atom" s__law_is_atom ["language", "sorts", "one"] (sp__law_is_atom K)) (m_range : mg "range" = none) (m_len : mg "len" = none) (m_isinstance : mg "isinstance" = none) (m_tuple : mg "tuple" = none) : FnOk P w K mg base CX0 3 f fd ["language", "sorts", "told"] (sp__law_is_told K) := by
  refine F.ok sc__law_is_told (fun vs H Q E h => ?_) (fun cdv A outer s H vs Q E hr h => ?_)
  · obtain ⟨t, a, p, as, L, sorts, rfl, _⟩ := h
    rfl
  obtain ⟨t, a, p, as, L, sorts, rfl, hL, hok, hS, hs4, hp, ha, q⟩ := h
  have hcount : (atomsOf L sorts).length = total sorts L.rels := atoms_count sorts L.rels 0
  have hbound := atoms_bound hs4 L.rels 0 fun r hr => (hok.pl r hr).2.1
  have hfew := hok.few
  have hla : (as.map V.ref).length = total sorts L.rels := by rw [List.length_map, ha.1, hcount]
  have hup := (atoms_up sorts L.rels 0).1
  have lbig : total sorts L.rels ≤ 5000 := by
    rw [← hcount]
    unfold atomsOf
    omega
  refine ⟨_, (pss_cons (ps_if (PW.pt (pw_or (pt_not (pt_val (pe_callB call_isi (by rfl) m_isinstance (by decide +kernel) (pa_cons (pv 2) (pa_cons (pe_bltn (v := .ty "tuple") (by rfl) m_tuple (by decide +kernel) rfl) pa_nil))))) (pw_or1 (pt_cmpR op_ne (pe_callB call_len_seq (by rfl) m_len (by decide +kernel) (pa_cons (pv 2) pa_nil)) (pe_cal C__law_many hr (by first | decide | exact Nat.le_refl _) (by rfl) (pa_cons (pv 0) (pa_cons (pv 1) pa_nil))) (nomark _)))))
  (pss_one (ps_ret pe_bl)) pss_nil)
  (pss_cons (ps_for PassesOwn.never rfl (pi_range1 (by rfl) m_range (pa_cons (pe_callB call_len_seq (by rfl) m_len (by decide +kernel) (pa_cons (pv 2) pa_nil)) pa_nil)) (pg_name (i := 3) sc__law_is_told.nd rfl (.inl rfl))
  (pss_one (ps_if (PW.pt (pw_or (pt_not (pt_val (pe_cal C__law_is_atom hr (by first | decide | exact Nat.le_refl _) (by rfl) (pa_cons (pv 0) (pa_cons (pv 1) (pa_cons (pe_ix ix_tup (pv 2) (pv 3) (fun _ _ => rfl)) pa_nil)))))) (pw_or1 (PW.pt (pw_and (pt_cmpR op_gt (pv 3) pe_int (nomark _)) (pw_and1 (pt_not (pt_cmpR (op_ltD hr.units) (pe_ix ix_tup (pv 2) (pe_op op_sub (pv 3) pe_int) (fun _ _ => rfl)) (pe_ix ix_tup (pv 2) (pv 3) (fun _ _ => rfl)) (nomark _)))))))))
  (pss_one (ps_ret pe_bl)) pss_nil)))
  (pss_one (ps_ret pe_bl)))), ?_⟩
  refine ⟨_, rfl, _, _, _, _, true, rfl, .ty _, SqT.ty hp, kit_ty (by decide +kernel), _, rfl, iteF ?_⟩
  refine ⟨_, rfl, p, _, rfl, .inr hp, _, rfl, _, rfl, t, a, L, sorts, rfl, hL, hS, hs4, fun H1 sm1 => ⟨rfl, _, rfl, iteNS (by rw [hla]) ?_⟩⟩
  refine ⟨_, rfl, p, _, rfl, .inr (sm1.seqT hp), _, rfl, by omega, by omega, ?_⟩
  have tn : (((as.map V.ref).length : Nat) : Int).toNat = (atomsOf L sorts).length := by omega
  rw [tn]
  refine for_range (n := (atomsOf L sorts).length) (fun k σ H' => (∃ a3 : Option V, σ = [some (.ref t), some (.ref a), some (.ref p), a3]) ∧ Same H H') ⟨⟨_, rfl⟩, sm1⟩ ?_ ?_
  · rintro k σ H2 hk ⟨⟨a3, rfl⟩, sm⟩
    have e0 : (0 : Int) + (k : Nat) = (k : Nat) := by omega
    have hlk : k < as.length := by rw [ha.1]; exact hk
    have hak : as[k]? = some as[k] := List.getElem?_eq_getElem hlk
    have hxk : (atomsOf L sorts)[k]? = some (atomsOf L sorts)[k] := List.getElem?_eq_getElem hk
    obtain ⟨b, z1, z2⟩ := ha.2 k _ _ hak hxk
    have hok2 := (atoms_ok sorts L.rels [] _ (List.getElem_mem hk)).1
    have h1 : atI (as.map V.ref) ((0 : Int) + (k : Nat)) = some (.ref as[k]) := by rw [e0]; exact atI_nat (by rw [List.getElem?_map, hak]; rfl)
    refine ⟨_, rfl, _, rfl, _, rfl, _, rfl, p, _, _, _, rfl, rfl, sm.seqT hp, h1, ?_⟩
    refine ⟨t, a, as[k], b, L, sorts, _, rfl, hL.same sm, hok, sm.seqT hS, hok2, sm.seqT z1, sm.seqT z2, fun H3 sm3 => ⟨_, rfl, iteF ?_⟩⟩
    have sm' := sm.trans sm3
    refine ⟨_, rfl, _, _, rfl, rfl, _, rfl, ite2 (fun e => ?_) (fun e => ?_)⟩
    · have hk0 : 0 < k := by
        have z : (0 : Int) < 0 + (k : Nat) := of_decide_eq_true e
        omega
      have hk1 : k - 1 < (atomsOf L sorts).length := by omega
      have hak1 : as[k - 1]? = some as[k - 1] := List.getElem?_eq_getElem (by omega)
      obtain ⟨b', y1, y2⟩ := ha.2 (k - 1) _ _ hak1 (List.getElem?_eq_getElem hk1)
      have e1 : (0 : Int) + (k : Nat) - 1 = ((k - 1 : Nat) : Int) := by omega
      have h2 : atI (as.map V.ref) ((0 : Int) + (k : Nat) - 1) = some (.ref as[k - 1]) := by rw [e1]; exact atI_nat (by rw [List.getElem?_map, hak1]; rfl)
      have lt : PySem.W.dataLt (atomD (atomsOf L sorts)[k - 1]) (atomD (atomsOf L sorts)[k]) = true := ahead_lt (List.pairwise_iff_getElem.mp hup (k - 1) k hk1 hk (by omega))
      refine ⟨_, rfl, _, rfl, _, _, rfl, rfl, p, _, _, _, rfl, rfl, sm'.seqT hp, h2, _, rfl, _, rfl, p, _, _, _, rfl, rfl, sm'.seqT hp, h1,
        _, _, ⟨atom_dp (sm'.seqT y1) (sm'.seqT y2), atom_dp (sm'.seqT z1) (sm'.seqT z2)⟩, alike_atoms _ _, ⟨fun e => (by cases e), depth_atom _⟩, _, rfl, ?_⟩
      rw [lt]
      exact ⟨⟨_, rfl⟩, sm'⟩
    · exact ⟨⟨_, rfl⟩, sm'⟩
  · rintro σ H2 ⟨⟨a3, rfl⟩, sm⟩
    exact q _ sm

theorem kb_row_atoms_sorts_language : KwB s_row_atoms ["language", "sorts"] ["sorts", "language"] (fun {α} (l : List α) => match l with | [x, y] => [y, x] | l => l) where
  to := fun x qual kV doc pm an cdv ct ws hl => match ws, hl with | [_, _], _ => rfl
  rel := fun {zs ws} hl r => by
    match zs, hl with
    | [a, b], _ =>
      obtain ⟨u1, u2, rfl, r1, r2⟩ := vals2 r
      exact .cons r2 (.cons r1 .nil)
def ItemAt (K : PySem.W.Frag) (H : Hp) (l : Addr) : Prop := ∃ (t a p : Addr) (L : Lg) (sorts : List Nat), H l = some (.lst [.ref t, .ref a, .ref p]) ∧ LangAt K H t L ∧ LgOk L ∧ SqT K H a (intsV sorts) ∧ sorts.length ≤ 4 ∧
  ∃ as, SqT K H p (as.map V.ref) ∧ AtomsAt K H as (atomsOf L sorts)
theorem ItemAt.keep {K : PySem.W.Frag} {H H' : Hp} {l : Addr} (t : Tups H H') (e : ∀ o, H l = some o → H' l = some o) (h : ItemAt K H l) : ItemAt K H' l := by
  obtain ⟨t1, a, p, L, sorts, h1, h2, h3, h4, h5, as, h6, h7⟩ := h
  exact ⟨t1, a, p, L, sorts, e _ h1, h2.keep (t K), h3, t _ _ _ h4, h5, as, t _ _ _ h6, h7.tups t⟩
theorem menu_ok : ∀ v ∈ [V.int 0, V.int 1, V.int 2, V.int 3, V.int 4, V.int 5, V.int 6, V.int 3, V.int 2, V.int 16], ∃ x : Nat, v = .int (x : Int) ∧ x ≤ 16 := by
  intro v hv
  simp only [List.mem_cons, List.mem_singleton, List.not_mem_nil, or_false] at hv
  rcases hv with rfl | rfl | rfl | rfl | rfl | rfl | rfl | rfl | rfl | rfl
  · exact ⟨0, rfl, by omega⟩
  · exact ⟨1, rfl, by omega⟩
  · exact ⟨2, rfl, by omega⟩
  · exact ⟨3, rfl, by omega⟩
  · exact ⟨4, rfl, by omega⟩
  · exact ⟨5, rfl, by omega⟩
  · exact ⟨6, rfl, by omega⟩
  · exact ⟨3, rfl, by omega⟩
  · exact ⟨2, rfl, by omega⟩
  · exact ⟨16, rfl, by omega⟩
/-- what is asked so far -/
def Asked (K : PySem.W.Frag) (st ak : Addr) (n : Nat) (H : Hp) : Prop := ∃ items : List Addr, H ak = some (.lst (items.map V.ref)) ∧ items.length ≤ n ∧ ∀ l ∈ items, ItemAt K H l ∧ l ≠ ak ∧ l ≠ st
theorem Asked.keep {K : PySem.W.Frag} {st ak : Addr} {n : Nat} {H H' : Hp} (hak : ak ≠ st) (t : Tups H H') (k : Kept st H H') (h : Asked K st ak n H) : Asked K st ak n H' := by
  obtain ⟨items, h1, h2, h3⟩ := h
  exact ⟨items, k _ _ hak h1, h2, fun l hl => ⟨(h3 l hl).1.keep t fun o e => k _ _ (h3 l hl).2.2 e, (h3 l hl).2⟩⟩
def sp_law (K : PySem.W.Frag) : Sp := fun vs H Q _ => ∃ (a : Addr) (ns : List Int), vs = [.ref a] ∧ SqL K H a (ns.map V.int) ∧ ns.length ≤ 63 ∧ ∀ H', Q (.bl true) H'
set_option maxHeartbeats 4000000 in
theorem ok_law (F : Fun K "law" "law" s_law f fd) (C__law_start : Cal P w K mg base 2 "_law_start" s__law_start ["script"] (sp__law_start K)) (C__law_language : Cal P w K mg base 3 "_law_language" s__law_language ["state", "many"] (sp__law_language K)) (C_row_atoms : Cal P w K mg base 1 "row_atoms" s_row_atoms ["language", "sorts"] (sp_row_atoms K)) (C__law_same : Cal P w K mg base 8 "_law_same" s__law_same ["actual", "due"] (sp__law_same K)) (C__law_take : Cal P w K mg base 2 "_law_take" s__law_take ["state", "limit"] (sp__law_take K)) (C__law_is_told : Cal P w K mg base 3 "_law_is_told" s__law_is_told ["language", "sorts", "told"] (sp__law_is_told K)) (m_range : mg "range" = none) (m_tuple : mg "tuple" = none) (m_list : mg "list" = none) : FnOk P w K mg base CX0 9 f fd ["script"] (sp_law K) := by
  refine F.ok sc_law (fun vs H Q E h => ?_) (fun cdv A outer s H vs Q E hr h => ?_)
  · obtain ⟨a, ns, rfl, _⟩ := h
    rfl
  obtain ⟨a, ns, rfl, hS, h63, q⟩ := h
  refine ⟨_, (pss_cons (ps_set (i := 6) sc_law.nd rfl (.inr rfl) (pe_cal C__law_start hr (by first | decide | exact Nat.le_refl _) (by rfl) (pa_cons (pv 0) pa_nil)))
  (pss_cons (ps_set (i := 2) sc_law.nd rfl (.inl rfl) (pe_lst pa_nil))
  (pss_cons (ps_for PassesOwn.never rfl (pi_range1 (by rfl) m_range (pa_cons pe_int pa_nil)) (pg_name (i := 8) sc_law.nd rfl (.inl rfl))
  (pss_cons (ps_set (i := 4) sc_law.nd rfl (.inr rfl) (pe_cal C__law_language hr (by first | decide | exact Nat.le_refl _) (by rfl) (pa_cons (pv 6) (pa_cons (pe_ix ix_list (pe_lst (pa_cons pe_int (pa_cons pe_int (pa_cons pe_int (pa_cons pe_int (pa_cons pe_int (pa_cons pe_int (pa_cons pe_int (pa_cons pe_int (pa_cons pe_int (pa_cons pe_int pa_nil))))))))))) (pe_cal C__law_take hr (by first | decide | exact Nat.le_refl _) (by rfl) (pa_cons (pv 6) (pa_cons pe_int pa_nil))) (fun _ _ => rfl)) pa_nil))))
  (pss_cons (ps_for PassesOwn.never rfl (pi_range1 (by rfl) m_range (pa_cons pe_int pa_nil)) (pg_name (i := 1) sc_law.nd rfl (.inl rfl))
  (pss_cons (ps_set (i := 5) sc_law.nd rfl (.inl rfl) (pe_callTy call_tuple_of (by rfl) m_tuple (by decide +kernel) (pa_cons (pe_lc (own := [("k", 9)]) rfl sc_law.nd (pi_range1 (by rfl) m_range (pa_cons (pe_op op_add pe_int (pe_cal C__law_take hr (by first | decide | exact Nat.le_refl _) (by rfl) (pa_cons (pv 6) (pa_cons pe_int pa_nil)))) pa_nil)) (blkOk_by (N := ["script", "again", "asked", "kept", "language", "sorts", "state", "told", "turn", "k", "one"]) (sc := defScope s_law) (by decide +kernel)) (fun _ _ _ _ _ => (pg_name (i := 9) sc_law.nd rfl (.inl rfl))) (fun _ _ _ _ _ => pts_nil) (fun _ _ _ _ _ => (pe_cal C__law_take hr (by first | decide | exact Nat.le_refl _) (by rfl) (pa_cons (pv 6) (pa_cons (pe_ix (ix_tupK K rfl) (pv 4) pe_int (fun _ _ => rfl)) pa_nil))))) pa_nil)))
  (pss_cons (ps_set (i := 7) sc_law.nd rfl (.inl rfl) (pe_cal C_row_atoms hr (by first | decide | exact Nat.le_refl _) (by rfl) (pa_cons (pv 4) (pa_cons (pv 5) pa_nil))))
  (pss_one (ps_if (pt_not (pt_val (pe_cal C__law_is_told hr (by first | decide | exact Nat.le_refl _) (by rfl) (pa_cons (pv 4) (pa_cons (pv 5) (pa_cons (pv 7) pa_nil))))))
  (pss_one (ps_ret pe_bl)) pss_nil)))))
  (pss_one (ps_expr (pe_bm PySem.F.plainAttrs_list PySem.F.slot_list_append PySem.F.type_list_append mt_append (pv 2) (pa_cons (pe_lst (pa_cons (pv 4) (pa_cons (pv 5) (pa_cons (pe_callTy call_tuple_of (by rfl) m_tuple (by decide +kernel) (pa_cons (pe_lc (own := [("one", 10)]) rfl sc_law.nd (pi_tup (pv 7)) (blkOk_by (N := ["script", "again", "asked", "kept", "language", "sorts", "state", "told", "turn", "k", "one"]) (sc := defScope s_law) (by decide +kernel)) (fun _ _ _ _ _ => (pg_name (i := 10) sc_law.nd rfl (.inl rfl))) (fun _ _ _ _ _ => pts_nil) (fun _ _ _ _ _ => (pe_tup (pa_cons (pe_ix (ix_tupK K rfl) (pv 10) pe_int (fun _ _ => rfl)) (pa_cons (pe_callTy (call_tuple_ofK K rfl) (by rfl) m_tuple (by decide +kernel) (pa_cons (pe_callTy (call_list_ofK K rfl) (by rfl) m_list (by decide +kernel) (pa_cons (pe_ix (ix_tupK K rfl) (pv 10) pe_int (fun _ _ => rfl)) pa_nil)) pa_nil)) pa_nil))))) pa_nil)) pa_nil)))) pa_nil)))))))
  (pss_cons (ps_for PassesOwn.never rfl (pi_list (pv 2)) (pg_lst rfl (pgs_cons (pg_name (i := 4) sc_law.nd rfl (.inr rfl)) (pgs_cons (pg_name (i := 5) sc_law.nd rfl (.inl rfl)) (pgs_cons (pg_name (i := 3) sc_law.nd rfl (.inl rfl)) pgs_nil))))
  (pss_one (ps_if (pt_not (pt_val (pe_cal C__law_same hr (by first | decide | exact Nat.le_refl _) (by rfl) (pa_cons (pe_calK C_row_atoms hr (by first | decide | exact Nat.le_refl _) (by rfl) kb_row_atoms_sorts_language (pk_cons (pv 5) (pk_cons (pv 4) pk_nil))) (pa_cons (pv 3) pa_nil)))))
  (pss_one (ps_ret pe_bl)) pss_nil)))
  (pss_one (ps_ret pe_bl)))))), ?_⟩
  refine ⟨_, rfl, a, ns, rfl, hS, h63, fun st c H1 sm1 nst nc s1 => ?_⟩
  have W := drw st c ns
  refine ⟨Nat.zero_le _, fun ak nak => ?_⟩
  have nas := (W.fresh _ _ s1 nak).1
  have putk := (W.fresh _ _ s1 nak).2
  have s2 := W.new (o := .lst ([] : List V)) s1 nak
  refine ⟨_, rfl, by decide, by decide, for_range (n := 2) (fun i σ H' => (∃ a1 a3 a4 a5 a7 a8 a9 a10 : Option V, σ = [some (.ref a), a1, some (.ref ak), a3, a4, a5, some (.ref st), a7, a8, a9, a10]) ∧ StAt st c ns H' ∧ Asked K st ak i H')
    ⟨⟨_, _, _, _, _, _, _, _, rfl⟩, s2, [], upd_same, Nat.zero_le _, by simp⟩ ?_ ?_⟩
  · rintro i σ H2 hi ⟨⟨a1, a3, a4, a5, a7, a8, a9, a10, rfl⟩, s3, hask⟩
    -- language
    refine ⟨_, rfl, show 10 ≤ sizeLine by decide, fun l nl => ?_⟩
    have nls := (W.fresh _ _ s3 nl).1
    have k4 := Kept.new (st := st) (o := .lst [V.int 0, V.int 1, V.int 2, V.int 3, V.int 4, V.int 5, V.int 6, V.int 3, V.int 2, V.int 16]) nl
    have s4 := W.new (o := .lst [V.int 0, V.int 1, V.int 2, V.int 3, V.int 4, V.int 5, V.int 6, V.int 3, V.int 2, V.int 16]) s3 nl
    refine ⟨_, rfl, st, c, ns, 10, rfl, s4, by decide, by decide, fun d H3 d0 d1 k5 s5 => ?_⟩
    obtain ⟨mv, hat, hmv⟩ := atI_pick (l := [V.int 0, V.int 1, V.int 2, V.int 3, V.int 4, V.int 5, V.int 6, V.int 3, V.int 2, V.int 16]) d0 (by exact d1)
    obtain ⟨m, rfl, hm⟩ := menu_ok mv hmv
    refine ⟨l, _, d, _, rfl, rfl, SqL.of (k5 _ _ nls upd_same), hat, st, c, ns, m, rfl, s5, hm, fun t L H4 hok hlen k6 s6 hL => ?_⟩
    have kk := (k4.trans k5).trans k6
    have hask2 := hask.keep nas (W.tups s3 kk) kk
    clear hat hmv k4 k5 k6 s4 s5 nls nl hask kk
    -- three rows of sorts
    refine ⟨_, rfl, by decide, by decide, for_range (n := 3) (fun j σ H' => (∃ a1 a3 a5 a7 a8 a9 a10 : Option V, σ = [some (.ref a), a1, some (.ref ak), a3, some (.ref t), a5, some (.ref st), a7, a8, a9, a10] ∧
        (1 ≤ j → ∃ (sa p : Addr) (as : List Addr) (sorts : List Nat), a5 = some (.ref sa) ∧ a7 = some (.ref p) ∧ SqT K H' sa (intsV sorts) ∧ sorts.length ≤ 4 ∧ SqT K H' p (as.map V.ref) ∧ AtomsAt K H' as (atomsOf L sorts))) ∧
        StAt st c ns H' ∧ Asked K st ak i H' ∧ LangAt K H' t L)
      ⟨⟨_, _, _, _, _, _, _, rfl, fun e => by omega⟩, s6, hask2, hL⟩ ?_ ?_⟩
    · rintro j σ H5 hj ⟨⟨a1, a3, a5, a7, a8, a9, a10, rfl, _⟩, s7, hask3, hL3⟩
      obtain ⟨rt, rs, g1, g2⟩ := id hL3
      refine ⟨_, rfl, st, c, ns, 4, rfl, s7, by decide, by decide, fun d H6 d0 d1 k8 s8 => ?_⟩
      obtain ⟨n, hn⟩ : ∃ n : Nat, (1 + d).toNat = n := ⟨_, rfl⟩
      refine ⟨_, _, rfl, rfl, _, rfl, by omega, by omega, ?_⟩
      rw [hn]
      intro D nD
      have tt := W.tups s7 k8
      refine lc_draw W (fun _ v => Nums L.sorts v) (fun _ _ _ _ h => h) (by omega) s8 nD (fun _ => rfl) ?_ ?_
      · intro m' H7 hm' s9 k9 R hR
        have lo := hok.lo
        have hi' := hok.hi
        refine ⟨_, rfl, _, rfl, t, _, 0, _, rfl, rfl, W.seqT s8 k9 (tt _ _ _ g1), rfl, st, c, ns, _, rfl, s9, by omega, by omega, fun d' H8 h0 h1 k10 s10 => hR _ _ ?_ k10 s10⟩
        obtain ⟨x, rfl⟩ := Int.eq_ofNat_of_zero_le h0
        exact ⟨x, rfl, by omega⟩
      intro H7 xs l7 o7 e7 k9 s9
      obtain ⟨sorts, rfl, sb⟩ := nums_ints o7
      have ls : sorts.length ≤ 4 := by
        have z : sorts.length = n := by simpa [intsV] using l7
        omega
      have k10 := k8.trans k9
      have tt2 := W.tups s7 k10
      have hask4 := hask3.keep nas tt2 k10
      refine ⟨D, _, rfl, .inl ⟨SqL.of e7, fun sa nsa => ?_⟩⟩
      have smA : Same H7 (upd H7 sa (.tup (intsV sorts))) := same_new nsa
      have qA : SqT K (upd H7 sa (.tup (intsV sorts))) sa (intsV sorts) := .inl (.inl upd_same)
      have hL4 : LangAt K (upd H7 sa (.tup (intsV sorts))) t L := (hL3.keep (tt2 K)).same smA
      have s10 := W.new (o := .tup (intsV sorts)) s9 nsa
      have hask5 := hask4.keep nas (Tups.same smA) smA.kept
      generalize upd H7 sa (.tup (intsV sorts)) = H8 at smA qA hL4 s10 hask5
      refine ⟨_, rfl, _, rfl, t, sa, L, sorts, rfl, hL4, hok, qA, ls, fun H9 p as sm9 hp ha => ?_⟩
      refine ⟨_, rfl, _, rfl, _, rfl, t, sa, p, as, L, sorts, rfl, hL4.same sm9, hok, sm9.seqT qA, ls, hp, ha, fun H10 sm10 => ⟨_, rfl, iteF ?_⟩⟩
      have sm11 := sm9.trans sm10
      refine ⟨⟨_, _, _, _, _, _, _, rfl, fun _ => ⟨sa, p, as, sorts, rfl, rfl, sm11.seqT qA, ls, sm10.seqT hp, ha.tups (Tups.same sm10)⟩⟩, ?_, hask5.keep nas (Tups.same sm11) sm11.kept, hL4.same sm11⟩
      obtain ⟨b1, b2, b3, b4, b5, e1, e2, r⟩ := s10
      exact ⟨b1, b2, b3, b4, b5, sm11 _ _ e1, sm11 _ _ e2, r⟩
    · rintro σ H5 ⟨⟨a1, a3, a5, a7, a8, a9, a10, rfl, h3⟩, s7, ⟨items, i1, i2, i3⟩, hL3⟩
      obtain ⟨sa, p, as, sorts, rfl, rfl, qA, ls, hp, ha⟩ := h3 (by decide)
      refine ⟨_, rfl, .inl ⟨rfl, _, SqL.of i1⟩, ?_⟩
      refine ⟨_, rfl, _, rfl, _, rfl, p, rfl, ⟨_, hp⟩, fun D nD => ?_⟩
      refine lc_it (walk_tup (xs := as.map V.ref)) (fun m H' => ∃ cs : List Addr, H' D = some (.lst (cs.map V.ref)) ∧ AtomsAt K H' cs ((atomsOf L sorts).take m) ∧ Same H5 H')
        ⟨[], upd_same, ⟨rfl, fun j c w h _ => by simp at h⟩, same_new nD⟩ (fun m H' _ ⟨_, _, _, z⟩ => z.seqT hp) ?_ ?_
      · rintro m v _ H6 hm' ⟨cs, c1, c2, c3⟩ ⟨rfl, hx⟩
        rw [List.getElem?_map] at hx
        obtain ⟨o, ho, rfl⟩ := Option.map_eq_some_iff.mp hx
        have hmr : m < (atomsOf L sorts).length := by
          rw [← ha.1]
          exact (List.getElem?_eq_some_iff.mp ho).1
        have hx2 : (atomsOf L sorts)[m]? = some (atomsOf L sorts)[m] := List.getElem?_eq_getElem hmr
        obtain ⟨b, z1, z2⟩ := ha.2 m o _ ho hx2
        have hbound := atoms_bound ls L.rels 0 fun r hr => (hok.pl r hr).2.1
        have hfew := hok.few
        have lcs : cs.length ≤ 5000 := by
          rw [c2.1, List.length_take]
          unfold atomsOf
          omega
        generalize hX : (atomsOf L sorts)[m] = X at *
        refine ⟨rfl, yes_ ?_⟩
        refine ⟨_, rfl, o, _, 0, _, rfl, rfl, c3.seqT z1, rfl, _, rfl, o, _, 1, _, rfl, rfl, c3.seqT z1, rfl, b, _, rfl, .inr (c3.seqT z2), fun l nl => ?_⟩
        have t1 : Same H6 (upd H6 l (.lst (intsV X.2))) := same_new nl
        refine ⟨l, _, rfl, .inl ⟨SqL.of upd_same, fun b' nb' => ⟨two_fits, fun u nu => ?_⟩⟩⟩
        have t2 := (t1.trans (same_new (o := .tup (intsV X.2)) nb')).trans (same_new (o := .tup [.int (X.1 : Int), .ref b']) nu)
        have nbu : b' ≠ u := fun e => by
          rw [← e, upd_same] at nu
          cases nu
        have eD := t2 _ _ c1
        refine ⟨cs.map V.ref, eD, by rw [List.length_map]; exact Nat.lt_of_le_of_lt lcs (by decide), cs ++ [u], by rw [upd_same, List.map_append]; rfl, ?_, Same.over nD (c3.trans t2)⟩
        have t3 := Tups.lst (o := .lst (cs.map V.ref ++ [.ref u])) eD
        rw [List.take_add_one, hx2]
        exact (c2.tups ((Tups.same t2).trans t3)).snoc ⟨b', t3 _ _ _ (.inl (.inl upd_same)), t3 _ _ _ (.inl (.inl (by rw [upd_ne nbu, upd_same])))⟩
      · rintro H6 ⟨cs, c1, c2, c3⟩
        rw [List.length_map, ha.1, List.take_length] at c2
        refine ⟨D, _, rfl, .inl ⟨SqL.of c1, fun kp nkp => ?_⟩⟩
        refine ⟨show 3 ≤ sizeLine by decide, fun it nit => ?_⟩
        have sm7 := (c3.trans (same_new (o := .tup (cs.map V.ref)) nkp)).trans (same_new (o := .lst [.ref t, .ref sa, .ref kp]) nit)
        have nkit : kp ≠ it := fun e => by
          rw [← e, upd_same] at nit
          cases nit
        have qK : SqT K (upd (upd H6 kp (.tup (cs.map V.ref))) it (.lst [.ref t, .ref sa, .ref kp])) kp (cs.map V.ref) := .inl (.inl (by rw [upd_ne nkit, upd_same]))
        have aK := c2.tups ((Tups.new (o := .tup (cs.map V.ref)) nkp).trans (Tups.new (o := .lst [.ref t, .ref sa, .ref kp]) nit))
        have eI : (upd (upd H6 kp (.tup (cs.map V.ref))) it (.lst [.ref t, .ref sa, .ref kp])) it = some (.lst [.ref t, .ref sa, .ref kp]) := upd_same
        have ek := sm7 _ _ i1
        have nia : it ≠ ak := fun e => by
          have z := ((c3.trans (same_new (o := .tup (cs.map V.ref)) nkp)) _ _ i1)
          rw [← e, nit] at z
          cases z
        have s8 : StAt st c ns (upd (upd H6 kp (.tup (cs.map V.ref))) it (.lst [.ref t, .ref sa, .ref kp])) := by
          obtain ⟨b1, b2, b3, b4, b5, e1, e2, r⟩ := s7
          exact ⟨b1, b2, b3, b4, b5, sm7 _ _ e1, sm7 _ _ e2, r⟩
        have nis : it ≠ st := fun e => by
          obtain ⟨b1, b2, b3, b4, b5, e1, e2, r⟩ := s7
          have z := ((c3.trans (same_new (o := .tup (cs.map V.ref)) nkp)) _ _ e1)
          rw [← e, nit] at z
          cases z
        have hL5 := hL3.same sm7
        have qA5 := sm7.seqT qA
        generalize upd (upd H6 kp (.tup (cs.map V.ref))) it (.lst [.ref t, .ref sa, .ref kp]) = H8 at *
        refine ⟨ak, _, _, rfl, rfl, ek, by rw [List.length_map]; exact small1000 (by omega), ?_⟩
        have t4 : Tups H8 (upd H8 ak (.lst (items.map V.ref ++ [.ref it]))) := Tups.lst ek
        refine ⟨⟨_, _, _, _, _, _, _, _, rfl⟩, putk _ _ s8, items ++ [it], by rw [upd_same, List.map_append]; rfl, by simp; omega, fun l hl => ?_⟩
        rcases List.mem_append.mp hl with hl | hl
        · obtain ⟨y1, y2, y3⟩ := i3 l hl
          exact ⟨y1.keep ((Tups.same sm7).trans t4) fun o e => by rw [upd_ne y2]; exact sm7 _ _ e, y2, y3⟩
        · rw [List.mem_singleton.mp hl]
          exact ⟨⟨t, sa, kp, L, sorts, by rw [upd_ne nia]; exact eI, hL5.keep (t4 K), hok, t4 _ _ _ qA5, ls, cs, t4 _ _ _ qK, aK.tups t4⟩, nia, nis⟩
  · rintro σ H2 ⟨⟨a1, a3, a4, a5, a7, a8, a9, a10, rfl⟩, s3, items, i1, i2, i3⟩
    refine ⟨_, rfl, ak, rfl, ⟨_, SqL.of i1⟩, for_list (xs := items.map V.ref) (fun i σ H' => (∃ b1 b3 b4 b5 b7 b8 b9 b10 : Option V, σ = [some (.ref a), b1, some (.ref ak), b3, b4, b5, some (.ref st), b7, b8, b9, b10]) ∧ Same H2 H')
      ⟨⟨_, _, _, _, _, _, _, _, rfl⟩, Same.refl _⟩ (fun i σ H' _ h => SqL.of (h.2 _ _ i1)) ?_ ?_⟩
    · rintro i x σ H3 hx ⟨⟨b1, b3, b4, b5, b7, b8, b9, b10, rfl⟩, sm⟩
      rw [List.getElem?_map] at hx
      obtain ⟨l, hl, rfl⟩ := Option.map_eq_some_iff.mp hx
      obtain ⟨t, sa, p, L, sorts, y1, y2, y3, y4, y5, as, y6, y7⟩ := (i3 l (List.mem_of_getElem? hl)).1
      refine ⟨l, _, rfl, SqL.of (sm _ _ y1), rfl, _, [_, _], rfl, _, [_], rfl, _, [], rfl, rfl, ?_⟩
      refine ⟨_, rfl, _, rfl, rfl, t, sa, L, sorts, rfl, y2.same sm, y3, sm.seqT y4, y5, fun H4 p2 as2 sm4 hp2 ha2 => ?_⟩
      have sm5 := sm.trans sm4
      refine ⟨_, rfl, _, _, atomsD (atomsOf L sorts), rfl, atoms_dp hp2 ha2, atoms_dp (sm5.seqT y6) (y7.tups (Tups.same sm5)), okD_atoms y3 y5 4, fun H5 sm6 => ⟨_, rfl, iteF ?_⟩⟩
      exact ⟨⟨_, _, _, _, _, _, _, _, rfl⟩, sm5.trans sm6⟩
    · rintro σ H3 ⟨⟨b1, b3, b4, b5, b7, b8, b9, b10, rfl⟩, sm⟩
      exact q _
end
theorem all_mk {l : PySem.W.OpenLaw} {w : World} {K : PySem.W.Frag} {h : Heap} {mg : Str → Option Value} {fa : Addr} {f0 f1 f2 f3 f4 f5 f6 f7 f8 f9 f10 : Addr} (X : K.In h) (G : h.Ns mainGlobals mg) (hfa : mg "law" = some (.ref fa))
    {od0 an0 od1 an1 od2 an2 od3 an3 od4 an4 od5 an5 od6 an6 od7 an7 od8 an8 od9 an9 od10 an10 : Option Addr} {sl0 sl1 sl2 sl3 sl4 sl5 sl6 sl7 sl8 sl9 sl10 : Array (Option Value)} {oc0 kV0 dc0 pm0 cd0 ct0 oc1 kV1 dc1 pm1 cd1 ct1 oc2 kV2 dc2 pm2 cd2 ct2 oc3 kV3 dc3 pm3 cd3 ct3 oc4 kV4 dc4 pm4 cd4 ct4 oc5 kV5 dc5 pm5 cd5 ct5 oc6 kV6 dc6 pm6 cd6 ct6 oc7 kV7 dc7 pm7 cd7 ct7 oc8 kV8 dc8 pm8 cd8 ct8 oc9 kV9 dc9 pm9 cd9 ct9 oc10 kV10 dc10 pm10 cd10 ct10 : Value}
    (a0 : PySem.W.nsIn K mainGlobals "_law_mixed" = some (some (.ref f0))) (l0 : K.lookup f0 = some ⟨oc0, od0, .func (PySem.W.fnOf "_law_mixed" "_law_mixed" (defArgs s__law_mixed) (defBody s__law_mixed) (defScope s__law_mixed) .none kV0 dc0 pm0 an0 cd0 ct0), sl0⟩) (c0 : PySem.W.codeIn K cd0 "_law_mixed" = true) (k0 : PySem.W.keepIn K (.ref f0) = true)
    (a1 : PySem.W.nsIn K mainGlobals "_law_start" = some (some (.ref f1))) (l1 : K.lookup f1 = some ⟨oc1, od1, .func (PySem.W.fnOf "_law_start" "_law_start" (defArgs s__law_start) (defBody s__law_start) (defScope s__law_start) .none kV1 dc1 pm1 an1 cd1 ct1), sl1⟩) (c1 : PySem.W.codeIn K cd1 "_law_start" = true) (k1 : PySem.W.keepIn K (.ref f1) = true)
    (a2 : PySem.W.nsIn K mainGlobals "_law_take" = some (some (.ref f2))) (l2 : K.lookup f2 = some ⟨oc2, od2, .func (PySem.W.fnOf "_law_take" "_law_take" (defArgs s__law_take) (defBody s__law_take) (defScope s__law_take) .none kV2 dc2 pm2 an2 cd2 ct2), sl2⟩) (c2 : PySem.W.codeIn K cd2 "_law_take" = true) (k2 : PySem.W.keepIn K (.ref f2) = true)
    (a3 : PySem.W.nsIn K mainGlobals "_law_language" = some (some (.ref f3))) (l3 : K.lookup f3 = some ⟨oc3, od3, .func (PySem.W.fnOf "_law_language" "_law_language" (defArgs s__law_language) (defBody s__law_language) (defScope s__law_language) .none kV3 dc3 pm3 an3 cd3 ct3), sl3⟩) (c3 : PySem.W.codeIn K cd3 "_law_language" = true) (k3 : PySem.W.keepIn K (.ref f3) = true)
    (a4 : PySem.W.nsIn K mainGlobals "row_atoms" = some (some (.ref f4))) (l4 : K.lookup f4 = some ⟨oc4, od4, .func (PySem.W.fnOf "row_atoms" "row_atoms" (defArgs s_row_atoms) (defBody s_row_atoms) (defScope s_row_atoms) .none kV4 dc4 pm4 an4 cd4 ct4), sl4⟩) (c4 : PySem.W.codeIn K cd4 "row_atoms" = true) (k4 : PySem.W.keepIn K (.ref f4) = true)
    (a5 : PySem.W.nsIn K mainGlobals "_law_same" = some (some (.ref f5))) (l5 : K.lookup f5 = some ⟨oc5, od5, .func (PySem.W.fnOf "_law_same" "_law_same" (defArgs s__law_same) (defBody s__law_same) (defScope s__law_same) .none kV5 dc5 pm5 an5 cd5 ct5), sl5⟩) (c5 : PySem.W.codeIn K cd5 "_law_same" = true) (k5 : PySem.W.keepIn K (.ref f5) = true)
    (a6 : PySem.W.nsIn K mainGlobals "_law_many" = some (some (.ref f6))) (l6 : K.lookup f6 = some ⟨oc6, od6, .func (PySem.W.fnOf "_law_many" "_law_many" (defArgs s__law_many) (defBody s__law_many) (defScope s__law_many) .none kV6 dc6 pm6 an6 cd6 ct6), sl6⟩) (c6 : PySem.W.codeIn K cd6 "_law_many" = true) (k6 : PySem.W.keepIn K (.ref f6) = true)
    (a7 : PySem.W.nsIn K mainGlobals "_law_is_number" = some (some (.ref f7))) (l7 : K.lookup f7 = some ⟨oc7, od7, .func (PySem.W.fnOf "_law_is_number" "_law_is_number" (defArgs s__law_is_number) (defBody s__law_is_number) (defScope s__law_is_number) .none kV7 dc7 pm7 an7 cd7 ct7), sl7⟩) (c7 : PySem.W.codeIn K cd7 "_law_is_number" = true) (k7 : PySem.W.keepIn K (.ref f7) = true)
    (a8 : PySem.W.nsIn K mainGlobals "_law_is_atom" = some (some (.ref f8))) (l8 : K.lookup f8 = some ⟨oc8, od8, .func (PySem.W.fnOf "_law_is_atom" "_law_is_atom" (defArgs s__law_is_atom) (defBody s__law_is_atom) (defScope s__law_is_atom) .none kV8 dc8 pm8 an8 cd8 ct8), sl8⟩) (c8 : PySem.W.codeIn K cd8 "_law_is_atom" = true) (k8 : PySem.W.keepIn K (.ref f8) = true)
    (a9 : PySem.W.nsIn K mainGlobals "_law_is_told" = some (some (.ref f9))) (l9 : K.lookup f9 = some ⟨oc9, od9, .func (PySem.W.fnOf "_law_is_told" "_law_is_told" (defArgs s__law_is_told) (defBody s__law_is_told) (defScope s__law_is_told) .none kV9 dc9 pm9 an9 cd9 ct9), sl9⟩) (c9 : PySem.W.codeIn K cd9 "_law_is_told" = true) (k9 : PySem.W.keepIn K (.ref f9) = true)
    (a10 : PySem.W.nsIn K mainGlobals "law" = some (some (.ref f10))) (l10 : K.lookup f10 = some ⟨oc10, od10, .func (PySem.W.fnOf "law" "law" (defArgs s_law) (defBody s_law) (defScope s_law) .none kV10 dc10 pm10 an10 cd10 ct10), sl10⟩) (c10 : PySem.W.codeIn K cd10 "law" = true) (k10 : PySem.W.keepIn K (.ref f10) = true)
    (z0 : PySem.W.nsIn K mainGlobals "int" = some none) (z1 : PySem.W.nsIn K mainGlobals "len" = some none) (z2 : PySem.W.nsIn K mainGlobals "list" = some none) (z3 : PySem.W.nsIn K mainGlobals "abs" = some none) (z4 : PySem.W.nsIn K mainGlobals "range" = some none) (z5 : PySem.W.nsIn K mainGlobals "tuple" = some none) (z6 : PySem.W.nsIn K mainGlobals "enumerate" = some none) (z7 : PySem.W.nsIn K mainGlobals "isinstance" = some none) (z8 : PySem.W.nsIn K mainGlobals "bool" = some none) (z9 : PySem.W.nsIn K mainGlobals "str" = some none) :
    ∃ fd : FuncData, (∀ (s : Shared) (v : Value), BindsTo s fd ⟨[v], []⟩ [("script", v)]) ∧ ∀ base : Heap, K.In base → base.Ns mainGlobals mg → FnOk l.prog w K mg base CX0 9 fa fd ["script"] (sp_law K) := by
  have e := hfa.symm.trans (PySem.W.mg_of X G a10)
  cases e
  have m_int := PySem.W.mg_none_of X G z0
  have m_len := PySem.W.mg_none_of X G z1
  have m_list := PySem.W.mg_none_of X G z2
  have m_abs := PySem.W.mg_none_of X G z3
  have m_range := PySem.W.mg_none_of X G z4
  have m_tuple := PySem.W.mg_none_of X G z5
  have m_enumerate := PySem.W.mg_none_of X G z6
  have m_isinstance := PySem.W.mg_none_of X G z7
  have m_bool := PySem.W.mg_none_of X G z8
  have m_str := PySem.W.mg_none_of X G z9
  have F0 := fun_mk (st := s__law_mixed) l0 c0 k0
  have b0 := F0.binds (ps := ["number", "k"]) fun _ _ _ _ _ _ us hl => match us, hl with | [_, _], _ => rfl
  have g0 := PySem.W.mg_of X G a0
  have F1 := fun_mk (st := s__law_start) l1 c1 k1
  have b1 := F1.binds (ps := ["script"]) fun _ _ _ _ _ _ us hl => match us, hl with | [_], _ => rfl
  have g1 := PySem.W.mg_of X G a1
  have F2 := fun_mk (st := s__law_take) l2 c2 k2
  have b2 := F2.binds (ps := ["state", "limit"]) fun _ _ _ _ _ _ us hl => match us, hl with | [_, _], _ => rfl
  have g2 := PySem.W.mg_of X G a2
  have F3 := fun_mk (st := s__law_language) l3 c3 k3
  have b3 := F3.binds (ps := ["state", "many"]) fun _ _ _ _ _ _ us hl => match us, hl with | [_, _], _ => rfl
  have g3 := PySem.W.mg_of X G a3
  have F4 := fun_mk (st := s_row_atoms) l4 c4 k4
  have b4 := F4.binds (ps := ["language", "sorts"]) fun _ _ _ _ _ _ us hl => match us, hl with | [_, _], _ => rfl
  have g4 := PySem.W.mg_of X G a4
  have F5 := fun_mk (st := s__law_same) l5 c5 k5
  have b5 := F5.binds (ps := ["actual", "due"]) fun _ _ _ _ _ _ us hl => match us, hl with | [_, _], _ => rfl
  have g5 := PySem.W.mg_of X G a5
  have F6 := fun_mk (st := s__law_many) l6 c6 k6
  have b6 := F6.binds (ps := ["language", "sorts"]) fun _ _ _ _ _ _ us hl => match us, hl with | [_, _], _ => rfl
  have g6 := PySem.W.mg_of X G a6
  have F7 := fun_mk (st := s__law_is_number) l7 c7 k7
  have b7 := F7.binds (ps := ["value", "limit"]) fun _ _ _ _ _ _ us hl => match us, hl with | [_, _], _ => rfl
  have g7 := PySem.W.mg_of X G a7
  have F8 := fun_mk (st := s__law_is_atom) l8 c8 k8
  have b8 := F8.binds (ps := ["language", "sorts", "one"]) fun _ _ _ _ _ _ us hl => match us, hl with | [_, _, _], _ => rfl
  have g8 := PySem.W.mg_of X G a8
  have F9 := fun_mk (st := s__law_is_told) l9 c9 k9
  have b9 := F9.binds (ps := ["language", "sorts", "told"]) fun _ _ _ _ _ _ us hl => match us, hl with | [_, _, _], _ => rfl
  have g9 := PySem.W.mg_of X G a9
  have F10 := fun_mk (st := s_law) l10 c10 k10
  refine ⟨PySem.W.fnOf "law" "law" (defArgs s_law) (defBody s_law) (defScope s_law) .none kV10 dc10 pm10 an10 cd10 ct10, fun s v => .of_eq rfl, fun base _ _ => ?_⟩
  have C__law_mixed : Cal l.prog w K mg base 1 "_law_mixed" s__law_mixed ["number", "k"] (sp__law_mixed K) := ⟨_, _, ok__law_mixed F0 m_int, F0, b0, g0⟩
  have C__law_start : Cal l.prog w K mg base 2 "_law_start" s__law_start ["script"] (sp__law_start K) := ⟨_, _, ok__law_start F1 C__law_mixed m_len m_list, F1, b1, g1⟩
  have C__law_take : Cal l.prog w K mg base 2 "_law_take" s__law_take ["state", "limit"] (sp__law_take K) := ⟨_, _, ok__law_take F2 C__law_mixed m_int m_len m_abs, F2, b2, g2⟩
  have C__law_language : Cal l.prog w K mg base 3 "_law_language" s__law_language ["state", "many"] (sp__law_language K) := ⟨_, _, ok__law_language F3 C__law_take m_list m_range m_tuple m_len, F3, b3, g3⟩
  have C_row_atoms : Cal l.prog w K mg base 1 "row_atoms" s_row_atoms ["language", "sorts"] (sp_row_atoms K) := ⟨_, _, ok_row_atoms F4 m_enumerate m_tuple, F4, b4, g4⟩
  have C__law_same : Cal l.prog w K mg base 8 "_law_same" s__law_same ["actual", "due"] (sp__law_same K) := ⟨_, _, ok__law_same F5 b5 g5 m_isinstance m_bool m_int m_str m_range m_len m_list m_tuple 8, F5, b5, g5⟩
  have C__law_many : Cal l.prog w K mg base 1 "_law_many" s__law_many ["language", "sorts"] (sp__law_many K) := ⟨_, _, ok__law_many F6 m_len, F6, b6, g6⟩
  have C__law_is_number : Cal l.prog w K mg base 1 "_law_is_number" s__law_is_number ["value", "limit"] (sp__law_is_number K) := ⟨_, _, ok__law_is_number F7 m_isinstance m_int m_bool, F7, b7, g7⟩
  have C__law_is_atom : Cal l.prog w K mg base 2 "_law_is_atom" s__law_is_atom ["language", "sorts", "one"] (sp__law_is_atom K) := ⟨_, _, ok__law_is_atom F8 C__law_is_number m_range m_len m_isinstance m_tuple, F8, b8, g8⟩
  have C__law_is_told : Cal l.prog w K mg base 3 "_law_is_told" s__law_is_told ["language", "sorts", "told"] (sp__law_is_told K) := ⟨_, _, ok__law_is_told F9 C__law_many C__law_is_atom m_range m_len m_isinstance m_tuple, F9, b9, g9⟩
  exact ok_law F10 C__law_start C__law_language C_row_atoms C__law_same C__law_take C__law_is_told m_range m_tuple m_list
end K16
open PySem PySem.W PyProof.Rows
set_option maxHeartbeats 0 in
theorem PySem.Challenge.cw_bagkinds_k16_row_atoms_holds : PySem.Challenge.rw_bagkinds_k16_row_atoms.Holds := by
  w_on; o_law; k_head; (case hw => w_witness2)
  k_fill
  refine L2.walk_of (l := PySem.Challenge.rw_bagkinds_k16_row_atoms) (n := 63) (k := 9) (x := "script") (CX := fun _ => L2.CX0) (sp := fun w => K16.sp_law _) rfl (by decide) rfl ⟨rfl, by decide, by decide⟩ (fun w h Y => PySem.W.kIn_of Y) ?F (fun _ _ a ns hl _ hS => ⟨a, ns, rfl, hS, hl, fun _ => rfl⟩) (fun _ _ _ _ _ h => h)
  case F =>
    intro w mg fa h KX G hmg
    refine' K16.all_mk KX G hmg ?a0 ?l0 ?c0 ?k0 ?a1 ?l1 ?c1 ?k1 ?a2 ?l2 ?c2 ?k2 ?a3 ?l3 ?c3 ?k3 ?a4 ?l4 ?c4 ?k4 ?a5 ?l5 ?c5 ?k5 ?a6 ?l6 ?c6 ?k6 ?a7 ?l7 ?c7 ?k7 ?a8 ?l8 ?c8 ?k8 ?a9 ?l9 ?c9 ?k9 ?a10 ?l10 ?c10 ?k10 ?z0 ?z1 ?z2 ?z3 ?z4 ?z5 ?z6 ?z7 ?z8 ?z9
    (case a0 => k_is); (case l0 => k_is); (case c0 => k_is); (case k0 => k_is)
    (case a1 => k_is); (case l1 => k_is); (case c1 => k_is); (case k1 => k_is)
    (case a2 => k_is); (case l2 => k_is); (case c2 => k_is); (case k2 => k_is)
    (case a3 => k_is); (case l3 => k_is); (case c3 => k_is); (case k3 => k_is)
    (case a4 => k_is); (case l4 => k_is); (case c4 => k_is); (case k4 => k_is)
    (case a5 => k_is); (case l5 => k_is); (case c5 => k_is); (case k5 => k_is)
    (case a6 => k_is); (case l6 => k_is); (case c6 => k_is); (case k6 => k_is)
    (case a7 => k_is); (case l7 => k_is); (case c7 => k_is); (case k7 => k_is)
    (case a8 => k_is); (case l8 => k_is); (case c8 => k_is); (case k8 => k_is)
    (case a9 => k_is); (case l9 => k_is); (case c9 => k_is); (case k9 => k_is)
    (case a10 => k_is); (case l10 => k_is); (case c10 => k_is); (case k10 => k_is)
    (case z0 => k_is); (case z1 => k_is); (case z2 => k_is); (case z3 => k_is)
    (case z4 => k_is); (case z5 => k_is); (case z6 => k_is); (case z7 => k_is)
    (case z8 => k_is); (case z9 => k_is)
