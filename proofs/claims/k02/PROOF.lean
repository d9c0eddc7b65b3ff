import PyProof.Rows.All
import Wide.All
import OpenK.AllK
import Wide.FinOn
import HandS.ForMost
import HandS.ForExc
import HandS.Deep
import HandS.ExcInit
import HandS.IsInst
import HandS.Walk
import HandS.TupAny
import HandS.TupMul
import HandS.Flow
import HandS.Strs
import KE.GoesEnum
import HandS.WordsExc
import HandS.Words
import HandS.Ends
import PyProof.ReprRoads
import HandS.FStr
import HandS.ExcField
import KE.KEqSeq
import PySem.Challenge.RW_copyplaces_k02_sizes_of_programs
set_option Elab.async false
set_option linter.all false
set_option maxRecDepth 100000
/-! tuples whose one object is known to have no dict -/
namespace Mi
open PySem PySem.Spec PyProof.Rows L2
def TupR (K : PySem.W.Frag) (H : Hp) (a : Addr) (xs : List V) : Prop := (∃ ob, H a = some (.frz ob (.tup xs)) ∧ ob.dict = none) ∨
  ∃ (o : Obj) (its : Array Value) (n : Nat), K.lookup a = some o ∧ o.cls = .type "tuple" ∧ o.dict = none ∧ o.data = .seq its n ∧ its.size ≤ sizeLine ∧ Vals xs its.toList
theorem TupR.sq {K : PySem.W.Frag} {H : Hp} {a : Addr} {xs : List V} (h : TupR K H a xs) : SqT K H a xs := h.elim (fun ⟨ob, e, _⟩ => .inl (.inr ⟨ob, e⟩)) fun ⟨o, its, n, h1, h2, _, h3, h4, h5⟩ => .inr ⟨o, its, n, h1, h2, h3, h4, h5⟩
/-- a new tuple of that kind -/
abbrev NewT (H : Hp) (xs : List V) (Q : VK) : Prop := ∀ p ob, H p = none → ob.dict = none → Q (.ref p) (upd H p (.frz ob (.tup xs)))
section
variable {X : Cx} {pins : List (Addr × Obj)} {σ : L2.St} {H : Hp} {s : Shared} {es : List Expr} {pos : Pos} {t : TA}
theorem laidT0 {its : List Value} {xs : List V} {Q : VK} (I : Inv X pins σ H s) (r : Vals xs its) (z : xs.length ≤ sizeLine) (q : NewT H xs Q) :
    EP X pins σ Q (.ref s.heap.objs.size) { s with heap := s.heap.push { cls := .type "tuple", data := .seq its.toArray } } := by
  have g := Heap.get?_push_size s.heap (o := ({ cls := .type "tuple", data := .seq its.toArray } : Obj)) rfl
  refine ⟨.ref s.heap.objs.size, _, ?_, rfl, q s.heap.objs.size { cls := .type "tuple", data := .seq its.toArray } (I.hok.fresh (Nat.le_refl _)) rfl⟩
  exact I.laid (t' := s.toks) (fun b u e => Heap.get?_push_of_some _ e) (Nat.le_refl _) ⟨g, z, its, r, IsTup.new _ _⟩
def fTup (t : TA) : TE := fun σ H Q => t σ H fun xs H1 => xs.length ≤ sizeLine ∧ NewT H1 xs Q
theorem fe_tup {j : Nat} (h : PA X es t) : PE X (.Tuple es j pos) (fTup t) :=
  ⟨fun pins s σ H Q I hq => wpAny_Tuple_spliced (thn (h.run pos pins s σ H _ I hq) fun us s1 ⟨xs, H1, I1, r, z, q⟩ =>
    ⟨by rw [← r.length]; exact z, laidT0 I1 r z q⟩)⟩
/-- t + u -/
def fCat (K : PySem.W.Frag) : R2 := fun v w H Q => ∃ a b xs ys, v = .ref a ∧ w = .ref b ∧ TupR K H a xs ∧ TupR K H b ys ∧ xs.length + ys.length ≤ sizeLine ∧
  (xs = [] → Q (.ref b) H) ∧ (ys = [] → Q (.ref a) H) ∧ NewT H (xs ++ ys) Q
theorem fo_cat : OpR X (binaryOp .Add) (fCat X.K) := by
  intro pins s σ H v w cv cw Q I rv rw' h
  obtain ⟨a, b, xs, ys, rfl, rfl, ha, hb, hz, q0, q1, q2⟩ := h
  cases rv
  cases rw'
  obtain ⟨its, k1, p1, _⟩ := I.tuple ha.sq
  obtain ⟨its2, k2, p2, _⟩ := I.tuple hb.sq
  by_cases hx : xs = []
  · subst hx
    cases k1
    exact cat_tup0 p1 p2 ⟨.ref b, H, I, rfl, q0 rfl⟩
  · refine HT.cat_tup p1 p2 (fun z => hx (k1.nil_iff.mp z)) (fun z => ⟨.ref a, H, I, rfl, q1 (k2.nil_iff.mp z)⟩) (fun _ => ?_) (by rw [← k1.length, ← k2.length]; exact hz)
    exact laidT0 I (k1.append k2) (by rw [List.length_append]; exact hz) q2
/-- t[lo:hi] -/
def fSl (K : PySem.W.Frag) : V → Option Int → Option Int → Hp → VK → Prop := fun v lo hi H Q => ∃ a xs, v = .ref a ∧ TupR K H a xs ∧ (cutV xs lo hi = xs → Q (.ref a) H) ∧ NewT H (cutV xs lo hi) Q
theorem fs_tup : SlR X (fSl X.K) := by
  intro pins s σ H v cv vl vu lo hi sl Q I rv hsl pl pu h
  obtain ⟨a, xs, rfl, hx, q1, q2⟩ := h
  cases rv
  obtain ⟨its, r, ht, hz⟩ := I.tuple hx.sq
  have hlen : its.toArray.size = xs.length := by rw [List.size_toArray]; exact r.length.symm
  refine ⟨"tuple", _, PyProof.Rows.slot_tuple_getitem.lookup, ht.typeIs, ?_⟩
  by_cases hw : HT.sIx xs.length 0 lo = 0 ∧ HT.sIx xs.length xs.length hi = xs.length
  · refine getItem_tuple_whole ht hsl pl pu (by rw [hlen]; exact hw) ⟨.ref a, H, I, rfl, q1 ?_⟩
    unfold cutV
    rw [hw.1, hw.2, List.drop_zero, Nat.sub_zero, List.take_length]
  · refine HT.getItem_tuple_cut ht hsl pl pu (by rw [hlen]; exact hw) ?_ (by rw [hlen]; exact hz)
    rw [hlen]
    exact laidT0 I ((r.drop _).take _) (Nat.le_trans (cutV_length xs lo hi) hz) q2
/-- tuple(xs) -/
theorem fc_tuple {K : PySem.W.Frag} (hK : X.K = K) : CallR X (.type "tuple") (fun vs H Q => ∃ p ys, vs = [.ref p] ∧ ((SqL K H p ys ∧ NewT H ys Q) ∨ (TupR K H p ys ∧ Q (.ref p) H))) := by
  intro pins s σ H vs us Q I r h
  subst hK
  obtain ⟨p, ys, rfl, h⟩ := h
  obtain ⟨u, rfl, rx⟩ := vals1 r
  cases rx
  rcases h with ⟨hq, q⟩ | ⟨hq, q⟩
  · obtain ⟨its, r', pl, hz⟩ := I.list hq
    have hlen := r'.length
    refine call_tuple_list pl.isList (fun h' kp => ?_) (by simp only [List.size_toArray] <;> omega)
    exact laidT0 (s := { s with heap := h' }) (I.kept (t' := s.toks) kp) r' hz q
  · obtain ⟨its, r', pl, hz⟩ := I.tuple hq.sq
    exact call_tuple_same pl ⟨.ref p, H, I, rfl, q⟩
/-- t * k -/
def fRep (K : PySem.W.Frag) : R2 := fun v w H Q => ∃ l k xs, v = .ref l ∧ w = .int k ∧ TupR K H l xs ∧ xs ≠ [] ∧ 2 ≤ k ∧ k ≤ 1000 ∧ xs.length ≤ 1000 ∧ NewT H (List.replicate k.toNat xs).flatten Q
theorem fo_rep : OpR X (binaryOp .Mult) (fRep X.K) := by
  intro pins s σ H v w cv cw Q I rv rw' h
  obtain ⟨l, k, xs, rfl, rfl, hT, hne, g1, g2, hz, q⟩ := h
  cases rv
  obtain ⟨tk, rfl⟩ := rw'
  obtain ⟨its, r, ⟨⟨c0, d0, dt0, sl0⟩, ho, e1, n, e2⟩, hs⟩ := I.tuple hT.sq
  simp only at e1 e2
  subst e1 e2
  have zl : its.length = xs.length := r.length.symm
  have ni : its.toArray.isEmpty = false := by
    cases its with
    | nil => exact absurd (List.eq_nil_of_length_eq_zero zl.symm) hne
    | cons _ _ => rfl
  have za : its.toArray.size = xs.length := by rw [List.size_toArray, zl]
  have zm : xs.length * k.toNat ≤ 1000 * 1000 := Nat.mul_le_mul hz (by omega)
  have zi : ((its.toArray.size : Nat) : Int) * k ≤ 1000000 := by
    rw [za]
    have y : ((xs.length : Nat) : Int) * k ≤ 1000 * k := Int.mul_le_mul_of_nonneg_right (by omega) (by omega)
    omega
  have zf : (List.replicate k.toNat xs).flatten.length ≤ sizeLine := by
    rw [PyProof.Rows.lm_len_rep_flat, sizeLine_eq, Nat.mul_comm]; omega
  have zf' : (List.replicate k.toNat its).flatten.length ≤ sizeLine := by
    rw [PyProof.Rows.lm_len_rep_flat, zl, sizeLine_eq, Nat.mul_comm]; omega
  have b0 : (decide (k < -(2 ^ 63)) || decide (k ≥ 2 ^ 63)) = false := by rw [decide_eq_false (by omega), decide_eq_false (by omega)]; rfl
  have b1 : (its.toArray.isEmpty || k == 1) = false := by rw [ni, Bool.false_or]; exact beq_eq_false_iff_ne.mpr (by omega)
  have b2 : (decide (k ≤ 0) || its.toArray.isEmpty) = false := by rw [ni, Bool.or_false]; exact decide_eq_false (by omega)
  have b4 : Builtin.Tuple.tupleTooMany (((its.toArray.size : Nat) : Int) * k) = false := by unfold Builtin.Tuple.tupleTooMany; rw [sizeLine_eq]; exact decide_eq_false (by omega)
  have last : EP X pins σ Q (.ref s.heap.objs.size) { s with heap := s.heap.push { cls := .type "tuple", data := .seq (List.replicate k.toNat its).flatten.toArray } } := laidT0 I (r.rep k.toNat) zf q
  rw [← size_rep] at last
  exact wpAny_binaryOp_repeat_ref (T := "tuple") (U := "int") (by decide) ⟨_, ho, rfl⟩ (fun z => typeIs_int z k tk) noFill_tuple_mul F.fills_int_mul
    F.slot_int_rmul repeat_tuple F.slot_int_index.lookup (call_meets F.slot_int_rmul (typeIs_int s k tk) F.entry_int_rmul (F.args_int_rmul_2 _ _)
      (int_rmul_tuple k tk l its.toArray n d0 sl0) ⟨ho, rfl, ⟨_, ho, rfl⟩, call_meets F.slot_tuple_mul ⟨_, ho, rfl⟩ F.entry_tuple_mul
        (F.args_tuple_mul_2 _ _) (tuple_mulW l its.toArray n d0 sl0 k tk b0 b1 b2 (by omega) b4 (by rw [size_rep, List.size_toArray]; exact zf')) ⟨ho, last⟩⟩)
end
end Mi

set_option maxRecDepth 100000
/-! enumerate(t), t a tuple -/
namespace Mi
open PySem PySem.Spec PyProof.Rows L2
section
set_option maxHeartbeats 1000000 in
theorem meets_enumT (t : Addr) (items : Array Value) :
    Meets (Builtin.«enumerate.__new__» ⟨[.type "enumerate", .ref t], []⟩) (fun _ R s => s.heap.IsTuple t items ∧
      R (.ok (.ret (.ref (s.heap.push { cls := .type "tuple_iterator", data := .fields #[.ref t, .int 0 0] }).objs.size)))
        { s with heap := (s.heap.push { cls := .type "tuple_iterator", data := .fields #[.ref t, .int 0 0] }).push { cls := .type "enumerate", data := .fields #[.none, .bool false, .ref s.heap.objs.size, rawInt 0, .none, .none] } }) :=
  .of_wp fun prog w A R s hh => by
    obtain ⟨hp, g, d, tk, os⟩ := s
    obtain ⟨hT, h⟩ := hh
    have hsub := sub_enumerate
    have q1 : ∀ {A' : Around} {E : Value → Shared → Prop} {Q : Value → Shared → Prop}, Q (.ref hp.objs.size) ⟨hp.push { cls := .type "tuple_iterator", data := .fields #[.ref t, .int 0 0] }, g, d, tk, os⟩ →
        wpAny (model prog w) A' (pyIter (.ref t)) Q E ⟨hp, g, d, tk, os⟩ := fun q => wpAny_pyIter_tuple (s := ⟨hp, g, d, tk, os⟩) hT q
    wp_walk using q1
    refine wpAny_stack_any fun st => wpAny_pure ?_
    split
    · rename_i c _ _ _ _ _
      cases (c == Value.type "enumerate") <;> (wp_walk using q1; exact ⟨_, rfl, h⟩)
    · (wp_walk using q1; exact ⟨_, rfl, h⟩)
variable {prog : Program} {w : World} {A : Around} {E : Value → Shared → Prop} {s : Shared}
theorem call_enumT {t : Addr} {items : Array Value} {Q : Value → Shared → Prop} (hT : s.heap.IsTuple t items)
    (h : ∀ h', IsEnum h' (s.heap.objs.size + 1) s.heap.objs.size 0 .none → h'.IsTupleIter s.heap.objs.size t 0 →
      (∀ b o, s.heap.get? b = some o → h'.get? b = some o) → Q (.ref (s.heap.objs.size + 1)) { s with heap := h' }) :
    wpAny (model prog w) A (call (.type "enumerate") [.ref t]) Q E s := by
  refine callType_new F.called_enumerate (by decide) (F.typeCall_enumerate_1 _) (F.newCall_enumerate_1 _) (fun obj => F.args_object_init_2 obj _) F.entry_enumerate_new (meets_enumT t items) ⟨hT, ?_⟩
  have hz : (s.heap.push { cls := .type "tuple_iterator", data := .fields #[.ref t, .int 0 0] }).objs.size = s.heap.objs.size + 1 := Heap.size_push ..
  show _ ∧ _
  rw [hz]
  have he : IsEnum ((s.heap.push { cls := .type "tuple_iterator", data := .fields #[.ref t, .int 0 0] }).push { cls := .type "enumerate", data := .fields #[.none, .bool false, .ref s.heap.objs.size, rawInt 0, .none, .none] })
      (s.heap.objs.size + 1) s.heap.objs.size 0 .none := by
    have q := Heap.get?_push_size (s.heap.push { cls := .type "tuple_iterator", data := .fields #[.ref t, .int 0 0] }) (o := { cls := .type "enumerate", data := .fields #[.none, .bool false, .ref s.heap.objs.size, rawInt 0, .none, .none] }) rfl
    rw [hz] at q
    exact q
  refine ⟨⟨_, he, rfl⟩, h _ he ⟨_, Heap.get?_push_of_some _ (Heap.get?_push_size _ rfl), rfl, rfl⟩ fun b o x => ?_⟩
  exact Heap.get?_push_of_some _ (Heap.get?_push_of_some _ x)
end
/-- the tuple at a, each item in a new pair -/
def Itet (K : PySem.W.Frag) (a : Addr) : It :=
  ⟨fun i H => ∃ (xs : List V) (x : V), SqT K H a xs ∧ xs[i]? = some x, fun i H v H' => ∃ T x, v = .ref T ∧ H T = none ∧ H' = upd H T (.tup [.int (i : Nat), x]) ∧ ∀ xs, SqT K H a xs → xs[i]? = some x, fun i H => ∃ xs : List V, SqT K H a xs ∧ xs.length ≤ i⟩
theorem turn_enumT {P : Program} {w : World} {K : PySem.W.Frag} {elts : List Expr} {kk : Nat} {tpos : Pos} (a e it : Addr) (hae : a ≠ it) :
    Turn P w K (.Tuple elts kk tpos) (Itet K a) [e, it] e (fun i h => (∃ old, IsEnum h e it ((i : Nat) : Int) old) ∧ h.IsTupleIter it a i ∧ e ≠ it) where
  mem := List.mem_cons_self
  obj := fun i h st b hb => by
    obtain ⟨⟨old, he⟩, ⟨o, ho, hc, hd⟩, _⟩ := st
    rcases List.mem_cons.mp hb with z | hb
    · rw [z]; exact ⟨_, he, fun v q => nomatch q⟩
    · rw [List.mem_singleton.mp hb]; exact ⟨o, ho, fun v q => by rw [hd] at q; cases q⟩
  keep := fun i h h' st k => let ⟨⟨old, he⟩, hi, hne⟩ := st; ⟨⟨old, k e List.mem_cons_self _ he⟩, hi.at fun o q => k it (List.mem_cons_of_mem _ List.mem_cons_self) o q, hne⟩
  item := by
    intro X hP hw hK hc i pins s σ H E I hf st hg
    subst hP hw hK
    obtain ⟨⟨old, he⟩, hit, hne⟩ := st
    obtain ⟨xs, x, hq, hx⟩ := hg
    obtain ⟨its, rv, p, hz⟩ := I.tuple hq
    obtain ⟨u, hu, ru⟩ := rv.get hx
    have hel : e < s.heap.objs.size := Heap.lt_size he
    have hil : it < s.heap.objs.size := by obtain ⟨_, q, _⟩ := hit; exact Heap.lt_size q
    have hlt : i < its.toArray.size := by rw [List.size_toArray]; exact (List.getElem?_eq_some_iff.mp hu).1
    by_cases hea : e = a
    · -- an enumerate is no tuple
      exfalso
      obtain ⟨o, ho, hcl, _⟩ := p
      rw [← hea] at ho
      have z := he.symm.trans ho
      have z' := Option.some.inj z
      rw [← z'] at hcl
      exact absurd (Value.type.inj hcl) (by decide)
    have D := Draws.tuple (prog := X.prog) (w := X.w) (A := X.A.in1) (I.ok.hd hc) it a hae its.toArray
    refine wpAny_pyNext_enum_itemD D he ⟨hit, p⟩ hlt hne (by
      intro hm
      rcases List.mem_cons.mp hm with y | y
      · exact hne y
      · exact hea (List.mem_singleton.mp y)) fun y h' tk hPy ho hit' hT hsz hk => ?_
    obtain ⟨hit', _⟩ := hit'
    have ey : y = u := by
      rw [List.getElem?_toArray, hu] at hPy
      exact (Option.some.inj hPy).symm
    subst ey
    refine ⟨_, rfl, wpAny_letOwnedTupleGo_enum (s := { s with heap := h', toks := tk + 1 }) ho fun h'' he' sb => ?_⟩
    have hT2 : h''.get? s.heap.objs.size = some { cls := .type "tuple", data := .seq #[.int i tk, y] } := (sb.2 _ (Nat.ne_of_gt hel)).trans hT
    have new : ObjOk X.prog X.w (upd H s.heap.objs.size (.tup [.int (i : Nat), x])) h'' s.heap.objs.size (.tup [.int (i : Nat), x]) :=
      ⟨by show 2 ≤ sizeLine; decide, [.int i tk, y], .cons ⟨_, rfl⟩ (.cons ru .nil), ⟨_, hT2, rfl, _, rfl⟩⟩
    have I1 : Inv X pins σ (upd H s.heap.objs.size (.tup [.int (i : Nat), x])) { s with heap := h'', toks := tk + 1 } :=
      I.turnedNew (ch := [e, it]) (fun b ob hb q => (sb.2 b (fun z => hb (by rw [z]; exact List.mem_cons_self))).trans
        (hk b ob (fun z => hb (by rw [z]; exact List.mem_cons_self)) (fun z => hb (by rw [z]; exact List.mem_cons_of_mem _ List.mem_cons_self)) q)) hf (Nat.le_refl _) new
    refine ⟨.ref s.heap.objs.size, _, I1, rfl, ⟨_, x, rfl, I.hok.fresh (Nat.le_refl _), rfl, fun ys hy => by rw [I.tuple_inj hy hq]; exact hx⟩, ⟨⟨y, ?_⟩, hit'.at fun o q => (sb.2 it (Ne.symm hne)).trans q, hne⟩, fun b hb => ?_⟩
    · have e1 : ((i + 1 : Nat) : Int) = (i : Int) + 1 := by omega
      rw [e1]; exact he'
    · have hb' : b < s.heap.objs.size := by
        rcases List.mem_cons.mp hb with z | z
        · rw [z]; exact hel
        · rw [List.mem_singleton.mp z]; exact hil
      rw [upd_ne (Nat.ne_of_lt hb')]
      exact (hf b hb).1
  done := by
    intro X hP hw hK hc i pins s σ H E I hf st hg
    subst hP hw hK
    obtain ⟨⟨old, he⟩, hit, hne⟩ := st
    obtain ⟨xs, hq, hx⟩ := hg
    obtain ⟨its, rv, p, hz⟩ := I.tuple hq
    obtain ⟨f0, f1, f2, f3, f4, f5⟩ := hf it (List.mem_cons_of_mem _ List.mem_cons_self)
    have hl := rv.length
    have D : Draws X.prog X.w X.A.in1 it [it, a] i (fun j v => its.toArray[j]? = some v) (fun j h => j = i ∧ h.IsTupleIter it a i ∧ h.IsTuple a its.toArray) :=
      { live := fun _ _ z => let ⟨o, ho, _⟩ := z.2.1; ⟨o, ho⟩
        frame := fun _ _ _ z hk => ⟨z.1, z.2.1.at fun o q => hk it List.mem_cons_self o q, z.2.2.at fun o q => hk a (List.mem_cons_of_mem _ List.mem_cons_self) o q⟩
        item := fun j s Q E hj z => absurd z.1 (by omega)
        done := fun s Q E z hE => wpAny_nextOf_tuple_end (I.ok.hd hc) z.2.1 z.2.2 (by rw [List.getElem?_toArray]; exact List.getElem?_eq_none (by omega)) hE }
    exact wpAny_pyNext_enum_endD D he ⟨rfl, hit, p⟩ fun h' eb => ⟨rfl, I.turned (t' := s.toks) (fun b o hb q => eb b o hb q) f0 f1 f3 f4 f5⟩
  self := fun A i s Q E st h => let ⟨⟨_, he⟩, _⟩ := st; wpAny_pyIter_enum he h
end Mi

set_option maxRecDepth 100000
set_option maxHeartbeats 400000
namespace Mi
open PySem PySem.Spec PyProof.Rows L2
/-! ## promises of defs that hold where no object is being shown (repr asks for it) -/
def Quiet (A : Around) : Prop := A.guards = some []
structure FnG (P : Program) (w : World) (K : PySem.W.Frag) (mg : Str → Option Value) (base : Heap) (CX : CXT) (n : Nat) (g : Addr) (gd : FuncData) (ns : List Str) (sp : Sp) : Prop where
  size : ∀ vs H Q E, sp vs H Q E → vs.length = ns.length
  go : ∀ (B : Around), Room n B → Quiet B → ∀ (envs : List Env) (st : Shared) (H : Hp), Env0 P w K mg base B envs st H → ∀ (as : Args) (us : List Value) (vs : List V), BindsTo st gd as (ns.zip us) → Vals vs us → ∀ (Q : VK) (E : XK), sp vs H Q E →
    codeAny (model P w) B (.call (.ref g) as) (CR CX envs P w H st Q E) st
section
variable {X : Cx} {CX : CXT} {n : Nat} {g : Addr} {gd : FuncData} {ns : List Str} {sp : Sp} {E : XK} {x : Str} {p pos : Pos} {e : Expr} {es : List Expr} {t : TA}
theorem FnG.call {pins : List (Addr × Obj)} {σ : L2.St} {H : Hp} {st : Shared} {Q : VK} {us : List Value} {vs : List V} (G : FnG X.prog X.w X.K X.mg X.base CX n g gd ns sp) (room : Room n X.A) (qt : Quiet X.A) (bs : Binds X.K gd ns []) (ps : Passes CX X E)
    (J : Inv X pins σ H st) (rv : Vals vs us) (q : sp vs H Q E) : wpAny (model X.prog X.w) X.A (PySem.call (.ref g) us) (EP X pins σ Q) X.xe st := by
  have len : (us ++ []).length = ns.length := by
    rw [List.append_nil, ← rv.length]
    exact G.size _ _ _ _ q
  have b := bs st us J.kIn len
  rw [List.append_nil] at b
  refine wpAny_call (codeAny_mono (G.go X.A room qt X.stack st H J.env0 _ us vs b rv Q E q) fun out st2 z => ?_)
  match out, z with
  | .error er, z => exact ps pins σ H st er st2 J z
  | .ok (.ret _), z => exact J.after z
theorem pe_callG (G : FnG X.prog X.w X.K X.mg X.base CX n g gd ns sp) (room : Room n X.A) (qt : Quiet X.A) (hx : Gl X x) (hm : X.mg x = some (.ref g)) (kp : PySem.W.keepIn X.K (.ref g) = true) (bs : Binds X.K gd ns []) (ps : Passes CX X E) (as : PA X (e :: es) t)
    (nd : (x == ("__debug__" : Str)) = false) (h1 : starEach (e :: es) X.env = (false, eval e X.env) :: starEach es X.env) (h2 : (backTo pos (starEach es X.env)).any (·.1) = false) : PE X (.Call (.Name x p) (e :: es) [] pos) (tCall sp [] E t) :=
  ⟨fun pins st σ H Q J q => wpAny_Call_Name_kw (ld_glob J hx hm (PySem.W.callWith_K (h₀ := X.base) J.ok.mod.kin kp
    (thn (as.run pos pins st σ H _ J q) fun us s1 ⟨vs, H1, I1, r, q1⟩ => ⟨I1.kIn, G.call room qt bs ps I1 r (by have q2 : sp (vs ++ []) H1 Q E := q1; rw [List.append_nil] at q2; exact q2)⟩) h1 h2) nd)⟩
theorem pe_call0G (G : FnG X.prog X.w X.K X.mg X.base CX n g gd ns sp) (room : Room n X.A) (qt : Quiet X.A) (hx : Gl X x) (hm : X.mg x = some (.ref g)) (kp : PySem.W.keepIn X.K (.ref g) = true) (bs : Binds X.K gd ns []) (ps : Passes CX X E)
    (nd : (x == ("__debug__" : Str)) = false) : PE X (.Call (.Name x p) [] [] pos) (tCall sp [] E tNil) :=
  ⟨fun pins st σ H Q J q => wpAny_Call_Name_kw (ld_glob J hx hm (PySem.W.callWith_K0 J.kIn kp (G.call (us := []) room qt bs ps J .nil q)) nd)⟩
end
/-- a def by its body -/
theorem Fun.okG {P : Program} {w : World} {K : PySem.W.Frag} {mg : Str → Option Value} {base : Heap} {x qual : Str} {st : Stmt} {g : Addr} {gd : FuncData} {N ns : List Str} {n : Nat} {sp : Sp} (F : L2.Fun K x qual st g gd) (S : FnScope N ns (defScope st)) (size : ∀ vs H Q E, sp vs H Q E → vs.length = ns.length)
    (body : ∀ (cdv : Value) (B : Around) (envs : List Env) (s : Shared) (H : Hp) (vs : List V) (Q : VK) (E : XK), Quiet B → Room n (B.deeper (envOfC qual (defScope st) s.heap.objs.size g cdv)) → sp vs H Q E →
      ∃ t, PSs (cxOf (L2.CX P w) P w K mg base N qual (defScope st) g cdv B envs s H E) (defBody st) t ∧ t { nx := fun _ H' => Q .non H', rt := Q } (start N vs) H) : FnG P w K mg base (L2.CX P w) (n + 1) g gd ns sp := by
  obtain ⟨oc, od, kV, doc, pm, an, cdv, ct, osl, rfl, look, code⟩ := F.ex
  refine ⟨size, fun B room qt envs s H e0 as us vs bind rv Q E q => ?_⟩
  have kin : K.In s.heap := e0.mod.kin.keeps fun b o e => (e0.bs b o e).1
  have own : ∀ y ∈ ns.zip us, (defScope st).names.lookup y.1 = some .local ∨ ((defScope st).names.lookup y.1 = some .cell ∧ ((cellsFrom (s.heap.objs.size + 1) (defScope st).names []).lookup y.1).isSome = true) := fun y hy =>
    (S.par y.1 (List.of_mem_zip (a := y.1) (b := y.2) hy).1).imp id fun z => ⟨z, PySem.W.cellsFrom_some _ _ _ (.inl z)⟩
  refine codeAny_call_function room.depth (kin _ _ look) rfl S.co S.gen rfl (PySem.W.codeRec_of kin code) (bind _ _ _ _ ?_)
  refine wpAny_newFunctionEnv_cells S.kind own fun env eq s1 inc => ?_
  subst eq
  refine ⟨(e0.mod.nolimit.keeps fun b o e => (e0.bs b o e).1).keeps inc.toInCall.keep, codeAny_func ?_⟩
  obtain ⟨t, ok, now⟩ := body cdv B envs s H vs Q E qt (room.deeper _) q
  have J : Inv (cxOf (L2.CX P w) P w K mg base N qual (defScope st) g cdv B envs s H E) [] (start N vs) H s1 := inv_start S room.hd e0 (size _ _ _ _ q) rv inc
  refine wpAny_mono (ok.run [] s1 _ H _ J now) (fun flow s2 z => ?_) fun er s2 z => z
  cases flow with
  | ret u =>
    obtain ⟨v, σ2, H2, J2, r2, q2⟩ := z
    exact ⟨v, H2, J2.os, J2.bare, J2.base, J2.hok, r2, q2⟩
  | next =>
    obtain ⟨σ2, H2, J2, q2⟩ := z
    exact ⟨.non, H2, J2.os, J2.bare, J2.base, J2.hok, rfl, q2⟩
  | brk =>
    obtain ⟨_, _, _, q2⟩ := z
    exact False.elim q2
  | cont =>
    obtain ⟨_, _, _, q2⟩ := z
    exact False.elim q2
end Mi

set_option maxRecDepth 100000
namespace Mi
open PySem PySem.Spec PyProof.Rows L2
/-! ## the end of a law, for promises of quiet places -/
section
variable {P : Program} {w : World} {K : PySem.W.Frag} {mg mb : Str → Option Value} {CX : CXT} {n : Nat} {lw a : Addr} {ld : FuncData} {x : Str} {sp : Sp} {st : Shared} {vs : List Value} {ns : List Int}
/-- the script's object -/
def scr (vs : List Value) : Obj := { cls := .type "list", data := .seq vs.toArray }
theorem law_goG (kin : K.In st.heap) (hm : st.heap.Ns mainGlobals mg) (hb : st.heap.Ns builtinsNs mb) (hbb : ∀ x : Str, x ≠ "__name__" → mb x = bootBuiltins x) (nolim : st.heap.NoLimit) (gens : st.gens = #[]) (obj : st.heap.get? a = some (scr vs)) (inl : IntsAre vs ns) (len : ns.length ≤ sizeLine)
    (room : Room n callerA) (G : ∀ base : Heap, K.In base → base.Ns mainGlobals mg → FnG P w K mg base CX n lw ld [x] sp) (bs : ∀ (s : Shared) (u : Value), BindsTo s ld ⟨[u], []⟩ [(x, u)]) (good : ∀ H : Hp, Only H → SqL K H a (ns.map V.int) → sp [.ref a] H (fun v _ => v = .bl true) fun _ _ _ => False)
    (noex : ∀ H e s2, CX [] H st (fun _ _ _ => False) e s2 → False) :
    codeAny (model P w) callerA (.call (.ref lw) ⟨[.ref a], []⟩) (fun r s2 => r = .ok (.ret (.bool true)) ∧ OldK st.heap s2.heap ∧ s2.os = st.os ∧ AllBare s2.gens) st := by
  have from_ : ∀ H : Hp, (∀ b u, H b = some u → b = a ∧ u = .frz (scr vs) (.lst (ns.map V.int)) ∧ K.lookup a = none) → SqL K H a (ns.map V.int) →
      codeAny (model P w) callerA (.call (.ref lw) ⟨[.ref a], []⟩) (fun r s2 => r = .ok (.ret (.bool true)) ∧ OldK st.heap s2.heap ∧ s2.os = st.os ∧ AllBare s2.gens) st := by
    intro H only seq
    have hO : Only H := fun b => by
      cases q : H b with
      | none => exact .inl rfl
      | some u => obtain ⟨_, e, _⟩ := only b u q; exact .inr ⟨_, _, congrArg some e⟩
    have hok : HOk P w H st.heap := fun b u q => by
      obtain ⟨e, e2, _⟩ := only b u q
      rw [e, e2]
      exact ⟨obj, by rw [List.length_map]; exact len, vs, _, vals_ints inl, obj⟩
    have keepN : ∀ {b : Addr} {o : Obj}, st.heap.get? b = some o → (b = a → False) → (hidT st.heap H).get? b = some o := fun {b o} e nb => hidT_get e (by
      cases q : H b with
      | none => rfl
      | some u => exact (nb (only b u q).1).elim)
    have notA : ∀ {b : Addr} {o : Obj} {es : Array DictEntry} {ep : Nat}, st.heap.get? b = some o → o.data = .dict es ep → b = a → False := fun {b o es ep} e d eb => by
      rw [eb, obj] at e
      have e' : scr vs = o := Option.some.inj e
      rw [← e'] at d
      have d' : Data.seq vs.toArray _ = Data.dict es ep := d
      cases d'
    have spaces : ∀ {b : Addr} {m : Str → Option Value}, st.heap.Ns b m → (hidT st.heap H).Ns b m := fun {b m} h => by
      obtain ⟨o, es, ep, e, d, r⟩ := h
      exact ⟨o, es, ep, keepN e (notA e d), d, r⟩
    have kin2 : K.In (hidT st.heap H) := fun b o e => hidT_get (kin b o e) (by
      cases q : H b with
      | none => rfl
      | some u =>
        obtain ⟨e1, _, e3⟩ := only b u q
        rw [e1, e3] at e
        cases e)
    obtain ⟨ml, nl1, nl2⟩ := nolim
    have md : Mod K mg (hidT st.heap H) := ⟨kin2, spaces hm, ⟨mb, spaces hb, hbb⟩, ⟨ml, spaces nl1, nl2⟩⟩
    have e0 : Env0 P w K mg (hidT st.heap H) callerA [] st H := ⟨rfl, md, fun b o e => of_hidT e, Nat.le_of_eq (hidT_size _ _), trivial, fun b hb => absurd hb List.not_mem_nil, hok, .of_eq gens⟩
    refine codeAny_mono ((G _ kin2 (spaces hm)).go callerA room rfl [] st H e0 ⟨[.ref a], []⟩ [.ref a] [.ref a] (bs st (.ref a)) (.cons rfl .nil) _ _ (good H hO seq)) fun out s2 z => ?_
    cases out with
    | error er => exact (noex H er s2 z).elim
    | ok fl =>
      cases fl with
      | next => exact False.elim z
      | brk => exact False.elim z
      | cont => exact False.elim z
      | ret u =>
        obtain ⟨v, H2, os, bare, un, hok2, rv, ev⟩ := z
        have ev : v = .bl true := ev
        rw [ev] at rv
        have eu : u = Value.bool true := rv
        rw [eu]
        refine ⟨rfl, OldK.of_keep fun b o e => ?_, os, bare⟩
        cases q : H b with
        | none => exact un.keep b o e q (fun z => absurd z List.not_mem_nil) (by simp)
        | some y =>
          obtain ⟨e1, e2, _⟩ := only b y q
          rw [e2] at q
          have k2 := (hok2 b _ (un.frzs b _ _ q)).1
          rw [e1, obj] at e
          cases e
          rw [e1] at k2 ⊢
          exact k2
  cases hk : K.lookup a with
  | some o =>
    have e := kin a o hk
    rw [obj] at e
    cases e
    refine from_ (fun _ => none) (fun b u z => nomatch z) (.inr ⟨_, vs.toArray, _, hk, rfl, rfl, rfl, ?_, ?_⟩)
    · rw [List.size_toArray, inl.length]; exact len
    · exact (show Vals (ns.map V.int) vs from vals_ints inl)
  | none =>
    refine from_ (fun b => if b = a then some (.frz (scr vs) (.lst (ns.map V.int))) else none) (fun b u z => ?_) (.inl (.inr ⟨scr vs, if_pos rfl⟩))
    by_cases hb : b = a
    · have z' := (if_pos hb).symm.trans z
      exact ⟨hb, (Option.some.inj z').symm, hk⟩
    · exact (nomatch ((if_neg hb).symm.trans z))
end
theorem walk_ofG {l : PySem.W.OpenLaw} {m n : Nat} {q : Program} {loose : List Str} {XP : (Str → Option Value) → Heap → Prop} {YP : World → Heap → Prop} {d : DefRec} {K : Params → PySem.W.Frag} {CX : World → CXT} {sp : World → Sp} {x : Str} (hm : l.most = some m) (hl : m ≤ sizeLine)
    (df : d.params.defaults = []) (room : Room n callerA) (inK : ∀ (w : World) (h : Heap), YP w h → (K w.params).In h)
    (G : ∀ (w : World) (mg : Str → Option Value) (lw : Addr) (h : Heap), (K w.params).In h → h.Ns mainGlobals mg → mg d.name = some (.ref lw) →
      ∃ ld : FuncData, (∀ (s : Shared) (u : Value), BindsTo s ld ⟨[u], []⟩ [(x, u)]) ∧ ∀ base : Heap, (K w.params).In base → base.Ns mainGlobals mg → FnG l.prog w (K w.params) mg base (CX w) n lw ld [x] (sp w))
    (good : ∀ (w : World) (H : Hp) (a : Addr) (ns : List Int), ns.length ≤ m → Only H → SqL (K w.params) H a (ns.map V.int) → sp w [.ref a] H (fun v _ => v = .bl true) fun _ _ _ => False)
    (noex : ∀ (w : World) (H : Hp) (s : Shared) (e : Value) (s2 : Shared), CX w [] H s (fun _ _ _ => False) e s2 → False) : PySem.W.WalkO q loose XP YP l.row.toRowW d [] (fun f vs => PySem.call f vs) := by
  refine Att.attach_call hm df fun w s0 s1 mg mb lw o pm cd doc a vs ns T Y ho hd hcd hmg obj inl hn hg => ?_
  obtain ⟨ld, bs, go⟩ := G w mg lw _ (inK w _ Y) T.T.g hmg
  exact law_goG (inK w _ Y) T.T.g T.T.b T.T.builtins T.T.nolimit hg obj inl (Nat.le_trans hn hl) room go bs (fun H h1 h2 => good w H a ns hn h1 h2) fun H e s2 => noex w H s1 e s2
end Mi

set_option maxRecDepth 100000
namespace Mi
open PySem L2

/-! ## the small language: values, store, results -/
inductive D where
  | non | bl (b : Bool) | int (i : Int) | str (x : Str) | tup (xs : List D) | ref (n : Nat) | rol (xs : List D)
  deriving Inhabited
mutual
def D.beq : D → D → Bool
  | .non, .non => true
  | .bl a, .bl b => a == b
  | .int i, .int j => decide (i = j)
  | .str x, .str y => decide (x = y)
  | .tup xs, .tup ys => D.beqs xs ys
  | .ref n, .ref m => n == m
  | .rol xs, .rol ys => D.beqs xs ys
  | _, _ => false
def D.beqs : List D → List D → Bool
  | [], [] => true
  | x :: xs, y :: ys => D.beq x y && D.beqs xs ys
  | _, _ => false
end
mutual
theorem D.beq_self : ∀ x : D, D.beq x x = true
  | .non => by rw [D.beq]
  | .bl a => by rw [D.beq]; exact beq_self_eq_true a
  | .int i => by rw [D.beq]; exact decide_eq_true rfl
  | .str x => by rw [D.beq]; exact decide_eq_true rfl
  | .tup xs => by rw [D.beq]; exact D.beqs_self xs
  | .ref n => by rw [D.beq]; exact beq_self_eq_true n
  | .rol xs => by rw [D.beq]; exact D.beqs_self xs
theorem D.beqs_self : ∀ xs : List D, D.beqs xs xs = true
  | [] => by rw [D.beqs]
  | x :: xs => by rw [D.beqs, D.beq_self x, D.beqs_self xs]; rfl
end
mutual
theorem D.of_beq : ∀ x y : D, D.beq x y = true → x = y
  | .non, y, h => by cases y <;> simp [D.beq] at h <;> rfl
  | .bl a, y, h => by cases y <;> simp [D.beq] at h <;> rw [h]
  | .int i, y, h => by cases y <;> simp [D.beq] at h <;> rw [h]
  | .str x, y, h => by cases y <;> simp [D.beq] at h <;> rw [h]
  | .tup xs, y, h => by
    cases y <;> simp [D.beq] at h
    rw [D.of_beqs _ _ h]
  | .ref n, y, h => by cases y <;> simp [D.beq] at h <;> rw [h]
  | .rol xs, y, h => by
    cases y <;> simp [D.beq] at h
    rw [D.of_beqs _ _ h]
theorem D.of_beqs : ∀ xs ys : List D, D.beqs xs ys = true → xs = ys
  | [], ys, h => by cases ys <;> simp [D.beqs] at h <;> rfl
  | x :: xs, ys, h => by
    cases ys <;> simp [D.beqs] at h
    rw [D.of_beq _ _ h.1, D.of_beqs _ _ h.2]
end
instance : DecidableEq D := fun x y => if h : D.beq x y = true then .isTrue (D.of_beq x y h) else .isFalse fun e => h (by rw [e]; exact D.beq_self y)
inductive MO where
  | lst (xs : List D) | ro (xs : List D)
  deriving Inhabited
abbrev Sto := List MO
abbrev Sl := List (Option D)
inductive R (α : Type) where
  | ok (a : α) (S : Sto) | ex (c : Nat) (as : List D) (S : Sto) | bad
def R.bind {α β : Type} (x : R α) (f : α → Sto → R β) : R β :=
  match x with
  | .ok a S => f a S
  | .ex c as S => .ex c as S
  | .bad => .bad
theorem R.bind_ok {α β : Type} {a : α} {S : Sto} {f : α → Sto → R β} : (R.ok a S).bind f = f a S := rfl
theorem R.bind_bad {α β : Type} {f : α → Sto → R β} : (R.bad : R α).bind f = .bad := rfl
def R.of {α : Type} (S : Sto) : Option α → R α
  | some a => .ok a S
  | none => .bad
def lim : Nat := 100000

inductive Op2 where | add | sub | mul | mod | fdiv | pow
  deriving DecidableEq
inductive Cm where | eq | ne | lt | le | gt | ge | isin | notin
  deriving DecidableEq
inductive Bi where | len | tuple | list | int | repr
  deriving DecidableEq
/-- the types that isinstance may ask for -/
inductive Tn where | int | bool | tuple
  deriving DecidableEq
inductive Mt where | append | extend | index
  deriving DecidableEq

mutual
inductive E where
  | var (i : Nat) | cst (d : D)
  | op (o : Op2) (a b : E) | cmp (o : Cm) (a b : E)
  | isN (a : E) | isNN (a : E) | neg (a : E)
  | and (a b : E) | or (a b : E) | not (a : E) | ite (c a b : E)
  | tup (es : EL) | lst (es : EL) | ix (a b : E) | sl (a : E) (lo hi : EO)
  | call (f : Nat) (es : EL) | bi (f : Bi) (es : EL) | mt (m : Mt) (o : E) (es : EL)
  | lc (g : Tg) (it : It) (own : List Nat) (c : EO) (e : E)
  | isi (t : Tn) (a : E) | chn (o p : Cm) (a b c : E)
inductive EL where | nil | cons (e : E) (es : EL)
inductive EO where | none | some (e : E)
inductive It where | seq (e : E) | rng (es : EL) | enum (e : E)
inductive Tg where | name (i : Nat) | tup (gs : TL) | sub (o i : E)
inductive TL where | nil | cons (g : Tg) (gs : TL)
end
def tlen : TL → Nat
  | .nil => 0
  | .cons _ gs => tlen gs + 1
inductive C where
  | skip | seq (a b : C) | asg (g : Tg) (e : E) | par (i j : Nat) (a b : E) | expr (e : E) | ret (e : E)
  | rse (c : Nat) (e : E) | tryP (c i j m : Nat) (b : C)
  | iff (c : E) (a b : C) | for_ (g : Tg) (it : It) (b : C) | whl (c : E) (b : C) | brk | cont

/-! ## what the operations do -/
def moL : Option MO → Option (List D)
  | some (.lst xs) => some xs
  | some (.ro xs) => some xs
  | none => none
/-- data of any depth -/
def flat (S : Sto) : Nat → D → Option PyData
  | 0, _ => none
  | _ + 1, .non => some .none
  | _ + 1, .bl b => some (.bool b)
  | _ + 1, .int i => some (.int i)
  | _ + 1, .str x => some (.str x)
  | n + 1, .tup xs => (xs.mapM (flat S n)).map .tuple
  | n + 1, .rol xs => (xs.mapM (flat S n)).map .list
  | n + 1, .ref r => (moL S[r]?).bind fun xs => (xs.mapM (flat S n)).map .list
def deep : Nat := 40
def eqD (S : Sto) (x y : D) : Option Bool :=
  match flat S deep x, flat S deep y with
  | some a, some b => if SeqAt.shaped a && SeqAt.shaped b then some (PyData.eqv a b) else none
  | _, _ => none
def lsts (S : Sto) : D → Option (List D)
  | .ref r => moL S[r]?
  | .rol xs => some xs
  | _ => none
/-- the items of a list or tuple -/
def seqD (S : Sto) : D → Option (List D)
  | .tup xs => some xs
  | d => lsts S d
def newL (xs : List D) (S : Sto) : R D := if xs.length ≤ lim then .ok (.ref S.length) (S ++ [.lst xs]) else .bad
def op2 : Op2 → D → D → Sto → R D
  | .add, .int i, .int j, S => .ok (.int (i + j)) S
  | .add, .tup a, .tup b, S => if a.length + b.length ≤ lim then .ok (.tup (a ++ b)) S else .bad
  | .add, .ref r, .ref q, S => match S[r]?, S[q]? with
    | some (.lst a), some (.lst b) => if a.length + b.length ≤ lim then .ok (.ref S.length) (S ++ [.lst (a ++ b)]) else .bad
    | _, _ => .bad
  | .sub, .int i, .int j, S => .ok (.int (i - j)) S
  | .mul, .int i, .int j, S => if ((-(2 ^ 64) < i ∧ i < 2 ^ 64) ∨ (-(2 ^ 64) < j ∧ j < 2 ^ 64)) then .ok (.int (i * j)) S else .bad
  | .mul, .tup a, .int k, S => if a ≠ [] ∧ 2 ≤ k ∧ k ≤ 1000 ∧ a.length ≤ 100 then .ok (.tup (List.replicate k.toNat a).flatten) S else .bad
  | .mul, .ref r, .int k, S => match S[r]? with
    | some (.lst a) => if 0 ≤ k ∧ k ≤ 1000 ∧ a.length ≤ 100 then .ok (.ref S.length) (S ++ [.lst (List.replicate k.toNat a).flatten]) else .bad
    | _ => .bad
  | .mod, .int i, .int j, S => if 0 < j then .ok (.int (i % j)) S else .bad
  | .fdiv, .int i, .int j, S => if 0 < j ∧ j < 1073741824 then .ok (.int (i / j)) S else .bad
  | .pow, .int i, .int j, S => if 0 ≤ j ∧ j ≤ 1000000 ∧ i.natAbs < 2 ^ 64 then .ok (.int (i ^ j.toNat)) S else .bad
  | _, _, _, _ => .bad
/-- x in y -/
def inD (S : Sto) (x y : D) : Option Bool :=
  match flat S deep x, flat S deep y with
  | some d, some (.list ds) => if SeqAt.shaped d && SeqAt.shaped (.list ds) then some (ds.any fun z => PyData.eqv z d) else none
  | some d, some (.tuple ds) => if SeqAt.shaped d && SeqAt.shaped (.tuple ds) then some (ds.any fun z => PyData.eqv z d) else none
  | _, _ => none
def cmp2 : Cm → D → D → Sto → Option Bool
  | .eq, x, y, S => eqD S x y
  | .ne, x, y, S => (eqD S x y).map fun b => !b
  | .lt, .int i, .int j, _ => some (decide (i < j))
  | .le, .int i, .int j, _ => some (decide (i ≤ j))
  | .gt, .int i, .int j, _ => some (decide (j < i))
  | .ge, .int i, .int j, _ => some (decide (j ≤ i))
  | .isin, x, y, S => inD S x y
  | .notin, x, y, S => (inD S x y).map fun b => !b
  | _, _, _, _ => none
def truth (S : Sto) : D → Option Bool
  | .bl b => some b
  | .int i => some (i != 0)
  | .non => some false
  | _ => none
def isiD : Tn → D → Bool
  | .int, .int _ => true
  | .int, .bl _ => true
  | .bool, .bl _ => true
  | .tuple, .tup _ => true
  | _, _ => false
def isNon : D → Bool
  | .non => true
  | _ => false
def ixD (S : Sto) (o i : D) : Option D :=
  match i with
  | .int k => (seqD S o).bind fun xs => atI xs k
  | _ => none
def cutD (xs : List D) (lo hi : Option Int) : List D :=
  (xs.drop (HT.sIx xs.length 0 lo)).take (HT.sIx xs.length xs.length hi - HT.sIx xs.length 0 lo)
def slD (o : D) (lo hi : Option Int) (S : Sto) : R D :=
  match o with
  | .tup xs => .ok (.tup (cutD xs lo hi)) S
  | o => match lsts S o with
    | some xs => newL (cutD xs lo hi) S
    | none => .bad
def partD : D → Option Int
  | .int i => some i
  | _ => none
/-- what may be shown: a tuple or a list of plain data, not too deep, its text not too long -/
def showB (p : PyData) : Bool := p.showable && !p.hasDict && decide (p.depth ≤ 60) && decide (p.shown.length ≤ lim)
def isSeq : D → Bool
  | .tup _ => true
  | .ref _ => true
  | .rol _ => true
  | _ => false
def biD : Bi → List D → Sto → R D
  | .len, [d], S => match seqD S d with
    | some xs => .ok (.int xs.length) S
    | none => .bad
  | .tuple, [d], S => match d with
    | .tup xs => .ok (.tup xs) S
    | .ref r => match lsts S (.ref r) with
      | some xs => if xs.length ≤ lim then .ok (.tup xs) S else .bad
      | none => .bad
    | _ => .bad
  | .list, [d], S => match seqD S d with
    | some xs => newL xs S
    | none => .bad
  | .int, [.int i], S => .ok (.int i) S
  | .int, [.bl b], S => .ok (.int (if b then 1 else 0)) S
  | .repr, [d], S => match flat S deep d with
    | some p => if isSeq d && showB p then .ok (.str p.shown) S else .bad
    | none => .bad
  | _, _, _ => .bad
/-- the first place of an equal one -/
def findD (S : Sto) (x y : D) : Option Nat :=
  match flat S deep x, flat S deep y with
  | some d, some (.list ds) => if SeqAt.shaped d && SeqAt.shaped (.list ds) then ds.findIdx? (fun z => PyData.eqv z d) else none
  | some d, some (.tuple ds) => if SeqAt.shaped d && SeqAt.shaped (.tuple ds) && decide (ds.length ≤ lim) then ds.findIdx? (fun z => PyData.eqv z d) else none
  | _, _ => none
def mtD : Mt → D → List D → Sto → R D
  | .append, .ref r, [d], S => match S[r]? with
    | some (.lst xs) => if xs.length < lim then .ok .non (S.set r (.lst (xs ++ [d]))) else .bad
    | _ => .bad
  | .extend, .ref r, [.ref q], S => match S[r]?, S[q]? with
    | some (.lst xs), some (.lst ys) => if xs.length + ys.length ≤ lim then .ok .non (S.set r (.lst (xs ++ ys))) else .bad
    | _, _ => .bad
  | .index, o, [d], S => R.of S ((findD S d o).map fun (j : Nat) => D.int (j : Nat))
  | _, _, _, _ => .bad
def mtOk : Mt → D → Bool
  | .append, .ref _ => true
  | .extend, .ref _ => true
  | .index, .ref _ => true
  | .index, .tup _ => true
  | _, _ => false
/-- an item as a loop's target meets it: one thing, or a pair just made -/
inductive Y where | one (d : D) | pr (a b : D)
/-- what is walked -/
inductive RI where
  | tup (xs : List D) | lst (r : Nat) | rng (lo c : Int) (n : Nat) | etup (xs : List D) | elst (r : Nat)
def RI.nxt (S : Sto) (i : Nat) : RI → Option (Option Y)
  | .tup xs => some (xs[i]?.map .one)
  | .lst r => (lsts S (.ref r)).map fun xs => xs[i]?.map .one
  | .rng lo c n => some (if i < n then some (.one (.int (lo + (i : Nat) * c))) else none)
  | .etup xs => some (xs[i]?.map fun x => .pr (.int (i : Nat)) x)
  | .elst r => (lsts S (.ref r)).map fun xs => xs[i]?.map fun x => .pr (.int (i : Nat)) x
def small62 (i : Int) : Bool := decide (-(2 ^ 62) ≤ i ∧ i < 2 ^ 62)
def rngD : List D → Option RI
  | [.int j] => if small62 j then some (.rng 0 1 j.toNat) else none
  | [.int i, .int j] => if small62 i && small62 j then some (.rng i 1 (j - i).toNat) else none
  | [.int i, .int j, .int c] => if c ≠ 0 ∧ c.natAbs < 1073741824 ∧ Builtin.Range.small i j c = true then some (.rng i c (Builtin.Range.rangeSize i j c).toNat) else none
  | _ => none
inductive Ct where | nx | rt (d : D) | bk | ct
abbrev RC := R (Ct × Sl)
def forL (tg : Y → Sl → Sto → R Sl) (body : Sl → Sto → RC) (it : RI) : Nat → Nat → Sl → Sto → RC
  | 0, _, _, _ => .bad
  | f + 1, i, ε, S => match it.nxt S i with
    | none => .bad
    | some none => .ok (.nx, ε) S
    | some (some d) => (tg d ε S).bind fun ε1 S1 => (body ε1 S1).bind fun r S2 => match r with
      | (.nx, ε2) => forL tg body it f (i + 1) ε2 S2
      | (.ct, ε2) => forL tg body it f (i + 1) ε2 S2
      | (.bk, ε2) => .ok (.nx, ε2) S2
      | (.rt v, ε2) => .ok (.rt v, ε2) S2
def whlL (c : Sl → Sto → R Bool) (body : Sl → Sto → RC) : Nat → Sl → Sto → RC
  | 0, _, _ => .bad
  | f + 1, ε, S => (c ε S).bind fun b S1 => if b then (body ε S1).bind fun r S2 => match r with
      | (.nx, ε2) => whlL c body f ε2 S2
      | (.ct, ε2) => whlL c body f ε2 S2
      | (.bk, ε2) => .ok (.nx, ε2) S2
      | (.rt v, ε2) => .ok (.rt v, ε2) S2
    else .ok (.nx, ε) S1
def setD (x y d : D) (ε : Sl) (S : Sto) : R Sl :=
  match x, y with
  | .ref r, .int k => match S[r]? with
    | some (.lst xs) => match ixN xs.length k with
      | some j => .ok ε (S.set r (.lst (xs.set j d)))
      | none => .bad
    | _ => .bad
  | _, _ => .bad
def unex {α : Type} : R α → R α
  | .ok a S => .ok a S
  | _ => .bad
/-- a comprehension: q the new list's place -/
def lcL (tg : Y → Sl → Sto → R Sl) (c : Sl → Sto → R Bool) (e : Sl → Sto → R D) (it : RI) (ε : Sl) (q : Nat) : Nat → Nat → Sto → R D
  | 0, _, _ => .bad
  | f + 1, i, S => match it.nxt S i with
    | none => .bad
    | some none => .ok (.ref q) S
    | some (some d) => (tg d ε S).bind fun ε1 S1 => (c ε1 S1).bind fun b S2 => if b then (e ε1 S2).bind fun v S3 => match S3[q]? with
        | some (.lst xs) => if xs.length < lim then lcL tg c e it ε q f (i + 1) (S3.set q (.lst (xs ++ [v]))) else .bad
        | _ => .bad
      else lcL tg c e it ε q f (i + 1) S2
def okEx (S : Sto) (d : D) : Bool := match flat S deep d with
  | some p => isSeq d && showB p
  | none => false
/-- what the clause makes of the body's end: only the path is kept -/
def tryR (c i j m : Nat) (r : RC) : RC := match r with
  | .ok v S1 => .ok v S1
  | .ex c1 as S1 => (match as with
    | [d] => if c1 = c then .ok (.nx, ((List.replicate m none).set i (some d)).set j none) S1 else .bad
    | _ => .bad)
  | .bad => .bad
def wipeD (ε : Sl) : List Nat → Sl
  | [] => ε
  | v :: vs => (wipeD ε vs).set v none

section
variable (cl : Nat → List D → Sto → R D) (F : Nat)
mutual
def ev : E → Sl → Sto → R D
  | .var i, ε, S => match ε[i]? with
    | some (some d) => .ok d S
    | _ => .bad
  | .cst d, _, S => .ok d S
  | .op o a b, ε, S => (ev a ε S).bind fun x S1 => (ev b ε S1).bind fun y S2 => op2 o x y S2
  | .cmp o a b, ε, S => (ev a ε S).bind fun x S1 => (ev b ε S1).bind fun y S2 => R.of S2 ((cmp2 o x y S2).map .bl)
  | .isN a, ε, S => (ev a ε S).bind fun x S1 => .ok (.bl (isNon x)) S1
  | .isNN a, ε, S => (ev a ε S).bind fun x S1 => .ok (.bl (!isNon x)) S1
  | .neg a, ε, S => (ev a ε S).bind fun x S1 => match x with
    | .int i => .ok (.int (-i)) S1
    | _ => .bad
  | .and a b, ε, S => (ev a ε S).bind fun x S1 => match x with
    | .bl true => ev b ε S1
    | .bl false => .ok (.bl false) S1
    | _ => .bad
  | .or a b, ε, S => (ev a ε S).bind fun x S1 => match x with
    | .bl true => .ok (.bl true) S1
    | .bl false => ev b ε S1
    | _ => .bad
  | .not a, ε, S => (ev a ε S).bind fun x S1 => match x with
    | .bl b => .ok (.bl (!b)) S1
    | _ => .bad
  | .ite c a b, ε, S => (evT c ε S).bind fun k S1 => if k then ev a ε S1 else ev b ε S1
  | .tup es, ε, S => (evL es ε S).bind fun xs S1 => if xs.length ≤ lim then .ok (.tup xs) S1 else .bad
  | .lst es, ε, S => (evL es ε S).bind fun xs S1 => newL xs S1
  | .ix a b, ε, S => (ev a ε S).bind fun x S1 => (ev b ε S1).bind fun y S2 => R.of S2 (ixD S2 x y)
  | .sl a lo hi, ε, S => (ev a ε S).bind fun x S1 => (evO lo ε S1).bind fun l S2 => (evO hi ε S2).bind fun h S3 => slD x l h S3
  | .call f es, ε, S => (evL es ε S).bind fun xs S1 => cl f xs S1
  | .bi f es, ε, S => (evL es ε S).bind fun xs S1 => biD f xs S1
  | .mt m o es, ε, S => (ev o ε S).bind fun x S1 => if mtOk m x then (evL es ε S1).bind fun xs S2 => mtD m x xs S2 else .bad
  | .lc g it own c e, ε, S => (evI it ε S).bind fun J S1 => unex (lcL (asg g) (evC c) (ev e) J (wipeD ε own) S1.length F 0 (S1 ++ [.lst []]))
  | .isi t a, ε, S => (ev a ε S).bind fun x S1 => .ok (.bl (isiD t x)) S1
  | .chn o p a b c, ε, S => ((ev a ε S).bind fun x S1 => (ev b ε S1).bind fun y S2 => (R.of S2 (cmp2 o x y S2)).bind fun k S3 => if k then (ev c ε S3).bind fun z S4 => R.of S4 (cmp2 p y z S4) else .ok false S3).bind fun k S5 => .ok (.bl k) S5
def evT : E → Sl → Sto → R Bool
  | .var i, ε, S => match ε[i]? with
    | some (some d) => R.of S (truth S d)
    | _ => .bad
  | .cst d, ε, S => R.of S (truth S d)
  | .op o a b, ε, S => .bad
  | .cmp o a b, ε, S => (ev a ε S).bind fun x S1 => (ev b ε S1).bind fun y S2 => R.of S2 (cmp2 o x y S2)
  | .isN a, ε, S => (ev a ε S).bind fun x S1 => .ok (isNon x) S1
  | .isNN a, ε, S => (ev a ε S).bind fun x S1 => .ok (!isNon x) S1
  | .neg a, ε, S => .bad
  | .and a b, ε, S => (evT a ε S).bind fun k S1 => if k then evT b ε S1 else .ok false S1
  | .or a b, ε, S => (evT a ε S).bind fun k S1 => if k then .ok true S1 else evT b ε S1
  | .not a, ε, S => (evT a ε S).bind fun k S1 => .ok (!k) S1
  | .ite c a b, ε, S => .bad
  | .tup es, ε, S => .bad
  | .lst es, ε, S => .bad
  | .ix a b, ε, S => (ev a ε S).bind fun x S1 => (ev b ε S1).bind fun y S2 => R.of S2 ((ixD S2 x y).bind (truth S2))
  | .sl a lo hi, ε, S => .bad
  | .call f es, ε, S => (evL es ε S).bind fun xs S1 => (cl f xs S1).bind fun d S2 => R.of S2 (truth S2 d)
  | .bi f es, ε, S => (evL es ε S).bind fun xs S1 => (biD f xs S1).bind fun d S2 => R.of S2 (truth S2 d)
  | .mt m o es, ε, S => .bad
  | .lc g it own c e, ε, S => .bad
  | .isi t a, ε, S => (ev a ε S).bind fun x S1 => .ok (isiD t x) S1
  | .chn o p a b c, ε, S => (ev a ε S).bind fun x S1 => (ev b ε S1).bind fun y S2 => (R.of S2 (cmp2 o x y S2)).bind fun k S3 => if k then (ev c ε S3).bind fun z S4 => R.of S4 (cmp2 p y z S4) else .ok false S3
def evL : EL → Sl → Sto → R (List D)
  | .nil, _, S => .ok [] S
  | .cons e es, ε, S => (ev e ε S).bind fun x S1 => (evL es ε S1).bind fun xs S2 => .ok (x :: xs) S2
def evO : EO → Sl → Sto → R (Option Int)
  | .none, _, S => .ok none S
  | .some e, ε, S => (ev e ε S).bind fun x S1 => match x with
    | .int i => .ok (some i) S1
    | _ => .bad
/-- an if of a comprehension -/
def evC : EO → Sl → Sto → R Bool
  | .none, _, S => .ok true S
  | .some e, ε, S => evT e ε S
def evI : It → Sl → Sto → R RI
  | .seq e, ε, S => (ev e ε S).bind fun x S1 => match x with
    | .tup xs => .ok (.tup xs) S1
    | .ref r => if (lsts S1 (.ref r)).isSome then .ok (.lst r) S1 else .bad
    | _ => .bad
  | .rng es, ε, S => (evL es ε S).bind fun xs S1 => R.of S1 (rngD xs)
  | .enum e, ε, S => (ev e ε S).bind fun x S1 => match x with
    | .tup xs => .ok (.etup xs) S1
    | .ref r => if (lsts S1 (.ref r)).isSome then .ok (.elst r) S1 else .bad
    | _ => .bad
def asg : Tg → Y → Sl → Sto → R Sl
  | .name i, y, ε, S => match y with
    | .one d => .ok (ε.set i (some d)) S
    | .pr _ _ => .bad
  | .tup gs, y, ε, S => match y with
    | .one (.tup xs) => if xs.length = tlen gs then asgL gs xs ε S else .bad
    | .pr a b => if 2 = tlen gs then asgL gs [a, b] ε S else .bad
    | _ => .bad
  | .sub o i, y, ε, S => match y with
    | .one d => (ev o ε S).bind fun x S1 => (ev i ε S1).bind fun y S2 => setD x y d ε S2
    | .pr _ _ => .bad
def asgL : TL → List D → Sl → Sto → R Sl
  | .nil, xs, ε, S => match xs with
    | [] => .ok ε S
    | _ => .bad
  | .cons g gs, xs, ε, S => match xs with
    | x :: xs => (asg g (.one x) ε S).bind fun ε1 S1 => asgL gs xs ε1 S1
    | [] => .bad
end
def xc : C → Sl → Sto → RC
  | .skip, ε, S => .ok (.nx, ε) S
  | .seq a b, ε, S => (xc a ε S).bind fun r S1 => match r with
    | (.nx, ε1) => xc b ε1 S1
    | r => .ok r S1
  | .asg g e, ε, S => (ev cl F e ε S).bind fun d S1 => (asg cl F g (.one d) ε S1).bind fun ε1 S2 => .ok (.nx, ε1) S2
  | .par i j a b, ε, S => (ev cl F a ε S).bind fun x S1 => (ev cl F b ε S1).bind fun y S2 => .ok (.nx, (ε.set i (some x)).set j (some y)) S2
  | .expr e, ε, S => (ev cl F e ε S).bind fun _ S1 => .ok (.nx, ε) S1
  | .ret e, ε, S => (ev cl F e ε S).bind fun d S1 => .ok (.rt d, ε) S1
  | .iff c a b, ε, S => (evT cl F c ε S).bind fun k S1 => if k then xc a ε S1 else xc b ε S1
  | .for_ g it b, ε, S => (evI cl F it ε S).bind fun J S1 => forL (asg cl F g) (xc b) J F 0 ε S1
  | .whl c b, ε, S => whlL (evT cl F c) (xc b) F ε S
  | .rse c e, ε, S => (ev cl F e ε S).bind fun d S1 => if okEx S1 d then .ex c [d] S1 else .bad
  | .tryP c i j m b, ε, S => tryR c i j m (xc b ε S)
  | .brk, ε, S => .ok (.bk, ε) S
  | .cont, ε, S => .ok (.ct, ε) S
end
structure Df where
  name : Str
  ps : List Str
  N : List Str
  body : C
def call (defs : List Df) (F : Nat) : Nat → Nat → List D → Sto → R D
  | 0, _, _, _ => .bad
  | k + 1, f, ds, S => match defs[f]? with
    | none => .bad
    | some d => if ds.length = d.ps.length then
        (xc (call defs F k) F d.body (ds.map some ++ List.replicate (d.N.length - ds.length) none) S).bind fun r S1 => match r with
          | (.nx, _) => .ok .non S1
          | (.rt v, _) => .ok v S1
          | _ => .bad
      else .bad
end Mi

set_option maxRecDepth 100000
namespace Mi
open PySem L2

/-- a list that nobody writes: the script -/
def RoL (K : PySem.W.Frag) (H : Hp) (a : Addr) (xs : List V) : Prop := (∃ o, H a = some (.frz o (.lst xs))) ∨
  ∃ (o : Obj) (its : Array Value) (n : Nat), K.lookup a = some o ∧ o.cls = .type "list" ∧ o.dict = none ∧ o.data = .seq its n ∧ its.size ≤ sizeLine ∧ Vals xs its.toList
theorem RoL.sq {K : PySem.W.Frag} {H : Hp} {a : Addr} {xs : List V} (h : RoL K H a xs) : SqL K H a xs := h.elim (fun ⟨o, e⟩ => .inl (.inr ⟨o, e⟩)) .inr
mutual
inductive DV (K : PySem.W.Frag) (H : Hp) (α : List Addr) : D → V → Prop
  | non : DV K H α .non .non
  | bl (b : Bool) : DV K H α (.bl b) (.bl b)
  | int (i : Int) : DV K H α (.int i) (.int i)
  | str (x : Str) : DV K H α (.str x) (.str x)
  | tup {a : Addr} {xs : List V} {ds : List D} : TupR K H a xs → DVs K H α ds xs → DV K H α (.tup ds) (.ref a)
  | ref {n : Nat} {a : Addr} : α[n]? = some a → DV K H α (.ref n) (.ref a)
  | rol {a : Addr} {xs : List V} {ds : List D} : RoL K H a xs → DVs K H α ds xs → DV K H α (.rol ds) (.ref a)
inductive DVs (K : PySem.W.Frag) (H : Hp) (α : List Addr) : List D → List V → Prop
  | nil : DVs K H α [] []
  | cons {d : D} {v : V} {ds : List D} {vs : List V} : DV K H α d v → DVs K H α ds vs → DVs K H α (d :: ds) (v :: vs)
end
def MOk (K : PySem.W.Frag) (H : Hp) (α : List Addr) (a : Addr) : MO → Prop
  | .lst ds => ∃ xs, H a = some (.lst xs) ∧ DVs K H α ds xs
  | .ro _ => False
structure SR (K : PySem.W.Frag) (H : Hp) (α : List Addr) (S : Sto) : Prop where
  len : α.length = S.length
  nd : α.Nodup
  ok : ∀ (n : Nat) (o : MO), S[n]? = some o → ∃ a, α[n]? = some a ∧ MOk K H α a o
structure Ag (H H' : Hp) (α α' : List Addr) : Prop where
  ext : ∃ t, α' = α ++ t ∧ ∀ a ∈ t, H a = none
  keep : ∀ a o, H a = some o → a ∉ α → H' a = some o
structure SL (K : PySem.W.Frag) (H : Hp) (α : List Addr) (ε : Sl) (σ : L2.St) : Prop where
  len : ε.length = σ.length
  at_ : ∀ (i : Nat) (d : D), ε[i]? = some (some d) → ∃ v, σ[i]? = some (some v) ∧ DV K H α d v

section
variable {K : PySem.W.Frag} {H H' H1 H2 : Hp} {α α' α1 α2 : List Addr} {S S' S1 S2 : Sto} {d : D} {v : V} {ds : List D} {vs xs : List V} {a : Addr} {o : HO}
theorem SR.mut (s : SR K H α S) (h : a ∈ α) : ∃ xs, H a = some (.lst xs) := by
  obtain ⟨n, hn⟩ := List.getElem?_of_mem h
  have hl : n < S.length := by rw [← s.len]; exact (List.getElem?_eq_some_iff.mp hn).1
  obtain ⟨b, hb, q⟩ := s.ok n S[n] (List.getElem?_eq_getElem hl)
  rw [hn] at hb; cases hb
  cases hS : S[n] with
  | lst ds => rw [hS] at q; obtain ⟨xs, q, _⟩ := q; exact ⟨xs, q⟩
  | ro ds => rw [hS] at q; exact False.elim q
theorem Ag.refl : Ag H H α α := ⟨⟨[], by simp, by simp⟩, fun _ _ h _ => h⟩
theorem Ag.trans (g : Ag H H1 α α1) (s : SR K H1 α1 S1) (k : Ag H1 H2 α1 α2) : Ag H H2 α α2 := by
  obtain ⟨t, e, f⟩ := g.ext
  obtain ⟨u, e', f'⟩ := k.ext
  refine ⟨⟨t ++ u, by rw [e', e, List.append_assoc], fun b hb => ?_⟩, fun b o h hb => ?_⟩
  · rcases List.mem_append.mp hb with hb | hb
    · exact f b hb
    · cases q : H b with
      | none => rfl
      | some o =>
        have h1 := f' b hb
        by_cases hm : b ∈ α
        · have hm1 : b ∈ α1 := by rw [e]; exact List.mem_append_left _ hm
          obtain ⟨_, z⟩ := s.mut hm1
          rw [h1] at z; cases z
        · have z := g.keep b o q hm
          rw [h1] at z; cases z
  · by_cases hb1 : b ∈ α1
    · rw [e] at hb1
      rcases List.mem_append.mp hb1 with z | z
      · exact absurd z hb
      · rw [f b z] at h; cases h
    · exact k.keep b o (g.keep b o h hb) hb1
theorem SR.tupR (s : SR K H α S) (g : Ag H H' α α') (h : TupR K H a xs) : TupR K H' a xs := by
  rcases h with ⟨ob, h, hd⟩ | h
  · refine .inl ⟨ob, g.keep _ _ h fun hm => ?_, hd⟩
    obtain ⟨xs, z⟩ := s.mut hm
    rw [h] at z; exact nomatch Option.some.inj z
  · exact .inr h
theorem SR.roL (s : SR K H α S) (g : Ag H H' α α') (h : RoL K H a xs) : RoL K H' a xs := by
  rcases h with ⟨ob, h⟩ | h
  · refine .inl ⟨ob, g.keep _ _ h fun hm => ?_⟩
    obtain ⟨xs, z⟩ := s.mut hm
    rw [h] at z; exact nomatch Option.some.inj z
  · exact .inr h
theorem Ag.get (g : Ag H H' α α') {n : Nat} (h : α[n]? = some a) : α'[n]? = some a := by
  obtain ⟨t, e, _⟩ := g.ext
  rw [e, List.getElem?_append_left (List.getElem?_eq_some_iff.mp h).1]
  exact h
mutual
theorem DV.mono (s : SR K H α S) (g : Ag H H' α α') : ∀ {d : D} {v : V}, DV K H α d v → DV K H' α' d v
  | _, _, .non => .non
  | _, _, .bl b => .bl b
  | _, _, .int i => .int i
  | _, _, .str x => .str x
  | _, _, .tup h hs => .tup (s.tupR g h) (DVs.mono s g hs)
  | _, _, .ref h => .ref (g.get h)
  | _, _, .rol h hs => .rol (s.roL g h) (DVs.mono s g hs)
theorem DVs.mono (s : SR K H α S) (g : Ag H H' α α') : ∀ {ds : List D} {vs : List V}, DVs K H α ds vs → DVs K H' α' ds vs
  | _, _, .nil => .nil
  | _, _, .cons h hs => .cons (DV.mono s g h) (DVs.mono s g hs)
end
theorem SL.mono {ε : Sl} {σ : L2.St} (s : SR K H α S) (g : Ag H H' α α') (l : SL K H α ε σ) : SL K H' α' ε σ :=
  ⟨l.len, fun i d h => let ⟨v, e, q⟩ := l.at_ i d h; ⟨v, e, q.mono s g⟩⟩
theorem SL.set {ε : Sl} {σ : L2.St} (l : SL K H α ε σ) (i : Nat) (h : DV K H α d v) : SL K H α (ε.set i (some d)) (σ.set i (some v)) := by
  refine ⟨by rw [List.length_set, List.length_set]; exact l.len, fun j e he => ?_⟩
  by_cases hj : i = j
  · subst hj
    by_cases hl : i < ε.length
    · rw [List.getElem?_set_self hl] at he
      have e' := Option.some.inj (Option.some.inj he)
      subst e'
      exact ⟨v, by rw [List.getElem?_set_self (by rw [← l.len]; exact hl)], h⟩
    · rw [List.getElem?_eq_none (by simpa using hl)] at he; cases he
  · rw [List.getElem?_set_ne hj] at he ⊢
    exact l.at_ j e he
theorem SL.setN {ε : Sl} {σ : L2.St} (l : SL K H α ε σ) (i : Nat) : SL K H α (ε.set i none) (σ.set i none) := by
  refine ⟨by rw [List.length_set, List.length_set]; exact l.len, fun j e he => ?_⟩
  by_cases hj : i = j
  · subst hj
    by_cases hl : i < ε.length
    · rw [List.getElem?_set_self hl] at he; cases he
    · rw [List.getElem?_eq_none (by simpa using hl)] at he; cases he
  · rw [List.getElem?_set_ne hj] at he ⊢
    exact l.at_ j e he
theorem SL.wipe {ε : Sl} {σ : L2.St} (l : SL K H α ε σ) : ∀ vs : List Nat, SL K H α (wipeD ε vs) (L2.wipe σ vs)
  | [] => l
  | v :: vs => (l.wipe vs).setN v
theorem DVs.length : ∀ {ds : List D} {vs : List V}, DVs K H α ds vs → ds.length = vs.length
  | _, _, .nil => rfl
  | _, _, .cons _ h => by rw [List.length_cons, List.length_cons, h.length]
theorem DVs.append : ∀ {ds es : List D} {vs ws : List V}, DVs K H α ds vs → DVs K H α es ws → DVs K H α (ds ++ es) (vs ++ ws)
  | _, _, _, _, .nil, h => h
  | _, _, _, _, .cons h1 h2, h => .cons h1 (h2.append h)
theorem DVs.get : ∀ {ds : List D} {vs : List V} {i : Nat} {d : D}, DVs K H α ds vs → ds[i]? = some d → ∃ v, vs[i]? = some v ∧ DV K H α d v
  | _, _, _, _, .nil, e => by simp at e
  | _, _, 0, _, .cons h _, e => by simp at e; subst e; exact ⟨_, rfl, h⟩
  | _, _, i + 1, _, .cons _ h, e => by
    obtain ⟨v, h1, h2⟩ := DVs.get (i := i) h (by simpa using e)
    exact ⟨v, by simpa using h1, h2⟩
theorem DVs.getV : ∀ {ds : List D} {vs : List V} {i : Nat} {v : V}, DVs K H α ds vs → vs[i]? = some v → ∃ d, ds[i]? = some d ∧ DV K H α d v
  | _, _, _, _, .nil, e => by simp at e
  | _, _, 0, _, .cons h _, e => by simp at e; subst e; exact ⟨_, rfl, h⟩
  | _, _, i + 1, _, .cons _ h, e => by
    obtain ⟨v, h1, h2⟩ := DVs.getV (i := i) h (by simpa using e)
    exact ⟨v, by simpa using h1, h2⟩
theorem DVs.drop : ∀ {ds : List D} {vs : List V} (n : Nat), DVs K H α ds vs → DVs K H α (ds.drop n) (vs.drop n)
  | _, _, 0, h => h
  | _, _, _ + 1, .nil => .nil
  | _, _, n + 1, .cons _ h => h.drop n
theorem DVs.take : ∀ {ds : List D} {vs : List V} (n : Nat), DVs K H α ds vs → DVs K H α (ds.take n) (vs.take n)
  | _, _, 0, _ => .nil
  | _, _, _ + 1, .nil => .nil
  | _, _, n + 1, .cons h hs => .cons h (hs.take n)
theorem DVs.set : ∀ {ds : List D} {vs : List V} (i : Nat), DV K H α d v → DVs K H α ds vs → DVs K H α (ds.set i d) (vs.set i v)
  | _, _, _, _, .nil => .nil
  | _, _, 0, q, .cons _ h => .cons q h
  | _, _, i + 1, q, .cons h hs => .cons h (hs.set i q)
theorem DVs.cut (lo hi : Option Int) (h : DVs K H α ds vs) : DVs K H α (cutD ds lo hi) (cutV vs lo hi) := by
  unfold cutD cutV
  rw [h.length]
  exact (h.drop _).take _
theorem DVs.rep (h : DVs K H α ds vs) : ∀ n, DVs K H α (List.replicate n ds).flatten (List.replicate n vs).flatten
  | 0 => .nil
  | n + 1 => by
    rw [List.replicate_succ, List.replicate_succ, List.flatten_cons, List.flatten_cons]
    exact h.append (h.rep n)
theorem DVs.ofSome (h : DVs K H α ds vs) (n : Nat) : SL K H α (ds.map some ++ List.replicate (n - ds.length) none) (vs.map some ++ List.replicate (n - vs.length) none) := by
  refine ⟨by simp [h.length], fun i d he => ?_⟩
  by_cases hi : i < ds.length
  · rw [List.getElem?_append_left (by simpa using hi), List.getElem?_map] at he
    have e : ds[i]? = some d := by
      cases q : ds[i]? with
      | none => rw [q] at he; cases he
      | some z => rw [q] at he; exact congrArg some (Option.some.inj (Option.some.inj he))
    obtain ⟨v, hv, q⟩ := h.get e
    refine ⟨v, ?_, q⟩
    rw [List.getElem?_append_left (by rw [List.length_map, ← h.length]; exact hi), List.getElem?_map, hv]
    rfl
  · rw [List.getElem?_append_right (by simpa using hi), List.getElem?_replicate] at he
    split at he <;> cases he

/-! ### changes of the heap -/
theorem MOk.mono {m : MO} (s : SR K H α S) (g : Ag H H' α α') (h : MOk K H α a m) (e : H' a = H a) : MOk K H' α' a m := by
  cases m with
  | lst ds => obtain ⟨xs, h1, h2⟩ := h; exact ⟨xs, e.trans h1, h2.mono s g⟩
  | ro ds => exact False.elim h
theorem SR.newAg (s : SR K H α S) (n : H a = none) : Ag H (upd H a o) α α := ⟨⟨[], by simp, by simp⟩, fun b u h _ => by rw [upd_ne (ne_of_none h n)]; exact h⟩
theorem SR.newAg' (s : SR K H α S) (n : H a = none) : Ag H (upd H a o) α (α ++ [a]) := ⟨⟨[a], rfl, fun b hb => by rw [List.mem_singleton.mp hb]; exact n⟩, fun b u h _ => by rw [upd_ne (ne_of_none h n)]; exact h⟩
theorem SR.there (s : SR K H α S) {n : Nat} (h : α[n]? = some a) : ∃ o, H a = some o := by
  obtain ⟨xs, z⟩ := s.mut (List.mem_of_getElem? h)
  exact ⟨_, z⟩
theorem SR.new (s : SR K H α S) (n : H a = none) : SR K (upd H a o) α S :=
  ⟨s.len, s.nd, fun m q h => by
    obtain ⟨b, hb, k⟩ := s.ok m q h
    obtain ⟨u, hu⟩ := s.there hb
    exact ⟨b, hb, k.mono s (s.newAg n) (upd_ne (ne_of_none hu n))⟩⟩
theorem SR.newT {ob : Obj} (s : SR K H α S) (n : H a = none) (e : ob.dict = none) (h : DVs K H α ds xs) : DV K (upd H a (.frz ob (.tup xs))) α (.tup ds) (.ref a) :=
  .tup (.inl ⟨ob, upd_same, e⟩) (h.mono s (s.newAg n))
theorem SR.newL (s : SR K H α S) (n : H a = none) (h : DVs K H α ds xs) : SR K (upd H a (.lst xs)) (α ++ [a]) (S ++ [.lst ds]) := by
  have g : Ag H (upd H a (.lst xs)) α (α ++ [a]) := s.newAg' n
  refine ⟨by simp [s.len], ?_, fun m q hq => ?_⟩
  · refine List.nodup_append.mpr ⟨s.nd, by simp, fun b hb c hc => ?_⟩
    rw [List.mem_singleton.mp hc]
    obtain ⟨k, hk⟩ := List.getElem?_of_mem hb
    obtain ⟨u, hu⟩ := s.there hk
    exact ne_of_none hu n
  · by_cases hm : m < S.length
    · rw [List.getElem?_append_left hm] at hq
      obtain ⟨b, hb, k⟩ := s.ok m q hq
      obtain ⟨u, hu⟩ := s.there hb
      exact ⟨b, g.get hb, k.mono s g (upd_ne (ne_of_none hu n))⟩
    · have e : m = S.length := by
        have := (List.getElem?_eq_some_iff.mp hq).1
        simp at this
        omega
      subst e
      rw [List.getElem?_append_right (Nat.le_refl _), Nat.sub_self] at hq
      have e' := Option.some.inj hq
      subst e'
      refine ⟨a, ?_, xs, upd_same, h.mono s g⟩
      rw [← s.len, List.getElem?_append_right (Nat.le_refl _), Nat.sub_self]
      rfl
theorem SR.newLref (s : SR K H α S) : (α ++ [a])[S.length]? = some a := by
  rw [← s.len, List.getElem?_append_right (Nat.le_refl _), Nat.sub_self]
  rfl
theorem nd_at {α : Type} {l : List α} (hN : l.Nodup) {i j : Nat} {x : α} (a : l[i]? = some x) (b : l[j]? = some x) : i = j := by
  obtain ⟨h1, e1⟩ := List.getElem?_eq_some_iff.mp a
  obtain ⟨h2, e2⟩ := List.getElem?_eq_some_iff.mp b
  exact (List.getElem_inj hN).mp (e1.trans e2.symm)
theorem SR.setAg {r : Nat} (s : SR K H α S) (h : α[r]? = some a) : Ag H (upd H a o) α α :=
  ⟨⟨[], by simp, by simp⟩, fun b u hb nb => by rw [upd_ne (fun z => nb (by rw [z]; exact List.mem_of_getElem? h))]; exact hb⟩
theorem SR.setL {r : Nat} (s : SR K H α S) (h : α[r]? = some a) (q : DVs K H α ds xs) : SR K (upd H a (.lst xs)) α (S.set r (.lst ds)) := by
  have g : Ag H (upd H a (.lst xs)) α α := s.setAg h
  refine ⟨by rw [List.length_set]; exact s.len, s.nd, fun m o ho => ?_⟩
  by_cases hm : r = m
  · subst hm
    have hl : r < S.length := by rw [← s.len]; exact (List.getElem?_eq_some_iff.mp h).1
    rw [List.getElem?_set_self hl] at ho
    have e := Option.some.inj ho
    subst e
    exact ⟨a, h, xs, upd_same, q.mono s g⟩
  · rw [List.getElem?_set_ne hm] at ho
    obtain ⟨b, hb, k⟩ := s.ok m o ho
    exact ⟨b, hb, k.mono s g (upd_ne (fun z => hm (nd_at s.nd h (z ▸ hb))))⟩
theorem SR.lst {r : Nat} (s : SR K H α S) (h : S[r]? = some (.lst ds)) : ∃ a xs, α[r]? = some a ∧ H a = some (.lst xs) ∧ DVs K H α ds xs := by
  obtain ⟨a, ha, xs, h1, h2⟩ := s.ok r _ h
  exact ⟨a, xs, ha, h1, h2⟩
theorem SR.lsts {r : Nat} (s : SR K H α S) (h : lsts S (.ref r) = some ds) : ∃ a xs, α[r]? = some a ∧ SqL K H a xs ∧ DVs K H α ds xs := by
  have h : moL S[r]? = some ds := h
  cases q : S[r]? with
  | none => rw [q] at h; cases h
  | some m =>
    rw [q] at h
    cases m with
    | lst es =>
      have e : es = ds := Option.some.inj h
      subst e
      obtain ⟨a, ha, xs, h1, h2⟩ := s.ok r _ q
      exact ⟨a, xs, ha, .inl (.inl h1), h2⟩
    | ro es =>
      have e : es = ds := Option.some.inj h
      subst e
      obtain ⟨a, ha, h1⟩ := s.ok r _ q
      exact False.elim h1
theorem DV.int_inv {i : Int} (h : DV K H α (.int i) v) : v = .int i := by cases h; rfl
theorem DV.bl_inv {i : Bool} (h : DV K H α (.bl i) v) : v = .bl i := by cases h; rfl
theorem DV.str_inv {i : Str} (h : DV K H α (.str i) v) : v = .str i := by cases h; rfl
theorem DV.non_inv (h : DV K H α .non v) : v = .non := by cases h; rfl
theorem DV.tup_inv (h : DV K H α (.tup ds) v) : ∃ a xs, v = .ref a ∧ TupR K H a xs ∧ DVs K H α ds xs := by
  cases h with
  | tup h1 h2 => exact ⟨_, _, rfl, h1, h2⟩
theorem DV.ref_inv {r : Nat} (h : DV K H α (.ref r) v) : ∃ a, v = .ref a ∧ α[r]? = some a := by
  cases h with
  | ref h => exact ⟨_, rfl, h⟩
theorem SR.seqD (s : SR K H α S) (h : DV K H α d v) (q : seqD S d = some ds) : ∃ a xs, v = .ref a ∧ (SqL K H a xs ∨ SqT K H a xs) ∧ DVs K H α ds xs := by
  cases d with
  | tup es =>
    have e : es = ds := Option.some.inj q
    subst e
    obtain ⟨a, xs, rfl, h1, h2⟩ := h.tup_inv
    exact ⟨a, xs, rfl, .inr h1.sq, h2⟩
  | ref r =>
    obtain ⟨a, rfl, ha⟩ := h.ref_inv
    obtain ⟨b, xs, hb, h1, h2⟩ := s.lsts (r := r) q
    rw [ha] at hb; cases hb
    exact ⟨a, xs, rfl, .inl h1, h2⟩
  | rol es =>
    have e : es = ds := Option.some.inj q
    subst e
    cases h with
    | rol h1 h2 => exact ⟨_, _, rfl, .inl h1.sq, h2⟩
  | non => cases q
  | bl _ => cases q
  | int _ => cases q
  | str _ => cases q

/-! ### data of any depth -/
theorem dpAll_of {n : Nat} (ih : ∀ {d : D} {v : V} {p : PyData}, DV K H α d v → flat S n d = some p → Dp K H v p) :
    ∀ {ds : List D} {vs : List V} {ps : List PyData}, DVs K H α ds vs → ds.mapM (flat S n) = some ps → DpAll K H vs ps
  | [], _, ps, h, e => by
    cases h
    have e' : some [] = some ps := e
    cases e'
    exact .nil
  | d :: ds, _, ps, h, e => by
    cases h with
    | cons h1 h2 =>
      rw [List.mapM_cons] at e
      cases q : flat S n d with
      | none => rw [q] at e; cases e
      | some p =>
        rw [q] at e
        cases q2 : ds.mapM (flat S n) with
        | none => rw [q2] at e; cases e
        | some ps' =>
          rw [q2] at e
          have e' : some (p :: ps') = some ps := e
          cases e'
          exact .cons (ih h1 q) (dpAll_of ih h2 q2)
theorem SR.dp (s : SR K H α S) : ∀ {n : Nat} {d : D} {v : V} {p : PyData}, DV K H α d v → flat S n d = some p → Dp K H v p
  | 0, _, _, _, _, e => by cases e
  | n + 1, .non, v, p, h, e => by cases h; cases e; exact .non
  | n + 1, .bl b, v, p, h, e => by cases h; cases e; exact .bl b
  | n + 1, .int i, v, p, h, e => by cases h; cases e; exact .int i
  | n + 1, .str x, v, p, h, e => by cases h; cases e; exact .str x
  | n + 1, .tup ds, v, p, h, e => by
    obtain ⟨a, xs, rfl, h1, h2⟩ := h.tup_inv
    have e : (ds.mapM (flat S n)).map PyData.tuple = some p := e
    cases q : ds.mapM (flat S n) with
    | none => rw [q] at e; cases e
    | some ps =>
      rw [q] at e
      have e' : some (PyData.tuple ps) = some p := e
      cases e'
      exact .tup h1.sq (dpAll_of (fun h e => s.dp (n := n) h e) h2 q)
  | n + 1, .rol ds, v, p, h, e => by
    cases h with
    | rol h1 h2 =>
      have e : (ds.mapM (flat S n)).map PyData.list = some p := e
      cases q : ds.mapM (flat S n) with
      | none => rw [q] at e; cases e
      | some ps =>
        rw [q] at e
        have e' : some (PyData.list ps) = some p := e
        cases e'
        exact .lst h1.sq (dpAll_of (fun h e => s.dp (n := n) h e) h2 q)
  | n + 1, .ref r, v, p, h, e => by
    obtain ⟨a, rfl, ha⟩ := h.ref_inv
    have go : ∀ {ds : List D}, Mi.lsts S (.ref r) = some ds → (ds.mapM (flat S n)).map PyData.list = some p → Dp K H (.ref a) p := fun {ds} hl e => by
      obtain ⟨b, xs, hb, h1, h2⟩ := s.lsts hl
      rw [ha] at hb; cases hb
      cases q : ds.mapM (flat S n) with
      | none => rw [q] at e; cases e
      | some ps =>
        rw [q] at e
        have e' : some (PyData.list ps) = some p := e
        cases e'
        exact .lst h1 (dpAll_of (fun h e => s.dp (n := n) h e) h2 q)
    have e : (moL S[r]?).bind (fun xs => (xs.mapM (flat S n)).map PyData.list) = some p := e
    cases q : moL S[r]? with
    | none => rw [q] at e; cases e
    | some ds => rw [q] at e; exact go (show moL S[r]? = some ds from q) e
end
end Mi

set_option maxRecDepth 100000
namespace Mi
open PySem PySem.Spec PyProof.Rows L2

/-- how an exception of the small language lies -/
abbrev XTy := Nat → List D → Hp → List Addr → Value → Option Addr → Prop
def out {β : Type} (K : PySem.W.Frag) (XT : XTy) (E : XK) (H : Hp) (α : List Addr) (r : R β) (k : β → Sto → Hp → List Addr → Prop) : Prop :=
  match r with
  | .ok b S' => ∀ H' α', Ag H H' α α' → SR K H' α' S' → k b S' H' α'
  | .ex c as S' => ∀ H' α' cls d, Ag H H' α α' → SR K H' α' S' → XT c as H' α' cls d → E cls d H'
  | .bad => False
section
variable {β γ : Type} {K : PySem.W.Frag} {XT : XTy} {E : XK} {H H' H1 H2 : Hp} {α α' α1 α2 : List Addr} {S S' S1 S2 : Sto} {r : R β}
theorem out.mono {k : β → Sto → Hp → List Addr → Prop} (h : out K XT E H α r k) (s : SR K H1 α1 S1) (g : Ag H H1 α α1) : out K XT E H1 α1 r k := by
  cases r with
  | ok b S' => exact fun H' α' g' s' => h H' α' (g.trans s g') s'
  | ex c as S' => exact fun H' α' cls d g' s' x => h H' α' cls d (g.trans s g') s' x
  | bad => exact h
theorem out.bind {f : β → Sto → R γ} {k : γ → Sto → Hp → List Addr → Prop} (h : out K XT E H α (r.bind f) k) :
    out K XT E H α r fun b S1 H1 α1 => out K XT E H1 α1 (f b S1) k := by
  cases r with
  | ok b S' => exact fun H' α' g s => out.mono (r := f b S') h s g
  | ex c as S' => exact h
  | bad => exact h
theorem out.imp {k k' : β → Sto → Hp → List Addr → Prop} (h : out K XT E H α r k) (i : ∀ b S' H' α', Ag H H' α α' → SR K H' α' S' → k b S' H' α' → k' b S' H' α') : out K XT E H α r k' := by
  cases r with
  | ok b S' => exact fun H' α' g s => i b S' H' α' g s (h H' α' g s)
  | ex c as S' => exact h
  | bad => exact h
theorem out.impE {k k' : β → Sto → Hp → List Addr → Prop} (h : out K XT E H α r k) (i : ∀ b S' H' α', r = .ok b S' → Ag H H' α α' → SR K H' α' S' → k b S' H' α' → k' b S' H' α') : out K XT E H α r k' := by
  cases r with
  | ok b S' => exact fun H' α' g s => i b S' H' α' rfl g s (h H' α' g s)
  | ex c as S' => exact h
  | bad => exact h
theorem out.of {o : Option β} {k : β → Sto → Hp → List Addr → Prop} (h : out K XT E H α (R.of S o) k) (s : SR K H α S) : ∃ b, o = some b ∧ k b S H α := by
  cases o with
  | none => exact False.elim h
  | some b => exact ⟨b, rfl, h H α Ag.refl s⟩
theorem out.here {b : β} {k : β → Sto → Hp → List Addr → Prop} (h : out K XT E H α (.ok b S) k) (s : SR K H α S) : k b S H α := h H α Ag.refl s
end

/-! ### readings -/
def tD (K : PySem.W.Frag) (XT : XTy) (E : XK) (f : Sl → Sto → R D) : TE := fun σ H Q => ∃ α S ε, SR K H α S ∧ SL K H α ε σ ∧ out K XT E H α (f ε S) fun d _ H' α' => ∀ v, DV K H' α' d v → Q v H'
def tT (K : PySem.W.Frag) (XT : XTy) (E : XK) (f : Sl → Sto → R Bool) : TT := fun σ H Q => ∃ α S ε, SR K H α S ∧ SL K H α ε σ ∧ out K XT E H α (f ε S) fun b _ H' _ => Q b H'
def tA (K : PySem.W.Frag) (XT : XTy) (E : XK) (f : Sl → Sto → R (List D)) : TA := fun σ H Q => ∃ α S ε, SR K H α S ∧ SL K H α ε σ ∧ out K XT E H α (f ε S) fun ds _ H' α' => ∀ vs, DVs K H' α' ds vs → Q vs H'
def tP (K : PySem.W.Frag) (XT : XTy) (E : XK) (f : Sl → Sto → R (Option Int)) : TO := fun σ H Q => ∃ α S ε, SR K H α S ∧ SL K H α ε σ ∧ out K XT E H α (f ε S) fun o _ H' _ => Q o H'
def tG (K : PySem.W.Frag) (XT : XTy) (E : XK) (g : D → Sl → Sto → R Sl) : TG := fun v σ H Q => ∃ α S ε d, SR K H α S ∧ SL K H α ε σ ∧ DV K H α d v ∧ out K XT E H α (g d ε S) fun ε' _ H' α' => ∀ σ', SL K H' α' ε' σ' → Q σ' H'
def tGs (K : PySem.W.Frag) (XT : XTy) (E : XK) (g : List D → Sl → Sto → R Sl) : TGs := fun vs σ H Q => ∃ α S ε ds, SR K H α S ∧ SL K H α ε σ ∧ DVs K H α ds vs ∧ out K XT E H α (g ds ε S) fun ε' _ H' α' => ∀ σ', SL K H' α' ε' σ' → Q σ' H'
def kS (K : PySem.W.Frag) (D' : Ends) (r : Ct × Sl) (_ : Sto) (H' : Hp) (α' : List Addr) : Prop :=
  match r.1 with
  | .nx => ∀ σ', SL K H' α' r.2 σ' → D'.nx σ' H'
  | .bk => ∀ σ', SL K H' α' r.2 σ' → D'.bk σ' H'
  | .ct => ∀ σ', SL K H' α' r.2 σ' → D'.ct σ' H'
  | .rt d => ∀ v, DV K H' α' d v → D'.rt v H'
def tS (K : PySem.W.Frag) (XT : XTy) (E : XK) (f : Sl → Sto → RC) : TS := fun D' σ H => ∃ α S ε, SR K H α S ∧ SL K H α ε σ ∧ out K XT E H α (f ε S) (kS K D')

theorem PE.weak {X : Cx} {e : Expr} {t u : TE} (h : PE X e t) (w : ∀ σ H Q, u σ H Q → t σ H Q) : PE X e u := ⟨fun p s σ H Q I q => h.run p s σ H Q I (w σ H Q q)⟩
theorem PT.weak {X : Cx} {e : Expr} {t u : TT} (h : PT X e t) (w : ∀ σ H Q, u σ H Q → t σ H Q) : PT X e u := ⟨fun p s σ H Q I q => h.run p s σ H Q I (w σ H Q q)⟩
theorem PW.weak {X : Cx} {e : Expr} {t u : TT} (h : PW X e t) (w : ∀ σ H Q, u σ H Q → t σ H Q) : PW X e u := ⟨fun wh p s σ H Q I q => h.run wh p s σ H Q I (w σ H Q q)⟩
theorem PA.weak {X : Cx} {es : List Expr} {t u : TA} (h : PA X es t) (w : ∀ σ H Q, u σ H Q → t σ H Q) : PA X es u := ⟨fun pos p s σ H Q I q => h.run pos p s σ H Q I (w σ H Q q)⟩
theorem PG.weak {X : Cx} {e : Expr} {t u : TG} (h : PG X e t) (w : ∀ v σ H Q, u v σ H Q → t v σ H Q) : PG X e u := ⟨fun p s σ H v c Q I r q => h.run p s σ H v c Q I r (w v σ H Q q)⟩
theorem PGs.weak {X : Cx} {es : List Expr} {t u : TGs} (h : PGs X es t) (w : ∀ v σ H Q, u v σ H Q → t v σ H Q) : PGs X es u := ⟨fun p s σ H v c Q I r q => h.run p s σ H v c Q I r (w v σ H Q q)⟩
theorem PS.weak {X : Cx} {e : Stmt} {t u : TS} (h : PS X e t) (w : ∀ σ H Q, u σ H Q → t σ H Q) : PS X e u := ⟨fun p s σ H D' I q => h.run p s σ H D' I (w D' σ H q)⟩
theorem PSs.weak {X : Cx} {e : List Stmt} {t u : TS} (h : PSs X e t) (w : ∀ σ H Q, u σ H Q → t σ H Q) : PSs X e u := ⟨fun p s σ H D' I q => h.run p s σ H D' I (w D' σ H q)⟩
theorem PO.weak {X : Cx} {e : Option Expr} {t u : TO} (h : PO X e t) (w : ∀ σ H Q, u σ H Q → t σ H Q) : PO X e u := ⟨fun p s σ H Q I q => h.run p s σ H Q I (w σ H Q q)⟩

/-! ### operators -/
def r2 (K : PySem.W.Frag) (XT : XTy) (E : XK) (o : D → D → Sto → R D) : R2 := fun v w H Q => ∃ α S x y, SR K H α S ∧ DV K H α x v ∧ DV K H α y w ∧ out K XT E H α (o x y S) fun d _ H' α' => ∀ u, DV K H' α' d u → Q u H'
theorem lim_le {n : Nat} (h : n ≤ lim) : n ≤ sizeLine := Nat.le_trans h (by decide)
theorem lim_lt {n : Nat} (h : n < lim) : n < sizeLine := Nat.lt_of_lt_of_le h (by decide)
section
variable {X : Cx} {XT : XTy} {E : XK}
theorem opR_use {f : Value → Value → Sem Value} {o : D → D → Sto → R D} (h : ∀ α S H x y v w Q, SR X.K H α S → DV X.K H α x v → DV X.K H α y w → (out X.K XT E H α (o x y S) fun d _ H' α' => ∀ u, DV X.K H' α' d u → Q u H') →
    ∃ r : R2, OpR X f r ∧ r v w H Q) : OpR X f (r2 X.K XT E o) := by
  intro pins s σ H v w c u Q I rv rw q
  obtain ⟨α, S, x, y, hs, hx, hy, q⟩ := q
  obtain ⟨r, h1, h2⟩ := h α S H x y v w Q hs hx hy q
  exact h1 pins s σ H v w c u Q I rv rw h2
theorem opR_add : OpR X (binaryOp .Add) (r2 X.K XT E (op2 .add)) := opR_use fun α S H x y v w Q hs hx hy q => by
  cases x with
  | int i =>
    cases y with
    | int j =>
      cases hx.int_inv; cases hy.int_inv
      exact ⟨_, op_add, i, j, rfl, rfl, out.here q hs _ (.int _)⟩
    | _ => exact False.elim q
  | tup a =>
    cases y with
    | tup b =>
      obtain ⟨pa, xs, rfl, ha, da⟩ := hx.tup_inv
      obtain ⟨pb, ys, rfl, hb, db⟩ := hy.tup_inv
      have q : out X.K XT E H α (if a.length + b.length ≤ lim then .ok (.tup (a ++ b)) S else .bad) fun d _ H' α' => ∀ u, DV X.K H' α' d u → Q u H' := q
      by_cases hl : a.length + b.length ≤ lim
      · rw [if_pos hl] at q
        refine ⟨_, fo_cat, pa, pb, xs, ys, rfl, rfl, ha, hb, by rw [← da.length, ← db.length]; exact lim_le hl, fun e => ?_, fun e => ?_, fun p ob hp ho => ?_⟩
        · subst e; cases da; exact out.here q hs _ hy
        · subst e; cases db; rw [List.append_nil] at q; exact out.here q hs _ hx
        · exact q _ _ (hs.newAg hp) (hs.new hp) _ (hs.newT hp ho (da.append db))
      · rw [if_neg hl] at q; exact False.elim q
    | _ => exact False.elim q
  | ref r =>
    cases y with
    | ref r' =>
      obtain ⟨pa, rfl, ha⟩ := hx.ref_inv
      obtain ⟨pb, rfl, hb⟩ := hy.ref_inv
      unfold op2 at q
      cases e1 : S[r]? with
      | none => simp only [e1] at q; exact False.elim q
      | some m =>
        cases e2 : S[r']? with
        | none => simp only [e1, e2] at q; cases m <;> exact False.elim q
        | some m' =>
          cases m with
          | ro _ => simp only [e1, e2] at q; exact False.elim q
          | lst a =>
            cases m' with
            | ro _ => simp only [e1, e2] at q; exact False.elim q
            | lst b =>
              simp only [e1, e2] at q
              obtain ⟨a1, xs, h1, h2, h3⟩ := hs.lst e1
              obtain ⟨b1, ys, k1, k2, k3⟩ := hs.lst e2
              rw [ha] at h1; cases h1
              rw [hb] at k1; cases k1
              by_cases hl : a.length + b.length ≤ lim
              · rw [if_pos hl] at q
                refine ⟨_, op_cat, pa, pb, xs, ys, rfl, rfl, h2, k2, by rw [← h3.length, ← k3.length]; exact lim_le hl, fun p hp => ?_⟩
                exact q _ _ (hs.newAg' hp) (hs.newL hp (h3.append k3)) _ (.ref hs.newLref)
              · rw [if_neg hl] at q; exact False.elim q
    | _ => exact False.elim q
  | _ => cases y <;> exact False.elim q
theorem opR_sub : OpR X (binaryOp .Sub) (r2 X.K XT E (op2 .sub)) := opR_use fun α S H x y v w Q hs hx hy q => by
  cases x with
  | int i =>
    cases y with
    | int j =>
      cases hx.int_inv; cases hy.int_inv
      exact ⟨_, op_sub, i, j, rfl, rfl, out.here q hs _ (.int _)⟩
    | _ => exact False.elim q
  | _ => cases y <;> exact False.elim q
theorem opR_mod : OpR X (binaryOp .Mod) (r2 X.K XT E (op2 .mod)) := opR_use fun α S H x y v w Q hs hx hy q => by
  cases x with
  | int i =>
    cases y with
    | int j =>
      cases hx.int_inv; cases hy.int_inv
      have q : out X.K XT E H α (if 0 < j then .ok (.int (i % j)) S else .bad) fun d _ H' α' => ∀ u, DV X.K H' α' d u → Q u H' := q
      by_cases hl : 0 < j
      · rw [if_pos hl] at q
        exact ⟨_, op_mod, i, j, rfl, rfl, hl, out.here q hs _ (.int _)⟩
      · rw [if_neg hl] at q; exact False.elim q
    | _ => exact False.elim q
  | _ => cases y <;> exact False.elim q
theorem opR_fdiv : OpR X (binaryOp .FloorDiv) (r2 X.K XT E (op2 .fdiv)) := opR_use fun α S H x y v w Q hs hx hy q => by
  cases x with
  | int i =>
    cases y with
    | int j =>
      cases hx.int_inv; cases hy.int_inv
      have q : out X.K XT E H α (if 0 < j ∧ j < 1073741824 then .ok (.int (i / j)) S else .bad) fun d _ H' α' => ∀ u, DV X.K H' α' d u → Q u H' := q
      by_cases hl : 0 < j ∧ j < 1073741824
      · rw [if_pos hl] at q
        exact ⟨_, op_fdiv, i, j, rfl, rfl, hl, out.here q hs _ (.int _)⟩
      · rw [if_neg hl] at q; exact False.elim q
    | _ => exact False.elim q
  | _ => cases y <;> exact False.elim q
theorem opR_pow : OpR X (binaryOp .Pow) (r2 X.K XT E (op2 .pow)) := opR_use fun α S H x y v w Q hs hx hy q => by
  cases x with
  | int i =>
    cases y with
    | int j =>
      cases hx.int_inv; cases hy.int_inv
      have q : out X.K XT E H α (if 0 ≤ j ∧ j ≤ 1000000 ∧ i.natAbs < 2 ^ 64 then .ok (.int (i ^ j.toNat)) S else .bad) fun d _ H' α' => ∀ u, DV X.K H' α' d u → Q u H' := q
      by_cases hl : 0 ≤ j ∧ j ≤ 1000000 ∧ i.natAbs < 2 ^ 64
      · rw [if_pos hl] at q
        exact ⟨_, op_pow, i, j, rfl, rfl, hl, out.here q hs _ (.int _)⟩
      · rw [if_neg hl] at q; exact False.elim q
    | _ => exact False.elim q
  | _ => cases y <;> exact False.elim q
theorem opR_mul : OpR X (binaryOp .Mult) (r2 X.K XT E (op2 .mul)) := opR_use fun α S H x y v w Q hs hx hy q => by
  cases x with
  | int i =>
    cases y with
    | int j =>
      cases hx.int_inv; cases hy.int_inv
      have q : out X.K XT E H α (if ((-(2 ^ 64) < i ∧ i < 2 ^ 64) ∨ (-(2 ^ 64) < j ∧ j < 2 ^ 64)) then .ok (.int (i * j)) S else .bad) fun d _ H' α' => ∀ u, DV X.K H' α' d u → Q u H' := q
      by_cases hl : ((-(2 ^ 64) < i ∧ i < 2 ^ 64) ∨ (-(2 ^ 64) < j ∧ j < 2 ^ 64))
      · rw [if_pos hl] at q
        exact ⟨_, op_mul, i, j, rfl, rfl, hl, out.here q hs _ (.int _)⟩
      · rw [if_neg hl] at q; exact False.elim q
    | _ => exact False.elim q
  | tup a =>
    cases y with
    | int k =>
      obtain ⟨pa, xs, rfl, ha, da⟩ := hx.tup_inv
      cases hy.int_inv
      have q : out X.K XT E H α (if a ≠ [] ∧ 2 ≤ k ∧ k ≤ 1000 ∧ a.length ≤ 100 then .ok (.tup (List.replicate k.toNat a).flatten) S else .bad) fun d _ H' α' => ∀ u, DV X.K H' α' d u → Q u H' := q
      by_cases hl : a ≠ [] ∧ 2 ≤ k ∧ k ≤ 1000 ∧ a.length ≤ 100
      · rw [if_pos hl] at q
        refine ⟨_, fo_rep, pa, k, xs, rfl, rfl, ha, fun e => ?_, hl.2.1, hl.2.2.1, by rw [← da.length]; omega, fun p ob hp ho => ?_⟩
        · subst e; cases da; exact hl.1 rfl
        · exact q _ _ (hs.newAg hp) (hs.new hp) _ (hs.newT hp ho (da.rep _))
      · rw [if_neg hl] at q; exact False.elim q
    | _ => exact False.elim q
  | ref r =>
    cases y with
    | int k =>
      obtain ⟨pa, rfl, ha⟩ := hx.ref_inv
      cases hy.int_inv
      unfold op2 at q
      cases e1 : S[r]? with
      | none => simp only [e1] at q; exact False.elim q
      | some m =>
        cases m with
        | ro _ => simp only [e1] at q; exact False.elim q
        | lst a =>
          simp only [e1] at q
          obtain ⟨a1, xs, h1, h2, h3⟩ := hs.lst e1
          rw [ha] at h1; cases h1
          by_cases hl : 0 ≤ k ∧ k ≤ 1000 ∧ a.length ≤ 100
          · rw [if_pos hl] at q
            have hm : xs.length * k.toNat ≤ 100 * 1000 := Nat.mul_le_mul (by rw [← h3.length]; exact hl.2.2) (by omega)
            refine ⟨_, op_rep, pa, k, xs, rfl, rfl, h2, by omega, by omega, lim_le hm, fun p hp => ?_⟩
            exact q _ _ (hs.newAg' hp) (hs.newL hp (h3.rep _)) _ (.ref hs.newLref)
          · rw [if_neg hl] at q; exact False.elim q
    | _ => exact False.elim q
  | _ => cases y <;> exact False.elim q
def opOf : Op2 → Operator
  | .add => .Add | .sub => .Sub | .mul => .Mult | .mod => .Mod | .fdiv => .FloorDiv | .pow => .Pow
theorem opR_all : ∀ o : Op2, OpR X (binaryOp (opOf o)) (r2 X.K XT E (op2 o))
  | .add => opR_add | .sub => opR_sub | .mul => opR_mul | .mod => opR_mod | .fdiv => opR_fdiv | .pow => opR_pow
/-! comparisons -/
def cm2 (o : Cm) (x y : D) (S : Sto) : R D := R.of S ((cmp2 o x y S).map .bl)
theorem eqD_dp {K : PySem.W.Frag} {H : Hp} {α : List Addr} {S : Sto} {x y : D} {v w : V} {b : Bool} (hs : SR K H α S) (hx : DV K H α x v) (hy : DV K H α y w) (h : eqD S x y = some b) :
    ∃ p q, Dp K H v p ∧ Dp K H w q ∧ SeqAt.shaped p = true ∧ SeqAt.shaped q = true ∧ b = PyData.eqv p q := by
  unfold eqD at h
  cases e1 : flat S deep x with
  | none => rw [e1] at h; cases h
  | some p =>
    cases e2 : flat S deep y with
    | none => rw [e1, e2] at h; cases h
    | some q =>
      rw [e1, e2] at h
      simp only at h
      split at h
      · rename_i hsh
        rw [Bool.and_eq_true] at hsh
        exact ⟨p, q, hs.dp hx e1, hs.dp hy e2, hsh.1, hsh.2, (Option.some.inj h).symm⟩
      · cases h
theorem map_some_inv {α β : Type} {f : α → β} {o : Option α} {b : β} (h : o.map f = some b) : ∃ a, o = some a ∧ f a = b := by
  cases o with
  | none => cases h
  | some a => exact ⟨a, rfl, Option.some.inj h⟩
theorem opR_eq (hu : X.A.units + 65 < cLine) : OpR X (compareOp .Eq) (r2 X.K XT E (cm2 .eq)) := opR_use fun α S H x y v w Q hs hx hy q => by
  obtain ⟨d, e, q⟩ := out.of q hs
  obtain ⟨b, e1, rfl⟩ := map_some_inv e
  obtain ⟨p, r, h1, h2, h3, h4, rfl⟩ := eqD_dp hs hx hy (show eqD S x y = some b from e1)
  exact ⟨_, op_eqD (by omega), p, r, h1, h2, h3, h4, q _ (.bl _)⟩
theorem opR_ne (hu : X.A.units + 65 < cLine) : OpR X (compareOp .NotEq) (r2 X.K XT E (cm2 .ne)) := opR_use fun α S H x y v w Q hs hx hy q => by
  obtain ⟨d, e, q⟩ := out.of q hs
  obtain ⟨b, e1, rfl⟩ := map_some_inv e
  obtain ⟨b', e2, rfl⟩ := map_some_inv (show (eqD S x y).map (fun b => !b) = some b from e1)
  obtain ⟨p, r, h1, h2, h3, h4, rfl⟩ := eqD_dp hs hx hy e2
  exact ⟨_, op_neD (by omega), p, r, h1, h2, h3, h4, q _ (.bl _)⟩
theorem opR_ord {c : Cm} {op : CmpOp} {f : Int → Int → Bool} (hc : ∀ i j S, cmp2 c (.int i) (.int j) S = some (f i j)) (hn : ∀ x y S, (∀ i j, ¬ (x = .int i ∧ y = .int j)) → cmp2 c x y S = none)
    (h : OpR X (compareOp op) (rI0 fun i j => .bl (f i j))) : OpR X (compareOp op) (r2 X.K XT E (cm2 c)) := opR_use fun α S H x y v w Q hs hx hy q => by
  obtain ⟨d, e, q⟩ := out.of q hs
  obtain ⟨b, e1, rfl⟩ := map_some_inv e
  by_cases hij : ∃ i j, x = .int i ∧ y = .int j
  · obtain ⟨i, j, rfl, rfl⟩ := hij
    cases hx.int_inv; cases hy.int_inv
    rw [hc] at e1
    cases e1
    exact ⟨_, h, i, j, rfl, rfl, q _ (.bl _)⟩
  · rw [hn x y S fun i j z => hij ⟨i, j, z⟩] at e1
    cases e1
theorem opR_lt : OpR X (compareOp .Lt) (r2 X.K XT E (cm2 .lt)) := opR_ord (fun _ _ _ => rfl) (fun x y S n => by cases x <;> cases y <;> first | rfl | exact absurd ⟨rfl, rfl⟩ (n _ _)) op_lt
theorem opR_le : OpR X (compareOp .LtE) (r2 X.K XT E (cm2 .le)) := opR_ord (fun _ _ _ => rfl) (fun x y S n => by cases x <;> cases y <;> first | rfl | exact absurd ⟨rfl, rfl⟩ (n _ _)) op_le
theorem opR_gt : OpR X (compareOp .Gt) (r2 X.K XT E (cm2 .gt)) := opR_ord (fun _ _ _ => rfl) (fun x y S n => by cases x <;> cases y <;> first | rfl | exact absurd ⟨rfl, rfl⟩ (n _ _)) op_gt
theorem opR_ge : OpR X (compareOp .GtE) (r2 X.K XT E (cm2 .ge)) := opR_ord (fun _ _ _ => rfl) (fun x y S n => by cases x <;> cases y <;> first | rfl | exact absurd ⟨rfl, rfl⟩ (n _ _)) op_ge
theorem inD_dp {K : PySem.W.Frag} {H : Hp} {α : List Addr} {S : Sto} {x y : D} {v w : V} {b : Bool} (hs : SR K H α S) (hx : DV K H α x v) (hy : DV K H α y w) (h : inD S x y = some b) :
    ∃ p q ds, Dp K H v p ∧ Dp K H w q ∧ (q = .list ds ∨ q = .tuple ds) ∧ SeqAt.shaped p = true ∧ SeqAt.shaped q = true ∧ b = ds.any fun z => PyData.eqv z p := by
  unfold inD at h
  split at h
  · rename_i d ds e1 e2
    split at h
    · rename_i hsh
      rw [Bool.and_eq_true] at hsh
      exact ⟨d, _, ds, hs.dp hx e1, hs.dp hy e2, .inl rfl, hsh.1, hsh.2, (Option.some.inj h).symm⟩
    · cases h
  · rename_i d ds e1 e2
    split at h
    · rename_i hsh
      rw [Bool.and_eq_true] at hsh
      exact ⟨d, _, ds, hs.dp hx e1, hs.dp hy e2, .inr rfl, hsh.1, hsh.2, (Option.some.inj h).symm⟩
    · cases h
  · cases h
def rInT (K : PySem.W.Frag) : R2 := fun x y H Q => ∃ d ds, Dp K H x d ∧ Dp K H y (.tuple ds) ∧ SeqAt.shaped d = true ∧ SeqAt.shaped (.tuple ds) = true ∧ Q (.bl (ds.any fun z => PyData.eqv z d)) H
def rNotInT (K : PySem.W.Frag) : R2 := fun x y H Q => ∃ d ds, Dp K H x d ∧ Dp K H y (.tuple ds) ∧ SeqAt.shaped d = true ∧ SeqAt.shaped (.tuple ds) = true ∧ Q (.bl (!ds.any fun z => PyData.eqv z d)) H
theorem lay_tup {ds : List PyData} (h : SeqAt.shaped (.tuple ds) = true) : PyData.canLayAll0 ds = true := by
  have q := SeqAt.canLay_of_shaped h
  simpa only [PyData.canLay0] using q
theorem op_inT (hu : X.A.units + 65 < cLine) : OpR X (compareOp .In) (rInT X.K) := by
  intro pins s σ H v w cv cw Q I rv rw h
  obtain ⟨d, ds, hd, he, sd, se, q⟩ := h
  obtain ⟨as, h1⟩ := Dp.reads I d v cv hd rv
  obtain ⟨bs, h2⟩ := Dp.reads I (.tuple ds) w cw he rw
  exact SeqAt.in_tuple_reads h2 h1 (lay_tup se) (SeqAt.canLay_of_shaped sd) (room_in_shaped sd hu) ⟨.bl _, H, I, rfl, q⟩
theorem op_notInT (hu : X.A.units + 65 < cLine) : OpR X (compareOp .NotIn) (rNotInT X.K) := by
  intro pins s σ H v w cv cw Q I rv rw h
  obtain ⟨d, ds, hd, he, sd, se, q⟩ := h
  obtain ⟨as, h1⟩ := Dp.reads I d v cv hd rv
  obtain ⟨bs, h2⟩ := Dp.reads I (.tuple ds) w cw he rw
  exact SeqAt.notIn_tuple_reads h2 h1 (lay_tup se) (SeqAt.canLay_of_shaped sd) (room_in_shaped sd hu) ⟨.bl _, H, I, rfl, q⟩
theorem opR_in (hu : X.A.units + 65 < cLine) : OpR X (compareOp .In) (r2 X.K XT E (cm2 .isin)) := opR_use fun α S H x y v w Q hs hx hy q => by
  obtain ⟨d, e, q⟩ := out.of q hs
  obtain ⟨b, e1, rfl⟩ := map_some_inv e
  obtain ⟨p, r, ds, h1, h2, h3, h4, h5, rfl⟩ := inD_dp hs hx hy (show inD S x y = some b from e1)
  rcases h3 with rfl | rfl
  · exact ⟨_, op_inD hu, p, ds, h1, h2, h4, h5, q _ (.bl _)⟩
  · exact ⟨_, op_inT hu, p, ds, h1, h2, h4, h5, q _ (.bl _)⟩
theorem opR_notin (hu : X.A.units + 65 < cLine) : OpR X (compareOp .NotIn) (r2 X.K XT E (cm2 .notin)) := opR_use fun α S H x y v w Q hs hx hy q => by
  obtain ⟨d, e, q⟩ := out.of q hs
  obtain ⟨b, e1, rfl⟩ := map_some_inv e
  obtain ⟨b', e2, rfl⟩ := map_some_inv (show (inD S x y).map (fun b => !b) = some b from e1)
  obtain ⟨p, r, ds, h1, h2, h3, h4, h5, rfl⟩ := inD_dp hs hx hy e2
  rcases h3 with rfl | rfl
  · exact ⟨_, op_notInD hu, p, ds, h1, h2, h4, h5, q _ (.bl _)⟩
  · exact ⟨_, op_notInT hu, p, ds, h1, h2, h4, h5, q _ (.bl _)⟩
def cmOf : Cm → CmpOp
  | .eq => .Eq | .ne => .NotEq | .lt => .Lt | .le => .LtE | .gt => .Gt | .ge => .GtE | .isin => .In | .notin => .NotIn
theorem opR_cm (hu : X.A.units + 65 < cLine) : ∀ o : Cm, OpR X (compareOp (cmOf o)) (r2 X.K XT E (cm2 o))
  | .eq => opR_eq hu | .ne => opR_ne hu | .lt => opR_lt | .le => opR_le | .gt => opR_gt | .ge => opR_ge | .isin => opR_in hu | .notin => opR_notin hu
end
end Mi

set_option maxRecDepth 100000
namespace Mi
open PySem PySem.Spec PyProof.Rows L2
def nice : Expr → Bool
  | .Name .. | .Constant .. | .BinOp .. | .UnaryOp .. | .BoolOp .. | .Compare .. | .IfExp .. | .Tuple .. | .List .. | .Call .. | .ListComp .. | .Dict .. => true
  | .Subscript .. => true
  | _ => false
theorem nice_star {e : Expr} (h : nice e = true) (es : List Expr) (env : PySem.Env) : starEach (e :: es) env = (false, eval e env) :: starEach es env := by
  cases e <;> first | rfl | cases h
theorem nice_ix {e : Expr} (h : nice e = true) : PlainIx e := fun o i => by
  cases e <;> first | rfl | cases h
theorem nice_fold {e : Expr} (h : nice e = true) (env : PySem.Env) (x : Value) : foldedSetIterable e env x = pure x := by
  cases e <;> first | rfl | cases h
def nlc : Expr → Bool
  | .ListComp .. => false
  | _ => true
theorem nice_swap {e : Expr} (h : nice e = true) (h2 : nlc e = true) (t : Option Expr) (l : Nat) (env : PySem.Env) : swapsWith e t l env = pure false := by
  cases e <;> first | rfl | exact absurd h2 Bool.false_ne_true | exact absurd h Bool.false_ne_true
def plainT : Expr → Bool
  | .Name .. | .Call .. | .Subscript .. | .Constant .. => true
  | _ => false
theorem plainT_ok {e : Expr} (h : plainT e = true) (env : PySem.Env) (whole : Sem Value) : isTrue e env whole = (do let v ← whole; standAt e.pos; holding [v] (truthy v)) := by
  cases e <;> first | rfl | cases h
def plainB : Expr → Bool
  | .Name .. | .Subscript .. | .List .. | .Call _ (_ :: _) _ _ => true
  | _ => false
theorem plainB_ok {e : Expr} (h : plainB e = true) (a : Str) (env : PySem.Env) (w : Sem Value) : attributeBase e a env w = w := by
  cases e with
  | Call f args kws p =>
    cases args with
    | nil => cases h
    | cons x xs => cases f <;> rfl
  | _ => first | rfl | cases h
section
variable {X : Cx} {XT : XTy} {E : XK} {a b c e : Expr} {es : List Expr} {pos : Pos}
/-! ### expressions -/
theorem d_var {i : Nat} {x : Str} (hN : X.N[i]? = some x) (hv : Vis X.env.scope x) (h1 : (x == ("__debug__" : Str)) = false) (h2 : (x == ("__classdict__" : Str)) = false) {cl : Nat → List D → Sto → R D} {F : Nat} :
    PE X (.Name x pos) (tD X.K XT E (ev cl F (.var i))) := PE.weak (pe_var hN hv h1 h2) fun σ H Q ⟨α, S, ε, hs, hl, q⟩ => by
  have q : out X.K XT E H α (match ε[i]? with | some (some d) => R.ok d S | _ => .bad) fun d _ H' α' => ∀ v, DV X.K H' α' d v → Q v H' := q
  split at q
  · rename_i d hd
    obtain ⟨v, hv, dv⟩ := hl.at_ i d hd
    exact ⟨v, hv, out.here q hs v dv⟩
  · exact False.elim q
def cstD : D → Option V
  | .non => some .non
  | .bl b => some (.bl b)
  | .int i => some (.int i)
  | .str x => some (.str x)
  | _ => none
theorem d_cst {d : D} {v : V} (hd : cstD d = some v) (h : PE X e (tC v)) {cl : Nat → List D → Sto → R D} {F : Nat} : PE X e (tD X.K XT E (ev cl F (.cst d))) := PE.weak h fun σ H Q ⟨α, S, ε, hs, hl, q⟩ => by
  have q : out X.K XT E H α (R.ok d S) fun d _ H' α' => ∀ v, DV X.K H' α' d v → Q v H' := q
  have dv : DV X.K H α d v := by
    cases d with
    | non => cases hd; exact .non
    | bl b => cases hd; exact .bl b
    | int i => cases hd; exact .int i
    | str x => cases hd; exact .str x
    | tup _ => cases hd
    | ref _ => cases hd
    | rol _ => cases hd
  exact out.here q hs v dv
/-- what a written list of a tuple's items stands for -/
def litV : D → Option V
  | .int i => some (.int i)
  | .str x => some (.str x)
  | _ => none
def litVs : List D → Option (List V)
  | [] => some []
  | d :: ds => (litV d).bind fun v => (litVs ds).map fun vs => v :: vs
/-- a module's constant: an int, or a tuple of ints and texts -/
def GlIs (K : PySem.W.Frag) (mg : Str → Option Value) (x : Str) : D → Prop
  | .int i => ∃ t, mg x = some (.int i t)
  | .tup ds => ∃ (a : Addr) (o : Obj) (its : Array Value) (n : Nat) (vs : List V), mg x = some (.ref a) ∧ K.lookup a = some o ∧ o.cls = .type "tuple" ∧ o.dict = none ∧ o.data = .seq its n ∧ its.size ≤ sizeLine ∧ Vals vs its.toList ∧ litVs ds = some vs
  | _ => False
theorem lits_dv {K : PySem.W.Frag} {H : Hp} {α : List Addr} : ∀ {ds : List D} {vs : List V}, litVs ds = some vs → DVs K H α ds vs
  | [], vs, h => by cases h; exact .nil
  | d :: ds, vs, h => by
    have h : (litV d).bind (fun v => (litVs ds).map fun vs => v :: vs) = some vs := h
    obtain ⟨v, h1, h2⟩ := Option.bind_eq_some_iff.mp h
    obtain ⟨ws, h3, rfl⟩ := Option.map_eq_some_iff.mp h2
    refine .cons ?_ (lits_dv h3)
    cases d with
    | int i => cases h1; exact .int i
    | str x => cases h1; exact .str x
    | _ => cases h1
theorem d_gl {d : D} {x : Str} (hg : Gl X x) (hm : GlIs X.K X.mg x d) (hd : (x == ("__debug__" : Str)) = false) {cl : Nat → List D → Sto → R D} {F : Nat} : PE X (.Name x pos) (tD X.K XT E (ev cl F (.cst d))) := by
  cases d with
  | int i => obtain ⟨t, ht⟩ := hm; exact d_cst rfl (pe_glob (v := .int _) hg ht ⟨t, rfl⟩ hd)
  | tup ds =>
    obtain ⟨a, o, its, n, vs, h1, h2, h3, h4, h5, h6, h7, h8⟩ := hm
    exact PE.weak (pe_glob (v := .ref a) hg h1 rfl hd) fun σ H Q ⟨α, S, ε, hs, hl, q⟩ => by
      have q : out X.K XT E H α (R.ok (.tup ds) S) fun d _ H' α' => ∀ v, DV X.K H' α' d v → Q v H' := q
      exact out.here q hs (.ref a) (.tup (.inr ⟨o, its, n, h2, h3, h4, h5, h6, h7⟩) (lits_dv h8))
  | _ => exact False.elim hm
theorem tOp_of {f g : Sl → Sto → R D} {o : D → D → Sto → R D} {σ : L2.St} {H : Hp} {Q : VK} (h : tD X.K XT E (fun ε S => (f ε S).bind fun x S1 => (g ε S1).bind fun y S2 => o x y S2) σ H Q) :
    tOp (r2 X.K XT E o) (tD X.K XT E f) (tD X.K XT E g) σ H Q := by
  obtain ⟨α, S, ε, hs, hl, q⟩ := h
  refine ⟨α, S, ε, hs, hl, q.bind.imp fun x S1 H1 α1 g1 s1 q1 v dv => ?_⟩
  refine ⟨α1, S1, ε, s1, hl.mono hs g1, q1.bind.imp fun y S2 H2 α2 g2 s2 q2 w dw => ?_⟩
  exact ⟨α2, S2, x, y, s2, dv.mono s1 g2, dw, q2⟩
theorem d_op {f g : Sl → Sto → R D} {o : D → D → Sto → R D} {op : Operator} (h : OpR X (binaryOp op) (r2 X.K XT E o)) (ha : PE X a (tD X.K XT E f)) (hb : PE X b (tD X.K XT E g)) :
    PE X (.BinOp a op b pos) (tD X.K XT E fun ε S => (f ε S).bind fun x S1 => (g ε S1).bind fun y S2 => o x y S2) := PE.weak (pe_op h ha hb) fun _ _ _ q => tOp_of q
theorem d_cmp {f g : Sl → Sto → R D} {o : D → D → Sto → R D} {op : CmpOp} (h : OpR X (compareOp op) (r2 X.K XT E o)) (ha : PE X a (tD X.K XT E f)) (hb : PE X b (tD X.K XT E g)) (hm : behindInMarks op b = false) :
    PE X (.Compare a [op] [b] pos) (tD X.K XT E fun ε S => (f ε S).bind fun x S1 => (g ε S1).bind fun y S2 => o x y S2) := PE.weak (pe_cmpR h ha hb hm) fun _ _ _ q => tOp_of q
theorem nice_mark {op : CmpOp} (h : nice e = true) : behindInMarks op e = false := by
  cases e <;> first | rfl | exact nomatch h
theorem t_cmp {f g : Sl → Sto → R D} {o : Cm} {op : CmpOp} (h : OpR X (compareOp op) (r2 X.K XT E (cm2 o))) (ha : PE X a (tD X.K XT E f)) (hb : PE X b (tD X.K XT E g)) (hm : behindInMarks op b = false) :
    PT X (.Compare a [op] [b] pos) (tT X.K XT E fun ε S => (f ε S).bind fun x S1 => (g ε S1).bind fun y S2 => R.of S2 (cmp2 o x y S2)) := PT.weak (pt_cmpR h ha hb hm) fun σ H Q ⟨α, S, ε, hs, hl, q⟩ => by
  refine tOp_of (o := cm2 o) ⟨α, S, ε, hs, hl, ?_⟩
  have go : ∀ {H α}, SR X.K H α S → out X.K XT E H α ((f ε S).bind fun x S1 => (g ε S1).bind fun y S2 => R.of S2 (cmp2 o x y S2)) (fun k _ H' _ => Q k H') →
      out X.K XT E H α ((f ε S).bind fun x S1 => (g ε S1).bind fun y S2 => cm2 o x y S2) fun d _ H' α' => ∀ v, DV X.K H' α' d v → ∃ k, v = .bl k ∧ Q k H' := fun {H α} hs q => by
    cases e1 : f ε S with
    | bad => rw [e1] at q; exact False.elim q
    | ex c as S1 => rw [e1] at q; exact q
    | ok x S1 =>
      rw [e1, R.bind_ok] at q
      rw [R.bind_ok]
      cases e2 : g ε S1 with
      | bad => rw [e2] at q; exact False.elim q
      | ex c as S2 => rw [e2] at q; exact q
      | ok y S2 =>
        rw [e2, R.bind_ok] at q
        rw [R.bind_ok]
        unfold cm2
        cases e3 : cmp2 o x y S2 with
        | none => rw [e3] at q; exact False.elim q
        | some k =>
          rw [e3] at q
          intro H' α' g' s' v dv
          cases dv.bl_inv
          exact ⟨k, rfl, q H' α' g' s'⟩
  exact go hs q
theorem d_isN {j p'} {f : Sl → Sto → R D} (ha : PE X a (tD X.K XT E f)) :
    PE X (.Compare a [.Is] [.Constant .none j p'] pos) (tD X.K XT E fun ε S => (f ε S).bind fun x S1 => .ok (.bl (isNon x)) S1) :=
  PE.weak (pe_cmp (pc_isN ha)) fun σ H Q ⟨α, S, ε, hs, hl, q⟩ => ⟨α, S, ε, hs, hl, q.bind.imp fun x S1 H1 α1 g1 s1 q1 v dv => by
    have e : DV X.K H1 α1 (.bl (isNon x)) (.bl (decide (v = .non))) := by
      cases dv <;> first | exact .bl true | (rw [decide_eq_false (by simp)]; exact .bl false)
    exact out.here q1 s1 _ e⟩
theorem d_isNN {j p'} {f : Sl → Sto → R D} (ha : PE X a (tD X.K XT E f)) :
    PE X (.Compare a [.IsNot] [.Constant .none j p'] pos) (tD X.K XT E fun ε S => (f ε S).bind fun x S1 => .ok (.bl (!isNon x)) S1) :=
  PE.weak (pe_cmp (pc_notN ha)) fun σ H Q ⟨α, S, ε, hs, hl, q⟩ => ⟨α, S, ε, hs, hl, q.bind.imp fun x S1 H1 α1 g1 s1 q1 v dv => by
    have e : DV X.K H1 α1 (.bl (!isNon x)) (.bl (!decide (v = .non))) := by
      cases dv <;> first | exact .bl false | (rw [decide_eq_false (by simp)]; exact .bl true)
    exact out.here q1 s1 _ e⟩
/-- a value that is a bool, as a test -/
theorem t_isN {j p'} {f : Sl → Sto → R D} (ha : PE X a (tD X.K XT E f)) :
    PT X (.Compare a [.Is] [.Constant .none j p'] pos) (tT X.K XT E fun ε S => (f ε S).bind fun x S1 => .ok (isNon x) S1) :=
  PT.weak (pt_cmp (pc_isN ha)) fun σ H Q ⟨α, S, ε, hs, hl, q⟩ => ⟨α, S, ε, hs, hl, q.bind.imp fun x S1 H1 α1 g1 s1 q1 v dv => by
    have e : (isNon x) = decide (v = .non) := by
      cases dv <;> first | rfl | (rw [decide_eq_false (by simp)])
    refine ⟨_, rfl, ?_⟩
    rw [← e]
    exact out.here q1 s1⟩
theorem t_isNN {j p'} {f : Sl → Sto → R D} (ha : PE X a (tD X.K XT E f)) :
    PT X (.Compare a [.IsNot] [.Constant .none j p'] pos) (tT X.K XT E fun ε S => (f ε S).bind fun x S1 => .ok (!isNon x) S1) :=
  PT.weak (pt_cmp (pc_notN ha)) fun σ H Q ⟨α, S, ε, hs, hl, q⟩ => ⟨α, S, ε, hs, hl, q.bind.imp fun x S1 H1 α1 g1 s1 q1 v dv => by
    have e : (!isNon x) = !decide (v = .non) := by
      cases dv <;> first | rfl | (rw [decide_eq_false (by simp)]; rfl)
    refine ⟨_, rfl, ?_⟩
    rw [← e]
    exact out.here q1 s1⟩
theorem d_neg {f : Sl → Sto → R D} (ha : PE X a (tD X.K XT E f)) :
    PE X (.UnaryOp .USub a pos) (tD X.K XT E fun ε S => (f ε S).bind fun x S1 => match x with | .int i => .ok (.int (-i)) S1 | _ => .bad) :=
  PE.weak (pe_un un_neg ha) fun σ H Q ⟨α, S, ε, hs, hl, q⟩ => ⟨α, S, ε, hs, hl, q.bind.imp fun x S1 H1 α1 g1 s1 q1 v dv => by
    cases dv with
    | int i => exact ⟨i, rfl, out.here q1 s1 _ (.int _)⟩
    | _ => exact False.elim q1⟩
theorem d_and {rest : List Expr} {f g : Sl → Sto → R D} (ha : PE X a (tD X.K XT E f)) (hb : PE X (.BoolOp .And (b :: rest) pos) (tD X.K XT E g)) :
    PE X (.BoolOp .And (a :: b :: rest) pos) (tD X.K XT E fun ε S => (f ε S).bind fun x S1 => match x with | .bl true => g ε S1 | .bl false => .ok (.bl false) S1 | _ => .bad) :=
  PE.weak (pe_and ha hb) fun σ H Q ⟨α, S, ε, hs, hl, q⟩ => ⟨α, S, ε, hs, hl, q.bind.imp fun x S1 H1 α1 g1 s1 q1 v dv => by
    cases dv with
    | bl k =>
      refine ⟨k, rfl, ?_⟩
      cases k with
      | true => exact iteT (⟨α1, S1, ε, s1, hl.mono hs g1, q1⟩ : tD X.K XT E g σ H1 Q)
      | false => exact iteF (out.here q1 s1 _ (.bl false))
    | _ => exact False.elim q1⟩
theorem d_or {rest : List Expr} {f g : Sl → Sto → R D} (ha : PE X a (tD X.K XT E f)) (hb : PE X (.BoolOp .Or (b :: rest) pos) (tD X.K XT E g)) :
    PE X (.BoolOp .Or (a :: b :: rest) pos) (tD X.K XT E fun ε S => (f ε S).bind fun x S1 => match x with | .bl true => .ok (.bl true) S1 | .bl false => g ε S1 | _ => .bad) :=
  PE.weak (pe_or ha hb) fun σ H Q ⟨α, S, ε, hs, hl, q⟩ => ⟨α, S, ε, hs, hl, q.bind.imp fun x S1 H1 α1 g1 s1 q1 v dv => by
    cases dv with
    | bl k =>
      refine ⟨k, rfl, ?_⟩
      cases k with
      | true => exact iteT (out.here q1 s1 _ (.bl true))
      | false => exact iteF (⟨α1, S1, ε, s1, hl.mono hs g1, q1⟩ : tD X.K XT E g σ H1 Q)
    | _ => exact False.elim q1⟩
theorem d_not {f : Sl → Sto → R D} (ha : PE X a (tD X.K XT E f)) :
    PE X (.UnaryOp .Not a pos) (tD X.K XT E fun ε S => (f ε S).bind fun x S1 => match x with | .bl b => .ok (.bl (!b)) S1 | _ => .bad) :=
  PE.weak (pe_not ha) fun σ H Q ⟨α, S, ε, hs, hl, q⟩ => ⟨α, S, ε, hs, hl, q.bind.imp fun x S1 H1 α1 g1 s1 q1 v dv => by
    cases dv with
    | bl k => exact ⟨k, rfl, out.here q1 s1 _ (.bl _)⟩
    | _ => exact False.elim q1⟩
theorem w_and {rest : List Expr} {f g : Sl → Sto → R Bool} (ha : PT X a (tT X.K XT E f)) (hb : PW X (.BoolOp .And (b :: rest) pos) (tT X.K XT E g)) :
    PW X (.BoolOp .And (a :: b :: rest) pos) (tT X.K XT E fun ε S => (f ε S).bind fun k S1 => if k then g ε S1 else .ok false S1) :=
  PW.weak (pw_and ha hb) fun σ H Q ⟨α, S, ε, hs, hl, q⟩ => ⟨α, S, ε, hs, hl, q.bind.imp fun k S1 H1 α1 g1 s1 q1 => by
    cases k with
    | true => exact iteT (⟨α1, S1, ε, s1, hl.mono hs g1, q1⟩ : tT X.K XT E g σ H1 Q)
    | false => exact iteF (out.here (β := Bool) q1 s1)⟩
theorem w_or {rest : List Expr} {f g : Sl → Sto → R Bool} (ha : PT X a (tT X.K XT E f)) (hb : PW X (.BoolOp .Or (b :: rest) pos) (tT X.K XT E g)) :
    PW X (.BoolOp .Or (a :: b :: rest) pos) (tT X.K XT E fun ε S => (f ε S).bind fun k S1 => if k then .ok true S1 else g ε S1) :=
  PW.weak (pw_or ha hb) fun σ H Q ⟨α, S, ε, hs, hl, q⟩ => ⟨α, S, ε, hs, hl, q.bind.imp fun k S1 H1 α1 g1 s1 q1 => by
    cases k with
    | true => exact iteT (out.here (β := Bool) q1 s1)
    | false => exact iteF (⟨α1, S1, ε, s1, hl.mono hs g1, q1⟩ : tT X.K XT E g σ H1 Q)⟩
theorem t_not {f : Sl → Sto → R Bool} (ha : PT X a (tT X.K XT E f)) : PT X (.UnaryOp .Not a pos) (tT X.K XT E fun ε S => (f ε S).bind fun k S1 => .ok (!k) S1) :=
  PT.weak (pt_not ha) fun σ H Q ⟨α, S, ε, hs, hl, q⟩ => ⟨α, S, ε, hs, hl, q.bind.imp fun k S1 H1 α1 g1 s1 q1 => out.here (β := Bool) q1 s1⟩
theorem truV_of {K : PySem.W.Frag} {H : Hp} {α : List Addr} {S : Sto} {d : D} {v : V} {k : Bool} (dv : DV K H α d v) (h : truth S d = some k) : TruV K v H k := by
  cases dv with
  | non => cases h; exact rfl
  | bl b => cases h; exact rfl
  | int i => cases h; exact rfl
  | _ => cases h
theorem t_val {f : Sl → Sto → R D} (ha : PE X a (tD X.K XT E f)) (hp : plainT a = true) : PT X a (tT X.K XT E fun ε S => (f ε S).bind fun d S1 => R.of S1 (truth S1 d)) :=
  PT.weak (pt_truth ha fun wh => plainT_ok hp _ wh) fun σ H Q ⟨α, S, ε, hs, hl, q⟩ => ⟨α, S, ε, hs, hl, q.bind.imp fun d S1 H1 α1 g1 s1 q1 v dv => by
    obtain ⟨k, e, q1⟩ := out.of q1 s1
    exact ⟨k, truV_of dv e, q1⟩⟩
theorem d_ite {g1 g2 : Sl → Sto → R D} {f : Sl → Sto → R Bool} (hc : PT X c (tT X.K XT E f)) (ha : PE X a (tD X.K XT E g1)) (hb : PE X b (tD X.K XT E g2)) :
    PE X (.IfExp c a b pos) (tD X.K XT E fun ε S => (f ε S).bind fun k S1 => if k then g1 ε S1 else g2 ε S1) :=
  PE.weak (pe_ifExp hc ha hb) fun σ H Q ⟨α, S, ε, hs, hl, q⟩ => ⟨α, S, ε, hs, hl, q.bind.imp fun k S1 H1 α1 g' s1 q1 => by
    cases k with
    | true => exact iteT (⟨α1, S1, ε, s1, hl.mono hs g', q1⟩ : tD X.K XT E g1 σ H1 Q)
    | false => exact iteF (⟨α1, S1, ε, s1, hl.mono hs g', q1⟩ : tD X.K XT E g2 σ H1 Q)⟩
theorem a_nil {cl : Nat → List D → Sto → R D} {F : Nat} : PA X [] (tA X.K XT E (evL cl F .nil)) := PA.weak pa_nil fun σ H Q ⟨α, S, ε, hs, hl, q⟩ => out.here (β := List D) (b := []) q hs [] .nil
theorem a_cons {f : Sl → Sto → R D} {g : Sl → Sto → R (List D)} (ha : PE X e (tD X.K XT E f)) (hr : PA X es (tA X.K XT E g)) (hn : nice e = true) :
    PA X (e :: es) (tA X.K XT E fun ε S => (f ε S).bind fun x S1 => (g ε S1).bind fun xs S2 => .ok (x :: xs) S2) :=
  PA.weak (pa_cons ha hr (nice_star hn es X.env)) fun σ H Q ⟨α, S, ε, hs, hl, q⟩ => ⟨α, S, ε, hs, hl, q.bind.imp fun x S1 H1 α1 g1 s1 q1 v dv =>
    ⟨α1, S1, ε, s1, hl.mono hs g1, q1.bind.imp fun xs S2 H2 α2 g2 s2 q2 vs dvs => out.here q2 s2 _ (.cons (dv.mono s1 g2) dvs)⟩⟩
theorem d_tup {j : Nat} {f : Sl → Sto → R (List D)} (h : PA X es (tA X.K XT E f)) : PE X (.Tuple es j pos) (tD X.K XT E fun ε S => (f ε S).bind fun xs S1 => if xs.length ≤ lim then .ok (.tup xs) S1 else .bad) :=
  PE.weak (fe_tup h) fun σ H Q ⟨α, S, ε, hs, hl, q⟩ => ⟨α, S, ε, hs, hl, q.bind.imp fun xs S1 H1 α1 g1 s1 q1 vs dvs => by
    by_cases hz : xs.length ≤ lim
    · rw [if_pos hz] at q1
      exact ⟨by rw [← dvs.length]; exact lim_le hz, fun p ob hp ho => q1 _ _ (s1.newAg hp) (s1.new hp) _ (s1.newT hp ho dvs)⟩
    · rw [if_neg hz] at q1; exact False.elim q1⟩
theorem newL_of {K : PySem.W.Frag} {H : Hp} {α : List Addr} {S : Sto} {ds : List D} {xs : List V} {k : D → Sto → Hp → List Addr → Prop} (q : out K XT E H α (newL ds S) k) (s : SR K H α S) (h : DVs K H α ds xs) :
    xs.length ≤ sizeLine ∧ ∀ p, H p = none → k (.ref S.length) (S ++ [.lst ds]) (upd H p (.lst xs)) (α ++ [p]) := by
  unfold newL at q
  by_cases hz : ds.length ≤ lim
  · rw [if_pos hz] at q
    exact ⟨by rw [← h.length]; exact lim_le hz, fun p hp => q _ _ (s.newAg' hp) (s.newL hp h)⟩
  · rw [if_neg hz] at q; exact False.elim q
theorem d_lst {f : Sl → Sto → R (List D)} (h : PA X es (tA X.K XT E f)) : PE X (.List es pos) (tD X.K XT E fun ε S => (f ε S).bind fun xs S1 => newL xs S1) :=
  PE.weak (pe_lst h) fun σ H Q ⟨α, S, ε, hs, hl, q⟩ => ⟨α, S, ε, hs, hl, q.bind.imp fun xs S1 H1 α1 g1 s1 q1 vs dvs => by
    obtain ⟨z, q1⟩ := newL_of q1 s1 dvs
    exact ⟨z, fun p hp => q1 p hp _ (.ref s1.newLref)⟩⟩
theorem atI_dv {K : PySem.W.Frag} {H : Hp} {α : List Addr} {ds : List D} {vs : List V} {i : Int} {d : D} (h : DVs K H α ds vs) (e : atI ds i = some d) : ∃ v, atI vs i = some v ∧ DV K H α d v := by
  unfold atI at e ⊢
  rw [← h.length]
  cases q : ixN ds.length i with
  | none => rw [q] at e; cases e
  | some j =>
    rw [q] at e
    obtain ⟨v, hv, dv⟩ := h.get (show ds[j]? = some d from e)
    exact ⟨v, hv, dv⟩
theorem ixR : IxR X (r2 X.K XT E fun x y S => R.of S (ixD S x y)) := by
  intro value slice pins s σ H v w cv cw Q I rv rw' h hs
  obtain ⟨α, S, x, y, hs', hx, hy, q⟩ := h
  obtain ⟨d, e0, q0⟩ := out.of q hs'
  cases hy with
  | int k =>
    have e : (seqD S x).bind (fun xs => atI xs k) = some d := e0
    cases e1 : seqD S x with
    | none => rw [e1] at e; cases e
    | some xs =>
      rw [e1] at e
      obtain ⟨p, vs, rfl, h1, h2⟩ := hs'.seqD hx e1
      obtain ⟨u, hu, du⟩ := atI_dv h2 (show atI xs k = some d from e)
      rcases h1 with h1 | h1
      · exact ix_list value slice pins s σ H _ _ cv cw Q I rv rw' ⟨p, vs, k, u, rfl, rfl, h1, hu, q0 u du⟩ hs
      · exact ix_tup value slice pins s σ H _ _ cv cw Q I rv rw' ⟨p, vs, k, u, rfl, rfl, h1, hu, q0 u du⟩ hs
  | _ => cases e0
theorem d_ix {f g : Sl → Sto → R D} (ha : PE X a (tD X.K XT E f)) (hb : PE X b (tD X.K XT E g)) (hn : nice b = true) :
    PE X (.Subscript a b pos) (tD X.K XT E fun ε S => (f ε S).bind fun x S1 => (g ε S1).bind fun y S2 => R.of S2 (ixD S2 x y)) := PE.weak (pe_ix ixR ha hb (nice_ix hn)) fun _ _ _ q => tOp_of q
theorem o_none {cl : Nat → List D → Sto → R D} {F : Nat} : PO X none (tP X.K XT E (evO cl F .none)) := PO.weak po_none fun σ H Q ⟨α, S, ε, hs, hl, q⟩ => out.here (β := Option Int) (b := none) q hs
theorem o_some {f : Sl → Sto → R D} (ha : PE X a (tD X.K XT E f)) : PO X (some a) (tP X.K XT E fun ε S => (f ε S).bind fun x S1 => match x with | .int i => .ok (some i) S1 | _ => .bad) :=
  PO.weak (po_some ha) fun σ H Q ⟨α, S, ε, hs, hl, q⟩ => ⟨α, S, ε, hs, hl, q.bind.imp fun x S1 H1 α1 g1 s1 q1 v dv => by
    cases dv with
    | int i => exact ⟨i, rfl, out.here (β := Option Int) q1 s1⟩
    | _ => exact False.elim q1⟩
def rSl (K : PySem.W.Frag) (XT : XTy) (E : XK) : V → Option Int → Option Int → Hp → VK → Prop := fun v lo hi H Q => ∃ α S x, SR K H α S ∧ DV K H α x v ∧ out K XT E H α (slD x lo hi S) fun d _ H' α' => ∀ u, DV K H' α' d u → Q u H'
theorem slR : SlR X (rSl X.K XT E) := by
  intro pins s σ H v cv vl vu lo hi sl Q I rv hsl pl pu h
  obtain ⟨α, S, x, hs, hx, q⟩ := h
  cases x with
  | tup ds =>
    obtain ⟨p, vs, rfl, h1, h2⟩ := hx.tup_inv
    refine fs_tup pins s σ H _ cv vl vu lo hi sl Q I rv hsl pl pu ⟨p, vs, rfl, h1, fun hw => ?_, fun p ob hp ho => ?_⟩
    · have q : out X.K XT E H α (R.ok (.tup (cutD ds lo hi)) S) fun d _ H' α' => ∀ u, DV X.K H' α' d u → Q u H' := q
      have k := h2.cut lo hi
      rw [hw] at k
      exact out.here q hs _ (.tup h1 k)
    · exact q _ _ (hs.newAg hp) (hs.new hp) _ (hs.newT hp ho (h2.cut lo hi))
  | ref r =>
    obtain ⟨p, rfl, hp⟩ := hx.ref_inv
    have q : out X.K XT E H α (match lsts S (.ref r) with | some xs => newL (cutD xs lo hi) S | none => .bad) fun d _ H' α' => ∀ u, DV X.K H' α' d u → Q u H' := q
    cases e : lsts S (.ref r) with
    | none => rw [e] at q; exact False.elim q
    | some ds =>
      rw [e] at q
      obtain ⟨p', vs, hp', h1, h2⟩ := hs.lsts e
      rw [hp] at hp'; cases hp'
      obtain ⟨_, q⟩ := newL_of q hs (h2.cut lo hi)
      exact sl_list pins s σ H _ cv vl vu lo hi sl Q I rv hsl pl pu ⟨p, vs, rfl, h1, fun p hp => q p hp _ (.ref hs.newLref)⟩
  | rol ds =>
    cases hx with
    | rol h1 h2 =>
      have q : out X.K XT E H α (newL (cutD ds lo hi) S) fun d _ H' α' => ∀ u, DV X.K H' α' d u → Q u H' := q
      obtain ⟨_, q⟩ := newL_of q hs (h2.cut lo hi)
      exact sl_list pins s σ H _ cv vl vu lo hi sl Q I rv hsl pl pu ⟨_, _, rfl, h1.sq, fun p hp => q p hp _ (.ref hs.newLref)⟩
  | _ => exact False.elim q
theorem d_sl {lo hi : Option Expr} {p2 : Pos} {f : Sl → Sto → R D} {g1 g2 : Sl → Sto → R (Option Int)} (ha : PE X a (tD X.K XT E f)) (hl : PO X lo (tP X.K XT E g1)) (hh : PO X hi (tP X.K XT E g2)) :
    PE X (.Subscript a (.Slice lo hi none p2) pos) (tD X.K XT E fun ε S => (f ε S).bind fun x S1 => (g1 ε S1).bind fun l S2 => (g2 ε S2).bind fun h S3 => slD x l h S3) :=
  PE.weak (pe_slice slR ha hl hh) fun σ H Q ⟨α, S, ε, hs, hl', q⟩ => ⟨α, S, ε, hs, hl', q.bind.imp fun x S1 H1 α1 k1 s1 q1 v dv =>
    ⟨α1, S1, ε, s1, hl'.mono hs k1, q1.bind.imp fun l S2 H2 α2 k2 s2 q2 => ⟨α2, S2, ε, s2, (hl'.mono hs k1).mono s1 k2, q2.bind.imp fun h S3 H3 α3 k3 s3 q3 => ⟨α3, S3, x, s3, (dv.mono s1 k2).mono s2 k3, q3⟩⟩⟩⟩
/-! ### a < b < c -/
theorem chain_of {f g h : Sl → Sto → R D} {o p : Cm} {σ : L2.St} {H : Hp} {Q : VK}
    (t : ∃ α S ε, SR X.K H α S ∧ SL X.K H α ε σ ∧ out X.K XT E H α ((f ε S).bind fun x S1 => (g ε S1).bind fun y S2 => (R.of S2 (cmp2 o x y S2)).bind fun k S3 => if k then (h ε S3).bind fun z S4 => R.of S4 (cmp2 p y z S4) else .ok false S3) fun k _ H' _ => Q (.bl k) H') :
    tChain (r2 X.K XT E (cm2 o)) (r2 X.K XT E (cm2 p)) (tD X.K XT E f) (tD X.K XT E g) (tD X.K XT E h) σ H Q := by
  obtain ⟨α, S, ε, hs, hl, q⟩ := t
  refine ⟨α, S, ε, hs, hl, q.bind.imp fun x S1 H1 α1 g1 s1 q1 v dv => ⟨α1, S1, ε, s1, hl.mono hs g1, q1.bind.imp fun y S2 H2 α2 g2 s2 q2 u du => ⟨α2, S2, x, y, s2, dv.mono s1 g2, du, ?_⟩⟩⟩
  cases hc : cmp2 o x y S2 with
  | none => rw [hc] at q2; exact False.elim q2
  | some k =>
    rw [hc] at q2
    have e : cm2 o x y S2 = .ok (.bl k) S2 := by unfold cm2; rw [hc]; rfl
    rw [e]
    intro H3 α3 g3 s3 w dw
    refine ⟨k, dw.bl_inv, ?_⟩
    have q3 : out X.K XT E H2 α2 (if k then (h ε S2).bind fun z S4 => R.of S4 (cmp2 p y z S4) else .ok false S2) fun k _ H' _ => Q (.bl k) H' := q2
    have q4 := q3.mono s3 g3
    cases k with
    | false => exact out.here (XT := XT) (E := E) (b := false) q4 s3
    | true =>
      refine ⟨α3, S2, ε, s3, ((hl.mono hs g1).mono s1 g2).mono s2 g3, (out.bind q4).imp fun z S4 H4 α4 g4 s4 q5 t dt => ⟨α4, S4, y, z, s4, (du.mono s2 g3).mono s3 g4, dt, ?_⟩⟩
      have q5 : out X.K XT E H4 α4 (R.of S4 (cmp2 p y z S4)) fun k _ H' _ => Q (.bl k) H' := q5
      unfold cm2
      cases hc2 : cmp2 p y z S4 with
      | none => rw [hc2] at q5; exact False.elim q5
      | some k2 =>
        rw [hc2] at q5
        exact fun H5 α5 g5 s5 w dw => by
          rw [dw.bl_inv]
          exact q5 H5 α5 g5 s5
theorem d_chn {f g h : Sl → Sto → R D} {o p : Cm} {op op' : CmpOp} (h1 : OpR X (compareOp op) (r2 X.K XT E (cm2 o))) (h2 : OpR X (compareOp op') (r2 X.K XT E (cm2 p))) (ha : PE X a (tD X.K XT E f)) (hb : PE X b (tD X.K XT E g)) (hc : PE X c (tD X.K XT E h)) (hm : lastMarks [op, op'] [b, c] = false) :
    PE X (.Compare a [op, op'] [b, c] pos) (tD X.K XT E fun ε S => ((f ε S).bind fun x S1 => (g ε S1).bind fun y S2 => (R.of S2 (cmp2 o x y S2)).bind fun k S3 => if k then (h ε S3).bind fun z S4 => R.of S4 (cmp2 p y z S4) else .ok false S3).bind fun k S5 => .ok (.bl k) S5) :=
  PE.weak (pe_chain h1 h2 ha hb hc hm) fun σ H Q ⟨α, S, ε, hs, hl, q⟩ => chain_of ⟨α, S, ε, hs, hl, (out.bind q).imp fun k S1 H1 α1 g1 s1 q1 => out.here (XT := XT) (E := E) (b := D.bl k) q1 s1 _ (.bl k)⟩
theorem t_chn {f g h : Sl → Sto → R D} {o p : Cm} {op op' : CmpOp} (h1 : OpR X (compareOp op) (r2 X.K XT E (cm2 o))) (h2 : OpR X (compareOp op') (r2 X.K XT E (cm2 p))) (ha : PE X a (tD X.K XT E f)) (hb : PE X b (tD X.K XT E g)) (hc : PE X c (tD X.K XT E h)) (hm : lastMarks [op, op'] [b, c] = false) :
    PT X (.Compare a [op, op'] [b, c] pos) (tT X.K XT E fun ε S => (f ε S).bind fun x S1 => (g ε S1).bind fun y S2 => (R.of S2 (cmp2 o x y S2)).bind fun k S3 => if k then (h ε S3).bind fun z S4 => R.of S4 (cmp2 p y z S4) else .ok false S3) :=
  PT.weak (pt_chain h1 h2 ha hb hc hm) fun σ H Q ⟨α, S, ε, hs, hl, q⟩ => chain_of (Q := fun x H' => ∃ k, x = .bl k ∧ Q k H') ⟨α, S, ε, hs, hl, q.imp fun k S1 H1 α1 g1 s1 q1 => ⟨k, rfl, q1⟩⟩
end
end Mi

set_option maxRecDepth 100000
namespace Mi
open PySem PySem.Spec PyProof.Rows L2
/-! ### built-ins by name -/
def rB (K : PySem.W.Frag) (XT : XTy) (E : XK) (f : List D → Sto → R D) : List V → Hp → VK → Prop := fun vs H Q => ∃ α S ds, SR K H α S ∧ DVs K H α ds vs ∧ out K XT E H α (f ds S) fun d _ H' α' => ∀ u, DV K H' α' d u → Q u H'
section
variable {X : Cx} {XT : XTy} {E : XK} {a b c e o : Expr} {es : List Expr} {pos : Pos}
theorem callR_use {f : Value} {g : List D → Sto → R D} (h : ∀ α S H ds vs Q, SR X.K H α S → DVs X.K H α ds vs → (out X.K XT E H α (g ds S) fun d _ H' α' => ∀ u, DV X.K H' α' d u → Q u H') →
    ∃ r : List V → Hp → VK → Prop, CallR X f r ∧ r vs H Q) : CallR X f (rB X.K XT E g) := by
  intro pins s σ H vs us Q I rv q
  obtain ⟨α, S, ds, hs, hd, q⟩ := q
  obtain ⟨r, h1, h2⟩ := h α S H ds vs Q hs hd q
  exact h1 pins s σ H vs us Q I rv h2
theorem bR_len : CallR X (.builtin "len") (rB X.K XT E (biD .len)) := callR_use fun α S H ds vs Q hs hd q => by
  cases hd with
  | nil => exact False.elim q
  | cons h1 h2 =>
    cases h2 with
    | cons _ _ => exact False.elim q
    | nil =>
      rename_i d v
      have q : out X.K XT E H α (match seqD S d with | some xs => R.ok (.int xs.length) S | none => .bad) fun d _ H' α' => ∀ u, DV X.K H' α' d u → Q u H' := q
      cases e1 : seqD S d with
      | none => rw [e1] at q; exact False.elim q
      | some xs =>
        rw [e1] at q
        obtain ⟨p, ws, rfl, k1, k2⟩ := hs.seqD h1 e1
        exact ⟨_, call_len_seq, p, ws, rfl, k1, by rw [← k2.length]; exact out.here q hs _ (.int _)⟩
theorem bR_int : CallR X (.type "int") (rB X.K XT E (biD .int)) := callR_use fun α S H ds vs Q hs hd q => by
  cases hd with
  | nil => exact False.elim q
  | cons h1 h2 =>
    cases h2 with
    | cons _ _ => cases h1 <;> exact False.elim q
    | nil =>
      cases h1 with
      | int i => exact ⟨_, call_int1, .inl ⟨i, rfl, out.here q hs _ (.int _)⟩⟩
      | bl k => exact ⟨_, call_int1, .inr ⟨k, rfl, out.here q hs _ (.int _)⟩⟩
      | _ => exact False.elim q
theorem bR_list : CallR X (.type "list") (rB X.K XT E (biD .list)) := callR_use fun α S H ds vs Q hs hd q => by
  cases hd with
  | nil => exact False.elim q
  | cons h1 h2 =>
    cases h2 with
    | cons _ _ => exact False.elim q
    | nil =>
      rename_i d v
      have q : out X.K XT E H α (match seqD S d with | some xs => newL xs S | none => .bad) fun d _ H' α' => ∀ u, DV X.K H' α' d u → Q u H' := q
      cases e1 : seqD S d with
      | none => rw [e1] at q; exact False.elim q
      | some xs =>
        rw [e1] at q
        obtain ⟨p, ws, rfl, k1, k2⟩ := hs.seqD h1 e1
        obtain ⟨_, q⟩ := newL_of q hs k2
        exact ⟨_, call_list_of, p, ws, rfl, k1, fun l hl => q l hl _ (.ref hs.newLref)⟩
theorem bR_tuple : CallR X (.type "tuple") (rB X.K XT E (biD .tuple)) := callR_use fun α S H ds vs Q hs hd q => by
  cases hd with
  | nil => exact False.elim q
  | cons h1 h2 =>
    cases h2 with
    | cons _ _ => exact False.elim q
    | nil =>
      rename_i d v
      cases d with
      | tup xs =>
        obtain ⟨p, ws, rfl, k1, k2⟩ := h1.tup_inv
        exact ⟨_, fc_tuple rfl, p, ws, rfl, .inr ⟨k1, out.here (b := D.tup xs) q hs _ h1⟩⟩
      | ref r =>
        obtain ⟨p, rfl, hp⟩ := h1.ref_inv
        have q : out X.K XT E H α (match lsts S (.ref r) with | some xs => if xs.length ≤ lim then R.ok (.tup xs) S else .bad | none => .bad) fun d _ H' α' => ∀ u, DV X.K H' α' d u → Q u H' := q
        cases e1 : lsts S (.ref r) with
        | none => rw [e1] at q; exact False.elim q
        | some xs =>
          rw [e1] at q
          obtain ⟨p', ws, hp', k1, k2⟩ := hs.lsts e1
          rw [hp] at hp'; cases hp'
          by_cases hz : xs.length ≤ lim
          · simp only [if_pos hz] at q
            exact ⟨_, fc_tuple rfl, p, ws, rfl, .inl ⟨k1, fun l ob hl ho => q _ _ (hs.newAg hl) (hs.new hl) _ (hs.newT hl ho k2)⟩⟩
          · simp only [if_neg hz] at q; exact False.elim q
      | _ => exact False.elim q
theorem bR_repr (qt : Quiet X.A) (hu : X.A.units + 65 < cLine) : CallR X (.builtin "repr") (rB X.K XT E (biD .repr)) := by
  intro pins s σ H vs us Q I rv h
  obtain ⟨α, S, ds, hs, hd, q⟩ := h
  cases hd with
  | nil => exact False.elim q
  | cons h1 h2 =>
    cases h2 with
    | cons _ _ => exact False.elim q
    | nil =>
      rename_i d v
      have q : out X.K XT E H α (match flat S deep d with | some p => if isSeq d && showB p then R.ok (.str p.shown) S else .bad | none => .bad) fun d _ H' α' => ∀ u, DV X.K H' α' d u → Q u H' := q
      cases e1 : flat S deep d with
      | none => rw [e1] at q; exact False.elim q
      | some p =>
        rw [e1] at q
        cases e2 : isSeq d && showB p with
        | false => simp only [e2] at q; exact False.elim q
        | true =>
          simp only [e2] at q
          have q : out X.K XT E H α (R.ok (.str p.shown) S) fun d _ H' α' => ∀ u, DV X.K H' α' d u → Q u H' := q
          rw [Bool.and_eq_true] at e2
          obtain ⟨e2, e3⟩ := e2
          unfold showB at e3
          simp only [Bool.and_eq_true, Bool.not_eq_true', decide_eq_true_eq] at e3
          obtain ⟨⟨⟨k1, k2⟩, k3⟩, k4⟩ := e3
          have hv : ∃ a, v = .ref a := by
            cases h1 with
            | tup _ _ => exact ⟨_, rfl⟩
            | ref _ => exact ⟨_, rfl⟩
            | rol _ _ => exact ⟨_, rfl⟩
            | _ => cases e2
          obtain ⟨a, rfl⟩ := hv
          cases rv with
          | cons r1 r2 =>
            cases r2
            rename_i u
            obtain rfl : u = Value.ref a := r1
            obtain ⟨as, rd⟩ := Dp.reads I p _ _ (hs.dp h1 e1) (show RelV (.ref a) (Value.ref a) from rfl)
            exact repr_of_reads' rd k1 (fun z => by rw [k2] at z; cases z) qt (by omega) (fun _ _ z => z) (fun h' u tk kp => ⟨.str p.shown, H, I.kept kp, ⟨u, rfl⟩, out.here (XT := XT) (E := E) (b := D.str p.shown) q hs _ (.str _)⟩) (lim_le k4)
theorem tCB_of {f : List D → Sto → R D} {g : Sl → Sto → R (List D)} {σ : L2.St} {H : Hp} {Q : VK} (h : tD X.K XT E (fun ε S => (g ε S).bind fun xs S1 => f xs S1) σ H Q) :
    tCB (rB X.K XT E f) (tA X.K XT E g) σ H Q := by
  obtain ⟨α, S, ε, hs, hl, q⟩ := h
  exact ⟨α, S, ε, hs, hl, q.bind.imp fun xs S1 H1 α1 g1 s1 q1 vs dvs => ⟨α1, S1, xs, s1, dvs, q1⟩⟩
def biN : Bi → Str
  | .len => "len" | .tuple => "tuple" | .list => "list" | .int => "int" | .repr => "repr"
theorem nice_plain : ∀ {es : List Expr}, es.all nice = true → ∀ (pos : Pos) (env : PySem.Env), (backTo pos (starEach es env)).any (·.1) = false
  | [], _, _, _ => rfl
  | e :: es, h, pos, env => by
    rw [List.all_cons, Bool.and_eq_true] at h
    rw [nice_star h.1]
    have ih := nice_plain h.2 pos env
    show (false || (backTo pos (starEach es env)).any (·.1)) = false
    rw [ih]
    rfl
theorem d_bi {p : Pos} {g : Sl → Sto → R (List D)} (f : Bi) (qt : Quiet X.A) (hu : X.A.units + 65 < cLine) (hg : Gl X (biN f)) (hm : X.mg (biN f) = none) (ha : PA X (e :: es) (tA X.K XT E g)) (hn : (e :: es).all nice = true) :
    PE X (.Call (.Name (biN f) p) (e :: es) [] pos) (tD X.K XT E fun ε S => (g ε S).bind fun xs S1 => biD f xs S1) := by
  have hn' := hn
  rw [List.all_cons, Bool.and_eq_true] at hn'
  have h1 := nice_star hn'.1 es X.env
  have h2 := nice_plain hn'.2 pos X.env
  cases f with
  | len => exact PE.weak (pe_callB bR_len hg hm PySem.boot_len ha (by decide) (by decide) h1 h2) fun _ _ _ q => tCB_of q
  | tuple => exact PE.weak (pe_callTy bR_tuple hg hm PyProof.Rows.boot_tuple ha (by decide) (by decide) h1 h2) fun _ _ _ q => tCB_of q
  | list => exact PE.weak (pe_callTy bR_list hg hm PyProof.Rows.boot_list ha (by decide) (by decide) h1 h2) fun _ _ _ q => tCB_of q
  | repr => exact PE.weak (pe_callB (bR_repr qt hu) hg hm (by decide +kernel) ha (by decide) (by decide) h1 h2) fun _ _ _ q => tCB_of q
  | int => exact PE.weak (pe_callTy bR_int hg hm PyProof.Rows.boot_int ha (by decide) (by decide) h1 h2) fun _ _ _ q => tCB_of q

/-! ### isinstance -/
def tnN : Tn → String
  | .int => "int" | .bool => "bool" | .tuple => "tuple"
def tnS (t : Tn) : Str := Str.ofString (tnN t)
theorem kit_bool (t : Tn) : kitB "bool" (tnN t) = some (isiD t (.bl true)) := by cases t <;> decide +kernel
theorem kit_int (t : Tn) : kitB "int" (tnN t) = some (isiD t (.int 0)) := by cases t <;> decide +kernel
theorem kit_str (t : Tn) : kitB "str" (tnN t) = some (isiD t (.str "")) := by cases t <;> decide +kernel
theorem kit_tuple (t : Tn) : kitB "tuple" (tnN t) = some (isiD t (.tup [])) := by cases t <;> decide +kernel
theorem kit_list (t : Tn) : kitB "list" (tnN t) = some (isiD t (.ref 0)) := by cases t <;> decide +kernel
theorem kit_NoneType (t : Tn) : kitB "NoneType" (tnN t) = some (isiD t (.non)) := by cases t <;> decide +kernel
theorem DV.ty {K : PySem.W.Frag} {H : Hp} {α : List Addr} {S : Sto} {d : D} {v : V} (hs : SR K H α S) (h : DV K H α d v) (t : Tn) : ∃ u, TyX K H v u ∧ PySem.W.kitOne K u (.type (tnN t)) = some (isiD t d) := by
  cases h with
  | non => exact ⟨_, .base .non, by cases t <;> exact kit_ty (kit_NoneType _)⟩
  | bl b => exact ⟨_, .base (.bl b), by cases t <;> exact kit_ty (kit_bool _)⟩
  | int i => exact ⟨_, .base (.int i), by cases t <;> exact kit_ty (kit_int _)⟩
  | str x => exact ⟨_, .base (.str x), by cases t <;> exact kit_ty (kit_str _)⟩
  | tup h1 h2 =>
    rcases h1 with ⟨ob, e, _⟩ | ⟨o, its, n, e, c, _⟩
    · exact ⟨_, .fTuple e, by cases t <;> exact kit_ty (kit_tuple _)⟩
    · exact ⟨_, .kTuple e c, by cases t <;> exact kit_ty (kit_tuple _)⟩
  | ref h1 =>
    obtain ⟨xs, e⟩ := hs.mut (List.mem_of_getElem? h1)
    exact ⟨_, .base (.lst e), by cases t <;> exact kit_ty (kit_list _)⟩
  | rol h1 h2 =>
    rcases h1 with ⟨o, e⟩ | ⟨o, its, n, e, c, _⟩
    · exact ⟨_, .base (.frz e), by cases t <;> exact kit_ty (kit_list _)⟩
    · exact ⟨_, .kList e c, by cases t <;> exact kit_ty (kit_list _)⟩
theorem boot_tn (t : Tn) : bootBuiltins (tnS t) = some (.type (tnN t)) := by cases t <;> decide +kernel
theorem d_isi {p p2 : Pos} {f : Sl → Sto → R D} (t : Tn) (hg : Gl X "isinstance") (hm : X.mg "isinstance" = none) (hg2 : Gl X (tnS t)) (hm2 : X.mg (tnS t) = none) (ha : PE X e (tD X.K XT E f)) (hn : nice e = true) :
    PE X (.Call (.Name "isinstance" p) [e, .Name (tnS t) p2] [] pos) (tD X.K XT E fun ε S => (f ε S).bind fun x S1 => .ok (.bl (isiD t x)) S1) := by
  have hb : PE X (.Name (tnS t) p2) (tC (.ty (tnN t))) := pe_bltn (u := .type (tnN t)) hg2 hm2 (boot_tn t) rfl (by cases t <;> decide) (by cases t <;> decide)
  refine PE.weak (pe_callB call_isi hg hm (by decide +kernel) (pa_cons ha (pa_cons hb pa_nil) (hs := nice_star hn _ X.env)) (by decide) (by decide) (nice_star hn _ X.env) rfl) fun σ H Q ⟨α, S, ε, hs, hl, q⟩ => ?_
  refine ⟨α, S, ε, hs, hl, q.bind.imp fun x S1 H1 α1 g1 s1 q1 v dv => ?_⟩
  obtain ⟨u, ty, ek⟩ := DV.ty s1 dv t
  exact ⟨v, .ty (tnN t), u, .type (tnN t), isiD t x, rfl, .ty _, ty, ek, out.here (XT := XT) (E := E) (b := D.bl (isiD t x)) q1 s1 _ (.bl _)⟩

/-! ### calls of defs -/
def spD (K : PySem.W.Frag) (XT : XTy) (n : Nat) (f : List D → Sto → R D) : Sp := fun vs H Q E => ∃ α S ds, SR K H α S ∧ DVs K H α ds vs ∧ ds.length = n ∧ out K XT E H α (f ds S) fun d _ H' α' => ∀ v, DV K H' α' d v → Q v H'
theorem d_call {CX : CXT} {k n : Nat} {f : Addr} {fd : FuncData} {ps : List Str} {x : Str} {p : Pos} {fn : List D → Sto → R D} {g : Sl → Sto → R (List D)} (F : FnG X.prog X.w X.K X.mg X.base CX k f fd ps (spD X.K XT n fn)) (hr : Room k X.A) (qt : Quiet X.A)
    (hg : Gl X x) (hm : X.mg x = some (.ref f)) (hk : PySem.W.keepIn X.K (.ref f) = true) (hb : Binds X.K fd ps []) (hx : Passes CX X E) (hdb : (x == ("__debug__" : Str)) = false)
    (hlen : ∀ ds S, ds.length ≠ n → fn ds S = .bad) (ha : PA X es (tA X.K XT E g)) (hn : es.all nice = true) (h0 : es ≠ []) :
    PE X (.Call (.Name x p) es [] pos) (tD X.K XT E fun ε S => (g ε S).bind fun xs S1 => fn xs S1) := by
  have go : ∀ {σ H Q}, tD X.K XT E (fun ε S => (g ε S).bind fun xs S1 => fn xs S1) σ H Q → tCall (spD X.K XT n fn) [] E (tA X.K XT E g) σ H Q := fun {σ H Q} h => by
    obtain ⟨α, S, ε, hs, hl, q⟩ := h
    refine ⟨α, S, ε, hs, hl, q.bind.imp fun xs S1 H1 α1 g1 s1 q1 vs dvs => ⟨α1, S1, xs, s1, by rw [List.append_nil]; exact dvs, ?_, q1⟩⟩
    by_cases hz : xs.length = n
    · exact hz
    · rw [hlen xs S1 hz] at q1; exact False.elim q1
  cases es with
  | nil => exact absurd rfl h0
  | cons e es =>
    rw [List.all_cons, Bool.and_eq_true] at hn
    exact PE.weak (pe_callG F hr qt hg hm hk hb hx ha hdb (nice_star hn.1 es X.env) (nice_plain hn.2 pos X.env)) fun _ _ _ q => go q
theorem d_call0 {CX : CXT} {k n : Nat} {f : Addr} {fd : FuncData} {ps : List Str} {x : Str} {p : Pos} {fn : List D → Sto → R D} (F : FnG X.prog X.w X.K X.mg X.base CX k f fd ps (spD X.K XT n fn)) (hr : Room k X.A) (qt : Quiet X.A)
    (hg : Gl X x) (hm : X.mg x = some (.ref f)) (hk : PySem.W.keepIn X.K (.ref f) = true) (hb : Binds X.K fd ps []) (hx : Passes CX X E) (hdb : (x == ("__debug__" : Str)) = false)
    (hlen : ∀ ds S, ds.length ≠ n → fn ds S = .bad) : PE X (.Call (.Name x p) [] [] pos) (tD X.K XT E fun ε S => (R.ok [] S).bind fun xs S1 => fn xs S1) :=
  PE.weak (pe_call0G F hr qt hg hm hk hb hx hdb) fun σ H Q ⟨α, S, ε, hs, hl, q⟩ => ⟨α, S, [], hs, .nil, by
    by_cases hz : 0 = n
    · exact hz
    · have q : out X.K XT E H α (fn [] S) fun d _ H' α' => ∀ v, DV X.K H' α' d v → Q v H' := q
      rw [hlen [] S hz] at q; exact False.elim q, q⟩
end
end Mi

set_option maxRecDepth 100000
set_option maxHeartbeats 1000000
namespace Mi
open PySem PySem.Spec PyProof.Rows L2
/-! ## own exceptions: class E(ValueError) whose __init__(self, path) formats path and keeps it -/
/-- a value that an f-string may show -/
def ShowV (K : PySem.W.Frag) (H : Hp) (v : V) : Prop := ∃ a p, v = .ref a ∧ Dp K H v p ∧ showB p = true
section
variable {X : Cx}
/-- {x} of a tuple or a list -/
theorem pe_fmtT {e : Expr} {te : TE} {pos : Pos} (qt : Quiet X.A) (hu : X.A.units + 65 < cLine) (he : PE X e te) :
    PE X (.FormattedValue e (-1) none pos) (fun σ H Q => te σ H fun v H1 => ShowV X.K H1 v ∧ ∀ y : Str, y.length ≤ lim → Q (.str y) H1) := by
  refine ⟨fun pins s σ H Q I h => ?_⟩
  refine wpAny_FormattedValue_plain (thn (he.run pins s σ H _ I h) fun u s1 hv => ?_)
  obtain ⟨v, H1, I1, r1, ⟨a, p, rfl, dp, hs⟩, q⟩ := hv
  obtain rfl : u = Value.ref a := r1
  unfold showB at hs
  simp only [Bool.and_eq_true, Bool.not_eq_true', decide_eq_true_eq] at hs
  obtain ⟨⟨⟨k1, k2⟩, k3⟩, k4⟩ := hs
  obtain ⟨as, rd⟩ := Dp.reads I1 p _ _ dp (show RelV (.ref a) (Value.ref a) from rfl)
  exact formatField_of_reads rd k1 (fun z => by rw [k2] at z; cases z) qt (by omega) (fun _ _ z => z) (fun h' u tk kp => ⟨.str p.shown, H1, I1.kept kp, ⟨u, rfl⟩, q _ k4⟩) (lim_le k4)
end
/-- what __init__ promises -/
def spI (K : PySem.W.Frag) (C : Addr) : Sp := fun vs H Q _ => ∃ a v, vs = [.ref a, v] ∧ H a = some (exo a C none) ∧ ShowV K H v ∧ ∀ dx, H dx = none → dx ≠ a → Q .non (upd (upd H dx (exd dx [("path", v)])) a (exo a C (some dx)))
/-- what is known of the class -/
structure ErrC (K : PySem.W.Frag) (mg : Str → Option Value) (nm : Str) (C fI : Addr) : Prop where
  m : mg nm = some (.ref C)
  T : OexC K C
  iC : PySem.W.findIn K (.ref C) "__init__" = some (some (.ref fI))
  tI : PySem.W.typeIn K (.ref fI) = some (.type "function")
  np : PySem.W.findIn K (.ref C) "path" = some none
  vV : PySem.W.findCls K (.type "ValueError") (.type "type") "__init__" = some (.val (.builtin "ValueError.__init__"))
  vE : mg "ValueError" = none
/-- the call's text, its positions as the compiler lays them -/
def CallAs (es : List Expr) (p1 p2 p8 : Pos) : Prop := ∀ env : PySem.Env, ∃ pl : Sem Bool, eval (.Call (.Attribute (.Name "ValueError" p1) "__init__" p2) es [] p8) env =
  (do let ov ← eval (.Name "ValueError" p1) env; standAt p2.atName; let (f, first) ← holding [ov] (getMethod ov "__init__" pl); callWith p8 f first (backTo p8 (starEach es env)) (backToKw p8 (keywordEach [] env)))
def NI : List Str := [("self" : Str), ("path" : Str)]
theorem init_ok {P : Program} {w : World} {K : PySem.W.Frag} {mg : Str → Option Value} {base : Heap} {nm qual : Str} {C fI : Addr} {fd : FuncData} {st : Stmt} {n : Nat} (R : ErrC K mg nm C fI) (F : L2.Fun K "__init__" qual st fI fd) (S : FnScope NI NI (defScope st))
    {txt : Str} {k : Nat} {p1 p2 p3 p4 p5 p6 p7 p8 p9 p10 p11 p12 p13 : Pos}
    (gl : (defScope st).names.lookup ("ValueError" : Str) = some .globalImplicit) (ht : txt.length ≤ 1000) (hcall : CallAs [.Name "self" p3, .JoinedStr [.Constant (.str txt) k p4, .FormattedValue (.Name "path" p5) (-1) none p6] p7] p1 p2 p8)
    (hb : defBody st = [.Expr (.Call (.Attribute (.Name "ValueError" p1) "__init__" p2) [.Name "self" p3, .JoinedStr [.Constant (.str txt) k p4, .FormattedValue (.Name "path" p5) (-1) none p6] p7] [] p8) p9, .Assign [.Attribute (.Name "self" p10) "path" p11] (.Name "path" p12) p13]) :
    FnG P w K mg base (L2.CX P w) (n + 1) fI fd NI (spI K C) := by
  refine Mi.Fun.okG F S (fun vs H Q W h => by obtain ⟨_, _, rfl, _⟩ := h; rfl) fun cdv A outer s H vs Q W qt hr h => ?_
  obtain ⟨a, v, rfl, ha, hv, q⟩ := h
  rw [hb]
  have hu : A.units + 3 + 65 < cLine := by
    have z := hr.un
    have z : A.units + 3 + 16 * n + 200 < cLine := z
    omega
  have hg : Gl (cxOf (L2.CX P w) P w K mg base NI qual (defScope st) fI cdv A outer s H W) "ValueError" := gl
  have v0 : ∀ {p : Pos}, PE (cxOf (L2.CX P w) P w K mg base NI qual (defScope st) fI cdv A outer s H W) (.Name "self" p) (tVar 0) := pe_var (i := 0) rfl ((S.par _ (by simp [NI])).imp id .inl)
  have v1 : ∀ {p : Pos}, PE (cxOf (L2.CX P w) P w K mg base NI qual (defScope st) fI cdv A outer s H W) (.Name "path" p) (tVar 1) := pe_var (i := 1) rfl ((S.par _ (by simp [NI])).imp id .inl)
  obtain ⟨pl, hc⟩ := hcall (cxOf (L2.CX P w) P w K mg base NI qual (defScope st) fI cdv A outer s H W).env
  refine ⟨_, pss_cons (ps_expr (pe_veinit (pl := pl) hg R.vE R.vV (pa_cons v0 (pa_cons (pe_joined (.cons pe_str (.cons (pe_fmtT qt hu v1) .nil))) pa_nil)) (hc := hc))) (pss_one (ps_ost v0 v1)), ?_⟩
  have l1 : ∀ y : Str, y.length ≤ lim → (Str.empty ++ txt ++ y).length ≤ sizeLine := fun y hy => by
    rw [Str.length_append, Str.length_append]
    have z : Str.empty.length = 0 := rfl
    have z2 : (101000 : Nat) ≤ sizeLine := by decide
    have z3 : lim = 100000 := rfl
    omega
  have l0 : (Str.empty ++ txt).length ≤ sizeLine := by
    rw [Str.length_append]
    have z : Str.empty.length = 0 := rfl
    have z2 : (101000 : Nat) ≤ sizeLine := by decide
    omega
  exact ⟨.ref a, rfl, txt, rfl, l0, v, rfl, hv, fun y hy => ⟨y, rfl, l1 y hy, a, C, [.str (Str.empty ++ txt ++ y)], rfl, (show 1 ≤ 1000 by decide), R.T, ha, v, rfl, .ref a, rfl, a, C, rfl, R.T, R.np, .inl ⟨ha, q⟩⟩⟩
/-! ### the exception made and raised -/
theorem Quiet.under {A : Around} {c : Code} (qt : Quiet A) (h : c.guards = []) : Quiet (A.under c) := by
  unfold Quiet at qt ⊢
  show pushGuards c.guards A.guards = some []
  rw [h, qt]
  rfl
section
variable {X : Cx} {nm : Str} {C fI : Addr} {n : Nat} {fd : FuncData} {p pos rpos : Pos} {e : Expr} {es : List Expr} {ta : TA}
theorem pmk_errG (R : ErrC X.K X.mg nm C fI) (F : FnG X.prog X.w X.K X.mg X.base (L2.CX X.prog X.w) n fI fd NI (spI X.K C)) (room : Room (n + 1) X.A) (qt : Quiet X.A) (bs : Binds X.K fd NI []) (pass : Passes (L2.CX X.prog X.w) X (fun _ _ _ => False)) (hg : Gl X nm)
    (as : PA X (e :: es) ta) (nd : (nm == ("__debug__" : Str)) = false) (h1 : starEach (e :: es) X.env = (false, eval e X.env) :: starEach es X.env) (h2 : (backTo pos (starEach es X.env)).any (·.1) = false) :
    PMk X (.Call (.Name nm p) (e :: es) [] pos) (tMkO C (spI X.K C) [] ta) := by
  intro pins st σ H Q J q
  obtain ⟨nmv, ql, N, bb, bm, sn, sub, ab, col, dd, k0, k1, k2, k3, k5, hC, hbm⟩ := R.T.cls
  refine wpAny_Call_Name_kw (ld_glob J hg R.m ?_ nd)
  refine PySem.W.callWith_K (h₀ := X.base) J.ok.mod.kin R.T.kC (thn (as.run pos pins st σ H _ J q) fun us s1 ⟨vs, H1, J1, rv, small, q1⟩ => ⟨J1.kIn, ?_⟩) h1 h2
  obtain ⟨hp, g, dr, tk, os⟩ := s1
  have above : hp.objs.size ≤ hp.objs.size + 1 := Nat.le_succ _
  have new : H1 (hp.objs.size + 1) = none := J1.hok.fresh above
  have q2 := q1 (hp.objs.size + 1) new
  have kept : ∀ b o, hp.get? b = some o → ((hp.push (PySem.W.kdv_tup us)).push (PySem.HandSPX.excO C hp.objs.size)).get? b = some o := fun b o z => Heap.get?_push_of_some _ (Heap.get?_push_of_some _ z)
  have there : ((hp.push (PySem.W.kdv_tup us)).push (PySem.HandSPX.excO C hp.objs.size)).get? (hp.objs.size + 1) = some (PySem.HandSPX.excO C hp.objs.size) := by heap_get
  have J2 : Inv X pins σ (upd H1 (hp.objs.size + 1) (exo (hp.objs.size + 1) C none)) ⟨(hp.push (PySem.W.kdv_tup us)).push (PySem.HandSPX.excO C hp.objs.size), g, dr, tk, os⟩ :=
    J1.laid (t' := tk) (a := hp.objs.size + 1) (o := exo (hp.objs.size + 1) C none) kept above (exo_ok there)
  have rv2 : Vals (V.ref (hp.objs.size + 1) :: (vs ++ [])) (Value.ref (hp.objs.size + 1) :: us) := .cons rfl (by rw [List.append_nil]; exact rv)
  have len : (Value.ref (hp.objs.size + 1) :: us).length = NI.length := by
    rw [← rv2.length]
    exact F.size _ _ _ _ q2
  have few : us.length ≤ sizeLine := by
    rw [← Paired.length rv, sizeLine_eq]
    omega
  have bd := bs _ (Value.ref (hp.objs.size + 1) :: us) J2.kIn (by rw [List.append_nil]; exact len)
  rw [List.append_nil] at bd
  have run := F.go _ (room.make C us []) (qt.under (by rfl)) X.stack _ _ (J2.env0.make C us []) ⟨Value.ref (hp.objs.size + 1) :: us, []⟩ (Value.ref (hp.objs.size + 1) :: us) _ bd rv2 _ (fun _ _ _ => False) q2
  refine wpAny_call (PySem.HandSPX.call_own PySem.F.excBase_ValueError (fun Y => PySem.HandSPX.refsVE_contains Y bm hbm) (J1.kIn _ _ hC) (PySem.W.looks_findIn J1.kIn R.iC) (fun self => PySem.W.bind_fn J1.kIn self R.tI) few (codeAny_mono run fun r s2 z => ?_))
  cases r with
  | error er => exact pass pins σ _ _ er s2 J2 z
  | ok fl =>
    cases fl with
    | ret u =>
      obtain ⟨v, H2, os2, bare2, un2, hok2, rv3, ev, d, fs, ea, ed, hd1, q3⟩ := z
      subst ev
      obtain ⟨hp2, g2, d2, t2, os'⟩ := s2
      exact ⟨rv3, mk_end (raises_own R.T.exC R.T.tyC) J1 above kept un2 hok2 os2 bare2 ea ed hd1 q3⟩
    | next => exact False.elim z
    | brk => exact False.elim z
    | cont => exact False.elim z
end
end Mi

set_option maxRecDepth 100000
namespace Mi
open PySem PySem.Spec PyProof.Rows L2
section
variable {X : Cx} {XT : XTy} {E : XK} {a b c e o : Expr} {es : List Expr} {pos : Pos}
/-! ### methods -/
/-- what of a value's type a method call asks -/
def TyOk (s : Shared) (v : Value) (T : String) : Prop := s.TypeIs v T ∧ ∀ a, v = .ref a → ∃ ob, s.heap.get? a = some ob ∧ ob.dict = none
theorem dv_ty {pins : List (Addr × Obj)} {σ : L2.St} {H : Hp} {s : Shared} {α : List Addr} {S : Sto} {d : D} {v : V} {u : Value} (I : Inv X pins σ H s) (hs : SR X.K H α S) (dv : DV X.K H α d v) (r : RelV v u) :
    ((∃ n, d = .ref n) → TyOk s u "list") ∧ ((∃ xs, d = .tup xs) → TyOk s u "tuple") := by
  refine ⟨fun ⟨n, e⟩ => ?_, fun ⟨xs, e⟩ => ?_⟩
  · subst e
    obtain ⟨p, rfl, hp⟩ := dv.ref_inv
    cases r
    have hn : n < S.length := by rw [← hs.len]; exact (List.getElem?_eq_some_iff.mp hp).1
    obtain ⟨ds, hds⟩ : ∃ ds, Mi.lsts S (.ref n) = some ds := by
      show ∃ ds, moL S[n]? = some ds
      rw [List.getElem?_eq_getElem hn]
      cases S[n] <;> exact ⟨_, rfl⟩
    obtain ⟨p', vs, hp', h1, _⟩ := hs.lsts hds
    rw [hp] at hp'; cases hp'
    exact tyV_is (x := .ref p) I rfl (Or.inl ⟨rfl, vs, h1⟩)
  · subst e
    obtain ⟨p, vs, rfl, h1, _⟩ := dv.tup_inv
    cases r
    rcases h1 with ⟨ob, h1, h2⟩ | ⟨ob, its, n, h1, hc, h2, _⟩
    · obtain ⟨e, q⟩ := I.hok p _ h1
      obtain ⟨_, its, _, ⟨ob', e', hc, _⟩⟩ := q
      rw [e] at e'; cases e'
      exact ⟨⟨ob, e, hc⟩, fun a ha => by cases ha; exact ⟨ob, e, h2⟩⟩
    · have e := I.kIn p ob h1
      exact ⟨⟨ob, e, hc⟩, fun a ha => by cases ha; exact ⟨ob, e, h2⟩⟩
def tBX (W : Bool → V → Hp → Prop) (r : Bool → V → List V → Hp → VK → Prop) (to : TE) (t : TA) : TE := fun σ H Q => to σ H fun x H1 => ∃ kd, W kd x H1 ∧ t σ H1 fun xs H2 => r kd x xs H2 Q
theorem nice_all : ∀ {es : List Expr}, es.all nice = true → ∀ (pos : Pos) (env : PySem.Env), (backTo pos (starEach es env)).all (fun x => !x.1) = true
  | [], _, _, _ => rfl
  | e :: es, h, pos, env => by
    rw [List.all_cons, Bool.and_eq_true] at h
    rw [nice_star h.1]
    show (true && (backTo pos (starEach es env)).all (fun x => !x.1)) = true
    rw [nice_all h.2 pos env]
    rfl
/-- o.m(e, ..), the built-in's method chosen by the value -/
theorem fe_bm {name : Str} {apos cpos : Pos} {to : TE} {t : TA} {W : Bool → V → Hp → Prop} {r : Bool → V → List V → Hp → VK → Prop}
    (hw : ∀ (pins : List (Addr × Obj)) (s : Shared) (σ : L2.St) (H : Hp) (x : V) (v : Value) (kd : Bool), Inv X pins σ H s → RelV x v → W kd x H → ∃ T id, PlainAttrs T ∧ Slot T name id ∧ typeOf (.builtin id) = pure (.type "method_descriptor") ∧ TyOk s v T ∧
      ∀ (s2 : Shared) (H2 : Hp) (xs : List V) (us : List Value) (Q : VK), Inv X pins σ H2 s2 → Vals xs us → r kd x xs H2 Q → wpAny (model X.prog X.w) X.A (PySem.call (.builtin id) (v :: us)) (EP X pins σ Q) X.xe s2)
    (ho : PE X o to) (ha : PA X (e :: es) t) (hb : plainB o = true) (hn : (e :: es).all nice = true) (hlen : (e :: es).length < 30) (hline : (apos.endLine == cpos.line) = true) :
    PE X (.Call (.Attribute o name apos) (e :: es) [] cpos) (tBX W r to t) := by
  have hn' := hn
  rw [List.all_cons, Bool.and_eq_true] at hn'
  have hs := nice_star hn'.1 es X.env
  have hp := nice_plain hn'.2 cpos X.env
  have few : ((backTo cpos (starEach (e :: es) X.env)).all (fun x => !x.1) && (backToKw cpos (keywordEach [] X.env)).all (fun x => x.1.isSome)
      && decide ((e :: es).length + ([] : List Keyword).length + (if ([] : List Keyword).isEmpty then 0 else 1) < 30)) = true := by
    rw [nice_all hn cpos X.env]
    show (true && true && decide ((e :: es).length + 0 + 0 < 30)) = true
    rw [decide_eq_true (by omega)]
    rfl
  refine ⟨fun pins s σ H Q I h => wpAny_Call_method_late (plainB_ok hb name X.env _) few hline rfl (thn (ho.run pins s σ H _ I h) fun v s1 ⟨x, H1, I1, r1, kd, ty, q1⟩ => ?_)⟩
  obtain ⟨T, id, pa, slot, hty, ⟨h1, h2⟩, hm⟩ := hw pins s1 σ H1 x v kd I1 r1 ty
  refine ⟨T, id, pa, slot, hty, h1, h2, ?_⟩
  have hA := ha.run cpos pins s1 σ H1 _ I1 q1
  rw [hs] at hA ⊢
  refine Calls.callWith_builtin (by show (false || (backTo cpos (starEach es X.env)).any (·.1)) = false; rw [hp]; rfl) (Calls.evalArgs_plain (thn hA fun us s2 ⟨vs, H2, I2, r2, q2⟩ => ?_))
  exact hm s2 H2 vs us Q I2 r2 q2
def isTupD : D → Bool
  | .tup _ => true
  | _ => false
def rM (K : PySem.W.Frag) (XT : XTy) (E : XK) (m : Mt) (kd : Bool) : V → List V → Hp → VK → Prop := fun v vs H Q => ∃ α S d ds, SR K H α S ∧ DV K H α d v ∧ DVs K H α ds vs ∧ mtOk m d = true ∧ isTupD d = kd ∧ out K XT E H α (mtD m d ds S) fun d' _ H' α' => ∀ u, DV K H' α' d' u → Q u H'
def wM (K : PySem.W.Frag) (m : Mt) (kd : Bool) : V → Hp → Prop := fun v H => ∃ α S d, SR K H α S ∧ DV K H α d v ∧ mtOk m d = true ∧ isTupD d = kd
theorem tBX_of {m : Mt} {f : Sl → Sto → R D} {g : Sl → Sto → R (List D)} {σ : L2.St} {H : Hp} {Q : VK} (h : tD X.K XT E (fun ε S => (f ε S).bind fun x S1 => if mtOk m x then (g ε S1).bind fun xs S2 => mtD m x xs S2 else .bad) σ H Q) :
    tBX (wM X.K m) (rM X.K XT E m) (tD X.K XT E f) (tA X.K XT E g) σ H Q := by
  obtain ⟨α, S, ε, hs, hl, q⟩ := h
  refine ⟨α, S, ε, hs, hl, q.bind.imp fun x S1 H1 α1 g1 s1 q1 v dv => ⟨isTupD x, ?_⟩⟩
  by_cases hk : mtOk m x = true
  · rw [if_pos hk] at q1
    exact ⟨⟨α1, S1, x, s1, dv, hk, rfl⟩, α1, S1, ε, s1, hl.mono hs g1, q1.bind.imp fun xs S2 H2 α2 g2 s2 q2 vs dvs => ⟨α2, S2, x, xs, s2, dv.mono s1 g2, dvs, hk, rfl, q2⟩⟩
  · rw [if_neg hk] at q1; exact False.elim q1
theorem refOk {m : Mt} {d : D} (hm : m = .append ∨ m = .extend) (h : mtOk m d = true) : ∃ n, d = .ref n := by
  rcases hm with rfl | rfl <;> (cases d <;> first | exact ⟨_, rfl⟩ | cases h)
theorem d_append {apos cpos : Pos} {f : Sl → Sto → R D} {g : Sl → Sto → R (List D)} (ho : PE X o (tD X.K XT E f)) (ha : PA X (e :: es) (tA X.K XT E g)) (hb : plainB o = true) (hn : (e :: es).all nice = true)
    (hlen : (e :: es).length < 30) (hline : (apos.endLine == cpos.line) = true) :
    PE X (.Call (.Attribute o "append" apos) (e :: es) [] cpos) (tD X.K XT E fun ε S => (f ε S).bind fun x S1 => if mtOk .append x then (g ε S1).bind fun xs S2 => mtD .append x xs S2 else .bad) :=
  PE.weak (fe_bm (W := wM X.K .append) (r := rM X.K XT E .append) (fun pins s σ H x v kd I r ⟨α, S, d, hs, dv, hk, _⟩ => by
    have hr := refOk (.inl rfl) hk
    refine ⟨_, _, PySem.F.plainAttrs_list, PySem.F.slot_list_append, PySem.F.type_list_append, (dv_ty I hs dv r).1 hr, fun s2 H2 xs us Q I2 rv q => ?_⟩
    obtain ⟨α2, S2, d2, ds, hs2, dv2, dvs, hk2, _, q⟩ := q
    obtain ⟨n, rfl⟩ := refOk (.inl rfl) hk2
    obtain ⟨p, rfl, hp⟩ := dv2.ref_inv
    cases dvs with
    | nil => exact False.elim q
    | cons h1 h2 =>
      cases h2 with
      | cons _ _ => exact False.elim q
      | nil =>
        rename_i dd vv
        have q : out X.K XT E H2 α2 (match S2[n]? with | some (.lst xs) => if xs.length < lim then R.ok .non (S2.set n (.lst (xs ++ [dd]))) else .bad | _ => .bad) fun d' _ H' α' => ∀ u, DV X.K H' α' d' u → Q u H' := q
        cases e1 : S2[n]? with
        | none => rw [e1] at q; exact False.elim q
        | some m =>
          rw [e1] at q
          cases m with
          | ro _ => exact False.elim q
          | lst ys =>
            obtain ⟨p', vs, hp', k1, k2⟩ := hs2.lst e1
            rw [hp] at hp'; cases hp'
            by_cases hz : ys.length < lim
            · simp only [if_pos hz] at q
              refine mt_append pins s2 σ H2 (.ref p) [vv] v us Q I2 r rv ⟨p, vs, vv, rfl, rfl, k1, by rw [← k2.length]; exact lim_lt hz, ?_⟩
              exact q _ _ (hs2.setAg hp) (hs2.setL hp (k2.append (.cons h1 .nil))) _ .non
            · simp only [if_neg hz] at q; exact False.elim q) ho ha hb hn hlen hline) fun _ _ _ q => tBX_of q
theorem d_extend {apos cpos : Pos} {f : Sl → Sto → R D} {g : Sl → Sto → R (List D)} (ho : PE X o (tD X.K XT E f)) (ha : PA X (e :: es) (tA X.K XT E g)) (hb : plainB o = true) (hn : (e :: es).all nice = true)
    (hlen : (e :: es).length < 30) (hline : (apos.endLine == cpos.line) = true) :
    PE X (.Call (.Attribute o "extend" apos) (e :: es) [] cpos) (tD X.K XT E fun ε S => (f ε S).bind fun x S1 => if mtOk .extend x then (g ε S1).bind fun xs S2 => mtD .extend x xs S2 else .bad) :=
  PE.weak (fe_bm (W := wM X.K .extend) (r := rM X.K XT E .extend) (fun pins s σ H x v kd I r ⟨α, S, d, hs, dv, hk, _⟩ => by
    have hr := refOk (.inr rfl) hk
    refine ⟨_, _, PySem.F.plainAttrs_list, PySem.F.slot_list_extend, PySem.F.type_list_extend, (dv_ty I hs dv r).1 hr, fun s2 H2 xs us Q I2 rv q => ?_⟩
    obtain ⟨α2, S2, d2, ds, hs2, dv2, dvs, hk2, _, q⟩ := q
    obtain ⟨n, rfl⟩ := refOk (.inr rfl) hk2
    obtain ⟨p, rfl, hp⟩ := dv2.ref_inv
    cases dvs with
    | nil => exact False.elim q
    | cons h1 h2 =>
      cases h1 with
      | @ref n' p' hp' =>
        cases h2 with
        | cons _ _ => exact False.elim q
        | nil =>
          have q : out X.K XT E H2 α2 (match S2[n]?, S2[n']? with | some (.lst xs), some (.lst ys) => if xs.length + ys.length ≤ lim then R.ok .non (S2.set n (.lst (xs ++ ys))) else .bad | _, _ => .bad) fun d' _ H' α' => ∀ u, DV X.K H' α' d' u → Q u H' := q
          cases e1 : S2[n]? with
          | none => rw [e1] at q; exact False.elim q
          | some m =>
            cases e2 : S2[n']? with
            | none => rw [e1, e2] at q; cases m <;> exact False.elim q
            | some m' =>
              rw [e1, e2] at q
              cases m with
              | ro _ => exact False.elim q
              | lst ys =>
                cases m' with
                | ro _ => exact False.elim q
                | lst zs =>
                  obtain ⟨b1, vs, hb1, k1, k2⟩ := hs2.lst e1
                  rw [hp] at hb1; cases hb1
                  obtain ⟨b2, ws, hb2, l1, l2⟩ := hs2.lst e2
                  rw [hp'] at hb2; cases hb2
                  by_cases hz : ys.length + zs.length ≤ lim
                  · simp only [if_pos hz] at q
                    refine mt_extend pins s2 σ H2 (.ref p) [.ref p'] v us Q I2 r rv ⟨p, p', vs, ws, rfl, rfl, k1, l1, by rw [← k2.length, ← l2.length]; exact lim_le hz, ?_⟩
                    exact q _ _ (hs2.setAg hp) (hs2.setL hp (k2.append l2)) _ .non
                  · simp only [if_neg hz] at q; exact False.elim q
      | _ => exact False.elim q) ho ha hb hn hlen hline) fun _ _ _ q => tBX_of q

/-! ### targets -/
inductive YV (K : PySem.W.Frag) (H : Hp) (α : List Addr) : Y → V → Prop
  | one {d : D} {v : V} : DV K H α d v → YV K H α (.one d) v
  | pr {d1 d2 : D} {T : Addr} {v1 v2 : V} : SqT K H T [v1, v2] → DV K H α d1 v1 → DV K H α d2 v2 → YV K H α (.pr d1 d2) (.ref T)
/-- alike but at the places ts -/
def AgS (ts : List Nat) (σ σ' : L2.St) : Prop := σ'.length = σ.length ∧ ∀ j, j ∉ ts → σ'[j]? = σ[j]?
theorem AgS.refl {ts : List Nat} {σ : L2.St} : AgS ts σ σ := ⟨rfl, fun _ _ => rfl⟩
theorem AgS.trans {ts us : List Nat} {σ σ1 σ2 : L2.St} (h : AgS ts σ σ1) (k : AgS us σ1 σ2) : AgS (ts ++ us) σ σ2 :=
  ⟨k.1.trans h.1, fun j hj => (k.2 j fun z => hj (List.mem_append_right _ z)).trans (h.2 j fun z => hj (List.mem_append_left _ z))⟩
theorem AgS.set {σ : L2.St} {i : Nat} {o : Option V} : AgS [i] σ (σ.set i o) := ⟨List.length_set, fun j hj => List.getElem?_set_ne fun z => hj (by rw [z]; exact List.mem_singleton.mpr rfl)⟩
def tY (K : PySem.W.Frag) (XT : XTy) (E : XK) (ts : List Nat) (g : Y → Sl → Sto → R Sl) : TG := fun v σ H Q => ∃ α S ε y, SR K H α S ∧ SL K H α ε σ ∧ YV K H α y v ∧ out K XT E H α (g y ε S) fun ε' _ H' α' => ∀ σ', SL K H' α' ε' σ' → AgS ts σ σ' → Q σ' H'
def tYs (K : PySem.W.Frag) (XT : XTy) (E : XK) (ts : List Nat) (g : List D → Sl → Sto → R Sl) : TGs := fun vs σ H Q => ∃ α S ε ds, SR K H α S ∧ SL K H α ε σ ∧ DVs K H α ds vs ∧ out K XT E H α (g ds ε S) fun ε' _ H' α' => ∀ σ', SL K H' α' ε' σ' → AgS ts σ σ' → Q σ' H'
theorem g_name {i : Nat} {x : Str} (hN : X.N.Nodup) (hi : X.N[i]? = some x) (hx : Loc X.env.scope x) (hf : X.fn x = true ∨ X.env.scope.names.lookup x = some .local) {cl : Nat → List D → Sto → R D} {F : Nat} :
    PG X (.Name x pos) (tY X.K XT E [i] (asg cl F (.name i))) := PG.weak (pg_name hN hi hx hf) fun v σ H Q ⟨α, S, ε, y, hs, hl, yv, q⟩ => by
  cases yv with
  | one dv => exact out.here (β := Sl) (b := _) q hs _ (hl.set i dv) AgS.set
  | pr _ _ _ => exact False.elim q
theorem gs_nil {cl : Nat → List D → Sto → R D} {F : Nat} : PGs X [] (tYs X.K XT E [] (asgL cl F .nil)) := PGs.weak pgs_nil fun vs σ H Q ⟨α, S, ε, ds, hs, hl, dv, q⟩ => by
  cases dv with
  | nil => exact ⟨rfl, out.here (β := Sl) (b := ε) q hs _ hl AgS.refl⟩
  | cons _ _ => exact False.elim q
def nstar : Expr → Bool
  | .Name .. | .Subscript .. | .Tuple .. => true
  | _ => false
theorem nstar_ok (h : nstar e = true) (es : List Expr) (env : PySem.Env) : (assignEach (e :: es) env).map (·.2) = assign e env :: (assignEach es env).map (·.2) := by
  cases e <;> first | rfl | exact absurd h Bool.false_ne_true
theorem nstar_fst : ∀ {es : List Expr}, es.all nstar = true → ∀ env : PySem.Env, (assignEach es env).findIdx? (·.1) = none ∧ (assignEach es env).length = es.length
  | [], _, _ => ⟨rfl, rfl⟩
  | e :: es, h, env => by
    rw [List.all_cons, Bool.and_eq_true] at h
    obtain ⟨h1, h2⟩ := h
    obtain ⟨k1, k2⟩ := nstar_fst h2 env
    have e1 : assignEach (e :: es) env = (false, assign e env) :: assignEach es env := by
      cases e <;> first | rfl | exact absurd h1 Bool.false_ne_true
    rw [e1]
    refine ⟨?_, by rw [List.length_cons, List.length_cons, k2]⟩
    rw [List.findIdx?_cons, k1]
    rfl
theorem gs_cons {ts us : List Nat} {g : Y → Sl → Sto → R Sl} {h : List D → Sl → Sto → R Sl} (hg : PG X e (tY X.K XT E ts g)) (hr : PGs X es (tYs X.K XT E us h)) (hn : nstar e = true) :
    PGs X (e :: es) (tYs X.K XT E (ts ++ us) fun xs ε S => match xs with | x :: xs => (g (.one x) ε S).bind fun ε1 S1 => h xs ε1 S1 | [] => .bad) :=
  PGs.weak (pgs_cons hg hr (nstar_ok hn es X.env)) fun vs σ H Q ⟨α, S, ε, ds, hs, hl, dv, q⟩ => by
    cases dv with
    | nil => exact False.elim q
    | cons d1 d2 => exact ⟨_, _, rfl, α, S, ε, _, hs, hl, .one d1, (out.bind q).imp fun ε1 S1 H1 α1 g1 s1 q1 σ1 l1 a1 => ⟨α1, S1, ε1, _, s1, l1, d2.mono hs g1, q1.imp fun _ _ _ _ _ _ q2 σ2 l2 a2 => q2 σ2 l2 (a1.trans a2)⟩⟩
def gTupX (K : PySem.W.Frag) (t : TGs) : TG := fun v σ H Q => ∃ a xs, v = .ref a ∧ SqT K H a xs ∧ t xs σ H Q
theorem g_tup {k n : Nat} {ts : List Nat} {h : List D → Sl → Sto → R Sl} (hc : X.calm = true) (hr : PGs X es (tYs X.K XT E ts h)) (hn : es.all nstar = true) (hlen : n = es.length) :
    PG X (.Tuple es k pos) (tY X.K XT E ts fun y ε S => match y with | .one (.tup xs) => if xs.length = n then h xs ε S else .bad | .pr a b => if 2 = n then h [a, b] ε S else .bad | _ => .bad) := by
  obtain ⟨k1, k2⟩ := nstar_fst hn X.env
  refine PG.weak (pg_tup hc hr k2 k1) fun v σ H Q ⟨α, S, ε, y, hs, hl, yv, q⟩ => ?_
  cases yv with
  | @one d _ dv =>
    cases d with
    | tup xs =>
      obtain ⟨p, vs, rfl, h1, h2⟩ := dv.tup_inv
      have q : out X.K XT E H α (if xs.length = n then h xs ε S else .bad) fun ε' _ H' α' => ∀ σ', SL X.K H' α' ε' σ' → AgS ts σ σ' → Q σ' H' := q
      by_cases hz : xs.length = n
      · rw [if_pos hz] at q
        exact ⟨p, vs, rfl, h1.sq, by rw [← h2.length, hz, hlen], α, S, ε, xs, hs, hl, h2, q⟩
      · rw [if_neg hz] at q; exact False.elim q
    | _ => exact False.elim q
  | @pr a b T v1 v2 hT da db =>
    have q : out X.K XT E H α (if 2 = n then h [a, b] ε S else .bad) fun ε' _ H' α' => ∀ σ', SL X.K H' α' ε' σ' → AgS ts σ σ' → Q σ' H' := q
    by_cases hz : 2 = n
    · rw [if_pos hz] at q
      exact ⟨T, [v1, v2], rfl, hT, by rw [← hlen, ← hz]; rfl, α, S, ε, [a, b], hs, hl, .cons da (.cons db .nil), q⟩
    · rw [if_neg hz] at q; exact False.elim q
theorem setX : PSet X fun ov iv v H Q => ∃ α S x y d ε, SR X.K H α S ∧ DV X.K H α x ov ∧ DV X.K H α y iv ∧ DV X.K H α d v ∧ out X.K XT E H α (setD x y d ε S) fun _ _ H' _ => Q H' := by
  intro pins s σ H ov iv v cv ci cu Q I ro ri rv h
  obtain ⟨α, S, x, y, d, ε, hs, hx, hy, hd, q⟩ := h
  cases x with
  | ref r =>
    cases y with
    | int k =>
      obtain ⟨p, rfl, hp⟩ := hx.ref_inv
      cases hy.int_inv
      unfold setD at q
      cases e1 : S[r]? with
      | none => simp only [e1] at q; exact False.elim q
      | some m =>
        cases m with
        | ro _ => simp only [e1] at q; exact False.elim q
        | lst xs =>
          simp only [e1] at q
          cases e2 : ixN xs.length k with
          | none => rw [e2] at q; exact False.elim q
          | some j =>
            rw [e2] at q
            obtain ⟨p', vs, hp', k1, k2⟩ := hs.lst e1
            rw [hp] at hp'; cases hp'
            refine set_list pins s σ H (.ref p) (.int k) v cv ci cu Q I ro ri rv ⟨p, vs, k, j, rfl, rfl, k1, by rw [← k2.length]; exact e2, ?_⟩
            exact q _ _ (hs.setAg hp) (hs.setL hp (k2.set j hd))
    | _ => exact False.elim q
  | _ => cases y <;> exact False.elim q
theorem g_sub {f g : Sl → Sto → R D} (ho : PE X o (tD X.K XT E f)) (hi : PE X a (tD X.K XT E g)) (hn : nice a = true) :
    PG X (.Subscript o a pos) (tY X.K XT E [] fun y ε S => match y with | .one d => (f ε S).bind fun x S1 => (g ε S1).bind fun z S2 => setD x z d ε S2 | .pr _ _ => .bad) := by
  have hassign : ∀ v, assign (.Subscript o a pos) X.env v = (do
      let ov ← holding [v] (eval o X.env)
      let iv ← holding [v, ov] (eval a X.env)
      standAt pos
      holding [v, ov, iv] (setItem ov iv v)
      release [v, ov, iv] []) := fun v => by cases a <;> first | rfl | exact absurd hn Bool.false_ne_true
  refine PG.weak (pg_sub ho hi (setX (XT := XT) (E := E)) hassign) fun v σ H Q ⟨α, S, ε, y, hs, hl, yv, q⟩ => ?_
  cases yv with
  | pr _ _ _ => exact False.elim q
  | @one d _ dv =>
    refine ⟨α, S, ε, hs, hl, (out.bind q).imp fun x S1 H1 α1 g1 s1 q1 ov dx => ⟨α1, S1, ε, s1, hl.mono hs g1, (out.bind q1).imp fun z S2 H2 α2 g2 s2 q2 iv dz => ?_⟩⟩
    refine ⟨α2, S2, x, z, d, ε, s2, dx.mono s1 g2, dz, (dv.mono hs g1).mono s1 g2, ?_⟩
    have hl2 := (hl.mono hs g1).mono s1 g2
    unfold setD at q2 ⊢
    split at q2
    · split at q2
      · split at q2
        · intro H' α' g' s'
          exact q2 H' α' g' s' σ (hl2.mono s2 g') AgS.refl
        · exact False.elim q2
      · exact False.elim q2
    · exact False.elim q2
end
end Mi

set_option maxRecDepth 100000
namespace Mi
open PySem PySem.Spec PyProof.Rows L2
theorem find_at {ds : List PyData} {p : PyData → Bool} {j : Nat} (h : ds.findIdx? p = some j) : (∃ z, ds[j]? = some z ∧ p z = true) ∧ ∀ m z', m < j → ds[m]? = some z' → p z' = false := by
  obtain ⟨h1, h2, h3⟩ := List.findIdx?_eq_some_iff_getElem.mp h
  refine ⟨⟨ds[j], List.getElem?_eq_getElem h1, h2⟩, fun m z' hm hz => ?_⟩
  have q := h3 m hm
  have hm' : m < ds.length := Nat.lt_trans hm h1
  rw [List.getElem?_eq_getElem hm'] at hz
  have e := Option.some.inj hz
  rw [e] at q
  simpa using q
theorem findD_dp {K : PySem.W.Frag} {H : Hp} {α : List Addr} {S : Sto} {x y : D} {v w : V} {j : Nat} (hs : SR K H α S) (hx : DV K H α x v) (hy : DV K H α y w) (h : findD S x y = some j) :
    ∃ p q ds, flat S deep y = some q ∧ Dp K H v p ∧ Dp K H w q ∧ (q = .list ds ∨ (q = .tuple ds ∧ ds.length ≤ lim)) ∧ SeqAt.shaped p = true ∧ SeqAt.shaped q = true ∧ ds.findIdx? (fun z => PyData.eqv z p) = some j := by
  unfold findD at h
  split at h
  · rename_i d ds e1 e2
    split at h
    · rename_i hsh
      rw [Bool.and_eq_true] at hsh
      exact ⟨d, _, ds, e2, hs.dp hx e1, hs.dp hy e2, .inl rfl, hsh.1, hsh.2, h⟩
    · cases h
  · rename_i d ds e1 e2
    split at h
    · rename_i hsh
      rw [Bool.and_eq_true, Bool.and_eq_true] at hsh
      exact ⟨d, _, ds, e2, hs.dp hx e1, hs.dp hy e2, .inr ⟨rfl, of_decide_eq_true hsh.2⟩, hsh.1.1, hsh.1.2, h⟩
    · cases h
  · cases h
section
variable {X : Cx} {XT : XTy} {E : XK} {a b c e o : Expr} {es : List Expr} {pos : Pos}
/-- t.index(x): the first place of an equal one -/
theorem mt_indexT (hu : X.A.units + 65 < cLine) : MtR X "tuple.index" fun v vs H Q => ∃ (p : Addr) (y : V) (d : PyData) (ds : List PyData) (j : Nat), v = V.ref p ∧ vs = [y] ∧ Dp X.K H (V.ref p) (.tuple ds) ∧ Dp X.K H y d ∧
    SeqAt.shaped (.tuple ds) = true ∧ SeqAt.shaped d = true ∧ ds.findIdx? (fun z => PyData.eqv z d) = some j ∧ Q (.int (j : Nat)) H := by
  intro pins s σ H v vs cv us Q I rv rvs h
  obtain ⟨p, y, d, ds, j, rfl, rfl, hl, hy, sl, sd, hj, q⟩ := h
  obtain ⟨⟨z, hz, hzj⟩, hno⟩ := find_at hj
  cases rv
  obtain ⟨uy, rfl, ry⟩ := vals1 rvs
  obtain ⟨bs, r1⟩ := Dp.reads I d y uy hy ry
  have hxs : PyData.canLayAll0 ds = true := lay_tup sl
  have room : X.A.units + 1 + min (PyData.depthAll ds) d.depth < cLine := room_in_shaped sd hu
  cases hl with
  | tup hs' ha =>
    obtain ⟨its, rv', ⟨⟨cls, dd, data, sls⟩, ho, hc, n, hdt⟩, hlen⟩ := I.tuple hs'
    simp only at hc hdt
    subst hc hdt
    obtain ⟨as, h4⟩ := Dp.readsAll I ds _ its ha rv'
    have hn : its.length = ds.length := SeqAt.ReadsAll.length ds its as h4
    have hmap : its.map (SeqAt.readOf s.heap) = ds := SeqAt.readsAll_map ds its as hxs h4
    have hjl : j < its.length := by rw [hn]; exact (List.getElem?_eq_some_iff.mp hz).1
    have hja : j < its.toArray.size := by rw [List.size_toArray]; exact hjl
    have at_ : ∀ (m : Nat) (hm : m < its.toArray.size) (z' : PyData), ds[m]? = some z' → SeqAt.readOf s.heap its.toArray[m] = z' := fun m hm z' hz' => by
      have hml : m < its.length := by rw [List.size_toArray] at hm; exact hm
      rw [← hmap, List.getElem?_map, List.getElem?_eq_getElem hml] at hz'
      have e1 : SeqAt.readOf s.heap its[m] = z' := Option.some.inj hz'
      simpa using e1
    refine call_meets PySem.F.slot_tuple_index ⟨_, ho, rfl⟩ PySem.F.entry_tuple_index (PySem.F.args_tuple_index_2 _ _)
      (TI.tuple_indexAt p its.toArray n dd sls uy (fun u => PyData.eqv (SeqAt.readOf s.heap u) d) j hja (by rw [at_ j hja z hz]; exact hzj) fun m hm hmj => ?_)
      ⟨ho, SeqAt.items_eqAt (vs := its.toArray) (show ReadsAll s.heap its.toArray.toList ds as from h4) r1 hxs (SeqAt.canLay_of_shaped sd) room, ?_⟩
    · have hmd : m < ds.length := by rw [List.size_toArray, hn] at hm; exact hm
      rw [at_ m hm _ (List.getElem?_eq_getElem hmd)]
      exact hno m _ hmj (List.getElem?_eq_getElem hmd)
    · exact ⟨.int (j : Nat), H, I.tok _, ⟨_, rfl⟩, q⟩
theorem type_tuple_index : typeOf (.builtin "tuple.index") = pure (.type "method_descriptor") := by kernel_rfl
theorem d_index {apos cpos : Pos} {f : Sl → Sto → R D} {g : Sl → Sto → R (List D)} (hu : X.A.units + 65 < cLine) (ho : PE X o (tD X.K XT E f)) (ha : PA X (e :: es) (tA X.K XT E g)) (hb : plainB o = true) (hn : (e :: es).all nice = true)
    (hlen : (e :: es).length < 30) (hline : (apos.endLine == cpos.line) = true) :
    PE X (.Call (.Attribute o "index" apos) (e :: es) [] cpos) (tD X.K XT E fun ε S => (f ε S).bind fun x S1 => if mtOk .index x then (g ε S1).bind fun xs S2 => mtD .index x xs S2 else .bad) := by
  refine PE.weak (fe_bm (W := wM X.K .index) (r := rM X.K XT E .index) (fun pins s σ H x v kd I r ⟨α, S, d, hs, dv, hk, ek⟩ => ?_) ho ha hb hn hlen hline) fun _ _ _ q => tBX_of q
  have fin : ∀ {α2 : List Addr} {S2 : Sto} {H2 : Hp} {d2 dd : D} {vv : V} {Q : VK}, SR X.K H2 α2 S2 → DV X.K H2 α2 d2 x → DV X.K H2 α2 dd vv → (out X.K XT E H2 α2 (mtD .index d2 [dd] S2) fun d' _ H' α' => ∀ u, DV X.K H' α' d' u → Q u H') →
      ∃ (p q : PyData) (ds : List PyData) (j : Nat), flat S2 deep d2 = some q ∧ Dp X.K H2 vv p ∧ Dp X.K H2 x q ∧ (q = .list ds ∨ (q = .tuple ds ∧ ds.length ≤ lim)) ∧ SeqAt.shaped p = true ∧ SeqAt.shaped q = true ∧ ds.findIdx? (fun z => PyData.eqv z p) = some j ∧ Q (.int (j : Nat)) H2 := fun {α2 S2 H2 d2 dd vv Q} hs2 dv2 h1 q => by
    have q : out X.K XT E H2 α2 (R.of S2 ((findD S2 dd d2).map fun (j : Nat) => D.int (j : Nat))) fun d' _ H' α' => ∀ u, DV X.K H' α' d' u → Q u H' := by cases d2 <;> exact q
    obtain ⟨z, e1, q⟩ := out.of q hs2
    obtain ⟨j, e2, rfl⟩ := map_some_inv e1
    obtain ⟨p, r, ds, k0, k1, k2, k3, k4, k5, k6⟩ := findD_dp hs2 h1 dv2 e2
    exact ⟨p, r, ds, j, k0, k1, k2, k3, k4, k5, k6, q _ (.int _)⟩
  cases kd with
  | false =>
    have hr : ∃ n, d = .ref n := by cases d <;> first | exact ⟨_, rfl⟩ | exact absurd hk Bool.false_ne_true | exact absurd ek Bool.false_ne_true | exact absurd ek.symm Bool.false_ne_true
    refine ⟨_, _, PySem.F.plainAttrs_list, PySem.F.slot_list_index, PySem.F.type_list_index, (dv_ty I hs dv r).1 hr, fun s2 H2 xs us Q I2 rv q => ?_⟩
    obtain ⟨α2, S2, d2, ds, hs2, dv2, dvs, hk2, ek2, q⟩ := q
    cases dvs with
    | nil => cases d2 <;> exact False.elim q
    | cons h1 h2 =>
      cases h2 with
      | cons _ _ => cases d2 <;> exact False.elim q
      | nil =>
        obtain ⟨pd, qd, dl, j, k0, k1, k2, k3, k4, k5, k6, q9⟩ := fin hs2 dv2 h1 q
        obtain ⟨⟨z, hz, hzj⟩, hno⟩ := find_at k6
        obtain ⟨n, rfl⟩ : ∃ n, d2 = .ref n := by cases d2 <;> first | exact ⟨_, rfl⟩ | exact absurd hk2 Bool.false_ne_true | exact absurd ek2 Bool.false_ne_true | exact absurd ek2.symm Bool.false_ne_true
        obtain ⟨p, rfl, hp⟩ := dv2.ref_inv
        rcases k3 with rfl | ⟨rfl, _⟩
        · exact mt_indexD hu pins s2 σ H2 _ _ v us Q I2 r rv ⟨p, _, pd, dl, j, z, rfl, rfl, k2, k1, k5, k4, hz, hzj, hno, q9⟩
        · exfalso
          have k0 : (moL S2[n]?).bind (fun xs => (xs.mapM (flat S2 39)).map PyData.list) = some (.tuple dl) := k0
          cases e0 : moL S2[n]? with
          | none => rw [e0] at k0; cases k0
          | some w =>
            rw [e0] at k0
            obtain ⟨_, _, e⟩ := map_some_inv k0
            cases e
  | true =>
    have hr : ∃ xs, d = .tup xs := by cases d <;> first | exact ⟨_, rfl⟩ | exact absurd hk Bool.false_ne_true | exact absurd ek Bool.false_ne_true | exact absurd ek.symm Bool.false_ne_true
    refine ⟨_, _, PySem.F.plainAttrs_tuple, PySem.F.slot_tuple_index, type_tuple_index, (dv_ty I hs dv r).2 hr, fun s2 H2 xs us Q I2 rv q => ?_⟩
    obtain ⟨α2, S2, d2, ds, hs2, dv2, dvs, hk2, ek2, q⟩ := q
    cases dvs with
    | nil => cases d2 <;> exact False.elim q
    | cons h1 h2 =>
      cases h2 with
      | cons _ _ => cases d2 <;> exact False.elim q
      | nil =>
        obtain ⟨pd, qd, dl, j, k0, k1, k2, k3, k4, k5, k6, q9⟩ := fin hs2 dv2 h1 q
        obtain ⟨ys, rfl⟩ : ∃ ys, d2 = .tup ys := by cases d2 <;> first | exact ⟨_, rfl⟩ | exact absurd hk2 Bool.false_ne_true | exact absurd ek2 Bool.false_ne_true | exact absurd ek2.symm Bool.false_ne_true
        obtain ⟨p, vs, rfl, _, _⟩ := dv2.tup_inv
        rcases k3 with rfl | ⟨rfl, _⟩
        · exfalso
          have k0 : (ys.mapM (flat S2 39)).map PyData.tuple = some (.list dl) := k0
          obtain ⟨_, _, e⟩ := map_some_inv k0
          cases e
        · exact mt_indexT hu pins s2 σ H2 _ _ v us Q I2 r rv ⟨p, _, pd, dl, j, rfl, rfl, k2, k1, k5, k4, k6, q9⟩
end
end Mi

set_option maxRecDepth 100000
namespace Mi
open PySem PySem.Spec PyProof.Rows L2
/-- an iterator of the layer walks what the small language's does, while P stands -/
structure Wk (K : PySem.W.Frag) (J : RI) (Jt : L2.It) (P : Hp → List Addr → Prop) : Prop where
  mono : ∀ H H' α α' S, P H α → SR K H α S → Ag H H' α α' → P H' α'
  stop : ∀ H α S i, SR K H α S → P H α → J.nxt S i = some none → Jt.stop i H
  go : ∀ H α S i y, SR K H α S → P H α → J.nxt S i = some (some y) → Jt.go i H ∧ ∀ x H', Jt.yld i H x H' → Ag H H' α α ∧ SR K H' α S ∧ YV K H' α y x
def tI (K : PySem.W.Frag) (XT : XTy) (E : XK) (f : Sl → Sto → R RI) : TI := fun σ H R => ∃ α S ε, SR K H α S ∧ SL K H α ε σ ∧ out K XT E H α (f ε S) fun J _ H' α' => ∀ Jt P, Wk K J Jt P → P H' α' → R Jt H'
theorem PI.weak {X : Cx} {tg e : Expr} {t u : TI} (h : PI X tg e t) (w : ∀ σ H Q, u σ H Q → t σ H Q) : PI X tg e u := ⟨fun p s σ H Q I q => h.run p s σ H Q I (w σ H Q q)⟩
theorem getm {α β : Type} {f : α → β} {xs : List α} {i : Nat} {y : Option β} (h : some (xs[i]?.map f) = some y) : y = xs[i]?.map f := (Option.some.inj h).symm
theorem at_len {xs : List V} {ds : List D} {K : PySem.W.Frag} {H : Hp} {α : List Addr} {i : Nat} (h : DVs K H α ds xs) (e : ds[i]? = none) : xs.length ≤ i := by
  rw [← h.length]
  exact List.getElem?_eq_none_iff.mp e
section
variable {K : PySem.W.Frag} {H : Hp} {α : List Addr} {S : Sto}
theorem wk_tup {a : Addr} {xs : List D} {vs : List V} : Wk K (.tup xs) (Itt K a) (fun H α => TupR K H a vs ∧ DVs K H α xs vs) where
  mono := fun H H' α α' S p s g => ⟨s.tupR g p.1, p.2.mono s g⟩
  stop := fun H α S i s p h => by
    have h : some (xs[i]?.map Y.one) = some none := h
    have e : xs[i]? = none := by
      cases q : xs[i]? with
      | none => rfl
      | some x => rw [q] at h; cases h
    exact ⟨vs, p.1.sq, at_len p.2 e⟩
  go := fun H α S i y s p h => by
    have h : some (xs[i]?.map Y.one) = some (some y) := h
    cases q : xs[i]? with
    | none => rw [q] at h; cases h
    | some x =>
      rw [q] at h
      cases h
      obtain ⟨v, hv, dv⟩ := p.2.get q
      refine ⟨⟨vs, v, p.1.sq, hv⟩, fun x' H' yl => ?_⟩
      obtain ⟨e, yl⟩ := yl
      subst e
      have e2 := yl vs p.1.sq
      rw [hv] at e2; cases e2
      exact ⟨Ag.refl, s, .one dv⟩
theorem wk_lst {a : Addr} {r : Nat} : Wk K (.lst r) (Itl K a) (fun _ α => α[r]? = some a) where
  mono := fun H H' α α' S p s g => g.get p
  stop := fun H α S i s p h => by
    have h : (lsts S (.ref r)).map (fun xs => xs[i]?.map Y.one) = some none := h
    obtain ⟨xs, e1, e2⟩ := map_some_inv h
    obtain ⟨b, vs, hb, h1, h2⟩ := s.lsts e1
    rw [p] at hb; cases hb
    have e : xs[i]? = none := by
      cases q : xs[i]? with
      | none => rfl
      | some x => rw [q] at e2; cases e2
    exact ⟨vs, h1, at_len h2 e⟩
  go := fun H α S i y s p h => by
    have h : (lsts S (.ref r)).map (fun xs => xs[i]?.map Y.one) = some (some y) := h
    obtain ⟨xs, e1, e2⟩ := map_some_inv h
    obtain ⟨b, vs, hb, h1, h2⟩ := s.lsts e1
    rw [p] at hb; cases hb
    cases q : xs[i]? with
    | none => rw [q] at e2; cases e2
    | some x =>
      rw [q] at e2
      cases e2
      obtain ⟨v, hv, dv⟩ := h2.get q
      refine ⟨⟨vs, v, h1, hv⟩, fun x' H' yl => ?_⟩
      obtain ⟨e, yl⟩ := yl
      subst e
      have e3 := yl vs h1
      rw [hv] at e3; cases e3
      exact ⟨Ag.refl, s, .one dv⟩
theorem wk_pair {H H' : Hp} {T : Addr} {x : V} {d : D} {i : Nat} (s : SR K H α S) (hT : H T = none) (e : H' = upd H T (.tup [.int (i : Nat), x])) (dv : DV K H α d x) :
    Ag H H' α α ∧ SR K H' α S ∧ YV K H' α (.pr (.int (i : Nat)) d) (.ref T) := by
  subst e
  exact ⟨s.newAg hT, s.new hT, .pr (.inl (.inl upd_same)) (.int _) (dv.mono s (s.newAg hT))⟩
theorem wk_etup {a : Addr} {xs : List D} {vs : List V} : Wk K (.etup xs) (Itet K a) (fun H α => TupR K H a vs ∧ DVs K H α xs vs) where
  mono := fun H H' α α' S p s g => ⟨s.tupR g p.1, p.2.mono s g⟩
  stop := fun H α S i s p h => by
    have h : some (xs[i]?.map fun x => Y.pr (.int (i : Nat)) x) = some none := h
    have e : xs[i]? = none := by
      cases q : xs[i]? with
      | none => rfl
      | some x => rw [q] at h; cases h
    exact ⟨vs, p.1.sq, at_len p.2 e⟩
  go := fun H α S i y s p h => by
    have h : some (xs[i]?.map fun x => Y.pr (.int (i : Nat)) x) = some (some y) := h
    cases q : xs[i]? with
    | none => rw [q] at h; cases h
    | some x =>
      rw [q] at h
      cases h
      obtain ⟨v, hv, dv⟩ := p.2.get q
      refine ⟨⟨vs, v, p.1.sq, hv⟩, fun x' H' yl => ?_⟩
      obtain ⟨T, w, e1, hT, e2, yl⟩ := yl
      have e3 := yl vs p.1.sq
      rw [hv] at e3; cases e3
      rw [e1]
      exact wk_pair s hT e2 dv
theorem wk_elst {a : Addr} {r : Nat} : Wk K (.elst r) (Ite K a) (fun _ α => α[r]? = some a) where
  mono := fun H H' α α' S p s g => g.get p
  stop := fun H α S i s p h => by
    have h : (lsts S (.ref r)).map (fun xs => xs[i]?.map fun x => Y.pr (.int (i : Nat)) x) = some none := h
    obtain ⟨xs, e1, e2⟩ := map_some_inv h
    obtain ⟨b, vs, hb, h1, h2⟩ := s.lsts e1
    rw [p] at hb; cases hb
    have e : xs[i]? = none := by
      cases q : xs[i]? with
      | none => rfl
      | some x => rw [q] at e2; cases e2
    exact ⟨vs, h1, at_len h2 e⟩
  go := fun H α S i y s p h => by
    have h : (lsts S (.ref r)).map (fun xs => xs[i]?.map fun x => Y.pr (.int (i : Nat)) x) = some (some y) := h
    obtain ⟨xs, e1, e2⟩ := map_some_inv h
    obtain ⟨b, vs, hb, h1, h2⟩ := s.lsts e1
    rw [p] at hb; cases hb
    cases q : xs[i]? with
    | none => rw [q] at e2; cases e2
    | some x =>
      rw [q] at e2
      cases e2
      obtain ⟨v, hv, dv⟩ := h2.get q
      refine ⟨⟨vs, v, h1, hv⟩, fun x' H' yl => ?_⟩
      obtain ⟨T, w, e3, hT, e4, yl⟩ := yl
      have e5 := yl vs h1
      rw [hv] at e5; cases e5
      rw [e3]
      exact wk_pair s hT e4 dv
theorem wk_rng {lo c : Int} {n : Nat} : Wk K (.rng lo c n) (Itc lo c n) (fun _ _ => True) where
  mono := fun _ _ _ _ _ _ _ _ => trivial
  stop := fun H α S i s p h => by
    have h : some (if i < n then some (Y.one (.int (lo + (i : Nat) * c))) else none) = some none := h
    show n ≤ i
    by_cases q : i < n
    · rw [if_pos q] at h; cases h
    · omega
  go := fun H α S i y s p h => by
    have h : some (if i < n then some (Y.one (.int (lo + (i : Nat) * c))) else none) = some (some y) := h
    by_cases q : i < n
    · rw [if_pos q] at h
      cases h
      refine ⟨q, fun x' H' yl => ?_⟩
      obtain ⟨e1, e2⟩ := yl
      subst e1 e2
      exact ⟨Ag.refl, s, .one (.int _)⟩
    · rw [if_neg q] at h; cases h
theorem wk_rng1 {lo : Int} {n : Nat} : Wk K (.rng lo 1 n) (Itr lo n) (fun _ _ => True) where
  mono := fun _ _ _ _ _ _ _ _ => trivial
  stop := fun H α S i s p h => by
    have h : some (if i < n then some (Y.one (.int (lo + (i : Nat) * 1))) else none) = some none := h
    show n ≤ i
    by_cases q : i < n
    · rw [if_pos q] at h; cases h
    · omega
  go := fun H α S i y s p h => by
    have h : some (if i < n then some (Y.one (.int (lo + (i : Nat) * 1))) else none) = some (some y) := h
    by_cases q : i < n
    · rw [if_pos q] at h
      cases h
      refine ⟨q, fun x' H' yl => ?_⟩
      obtain ⟨e1, e2⟩ := yl
      subst e1 e2
      rw [Int.mul_one]
      exact ⟨Ag.refl, s, .one (.int _)⟩
    · rw [if_neg q] at h; cases h
end
section
variable {X : Cx} {XT : XTy} {E : XK} {a b c e o tg : Expr} {es : List Expr} {pos : Pos}
/-- a list or a tuple, by the value -/
def iSeq (K : PySem.W.Frag) (tl : TE) : TI := fun σ H R => tl σ H fun x H1 => ∃ p, x = .ref p ∧ ((∃ xs, SqL K H1 p xs) ∧ R (Itl K p) H1 ∨ (∃ xs, SqT K H1 p xs) ∧ R (Itt K p) H1)
theorem fi_seq {tl : TE} (hl : PE X e tl) : PI X tg e (iSeq X.K tl) := by
  refine ⟨fun pins s σ H R I h => thn (hl.run pins s σ H _ I h) fun v s1 ⟨x, H1, I1, r1, p, ex, q⟩ => ?_⟩
  subst ex
  cases r1
  have new : ∀ {o : Obj}, o.isFreed = false → ∀ b ∈ [s1.heap.objs.size], FpOk X pins H1 b := fun {o} _ b hb => by
    rw [List.mem_singleton.mp hb]
    exact I1.fpOk (Nat.le_refl _) (I1.hok.fresh (Nat.le_refl _))
  rcases q with ⟨⟨xs, hq⟩, q⟩ | ⟨⟨xs, hq⟩, q⟩
  · obtain ⟨its, rv, pl, hz⟩ := I1.list hq
    refine wpAny_pyIter_list pl.isList ⟨s1.heap.objs.size, [s1.heap.objs.size], _, _, H1, rfl, I1.kept (t' := s1.toks) fun b ob k => Heap.get?_push_of_some _ k, turn_list p _,
      ⟨_, Heap.get?_push_size _ rfl, rfl, rfl⟩, new (o := {cls := .none, data := .fields #[]}) rfl, q⟩
  · obtain ⟨its, rv, pl, hz⟩ := I1.tuple hq
    refine wpAny_pyIter_tuple (show s1.heap.IsTuple p its.toArray from pl) ⟨s1.heap.objs.size, [s1.heap.objs.size], _, _, H1, rfl, I1.kept (t' := s1.toks) fun b ob k => Heap.get?_push_of_some _ k, turn_tuple p _,
      ⟨_, Heap.get?_push_size _ rfl, rfl, rfl⟩, new (o := {cls := .none, data := .fields #[]}) rfl, q⟩
theorem i_seq {f : Sl → Sto → R D} (ha : PE X e (tD X.K XT E f)) : PI X tg e (tI X.K XT E fun ε S => (f ε S).bind fun x S1 => match x with
    | .tup xs => .ok (.tup xs) S1
    | .ref r => if (lsts S1 (.ref r)).isSome then .ok (.lst r) S1 else .bad
    | _ => .bad) := PI.weak (fi_seq ha) fun σ H Q ⟨α, S, ε, hs, hl, q⟩ => ⟨α, S, ε, hs, hl, q.bind.imp fun x S1 H1 α1 g1 s1 q1 v dv => by
  cases x with
  | tup xs =>
    obtain ⟨p, vs, rfl, h1, h2⟩ := dv.tup_inv
    exact ⟨p, rfl, .inr ⟨⟨vs, h1.sq⟩, out.here (β := RI) (b := _) q1 s1 _ _ wk_tup ⟨h1, h2⟩⟩⟩
  | ref r =>
    obtain ⟨p, rfl, hp⟩ := dv.ref_inv
    cases e1 : lsts S1 (.ref r) with
    | none => simp only [e1] at q1; exact False.elim q1
    | some xs =>
      simp only [e1] at q1
      obtain ⟨p', vs, hp', h1, _⟩ := s1.lsts e1
      rw [hp] at hp'; cases hp'
      exact ⟨p, rfl, .inl ⟨⟨vs, h1⟩, out.here (β := RI) (b := _) q1 s1 _ _ wk_lst hp⟩⟩
  | _ => exact False.elim q1⟩
/-- enumerate of a list or a tuple -/
def iEn (K : PySem.W.Frag) (ta : TA) : TI := fun σ H R => ta σ H fun vs H1 => ∃ p, vs = [.ref p] ∧ ((∃ xs, SqL K H1 p xs) ∧ R (Ite K p) H1 ∨ (∃ xs, SqT K H1 p xs) ∧ R (Itet K p) H1)
theorem fi_enum {ta : TA} {p tpos : Pos} {elts : List Expr} {kk : Nat} (hg : Gl X "enumerate") (hm : X.mg "enumerate" = none) (ha : PA X [e] ta) (hs : starEach [e] X.env = [(false, eval e X.env)]) :
    PI X (.Tuple elts kk tpos) (.Call (.Name "enumerate" p) [e] [] pos) (iEn X.K ta) := by
  refine ⟨fun pins s σ H R I h => Call_ (ld_blt I hg hm boot_enumerate (PyProof.Rows.callWith_type1 (thn (ha.run pos pins s σ H _ I h) fun us s1 ⟨vs, H1, I1, r1, p, ex, q⟩ => ?_) hs rfl))⟩
  subst ex
  obtain ⟨u, rfl, ru⟩ := vals1 r1
  cases ru
  have new : ∀ b ∈ [s1.heap.objs.size + 1, s1.heap.objs.size], FpOk X pins H1 b := fun b hb => by
    have hle : s1.heap.objs.size ≤ b := by
      rcases List.mem_cons.mp hb with z | z
      · rw [z]; exact Nat.le_add_right _ _
      · rw [List.mem_singleton.mp z]; exact Nat.le_refl _
    exact I1.fpOk hle (I1.hok.fresh hle)
  rcases q with ⟨⟨xs, hq⟩, q⟩ | ⟨⟨xs, hq⟩, q⟩
  · obtain ⟨its, rv, pl, hz⟩ := I1.list hq
    refine call_enumerate_list pl.isList fun h' he hit hsz hk => wpAny_pyIter_enum he ?_
    have I2 : Inv X pins σ H1 { s1 with heap := h' } := I1.kept (t' := s1.toks) hk
    exact ⟨s1.heap.objs.size + 1, [s1.heap.objs.size + 1, s1.heap.objs.size], _, _, H1, rfl, I2, turn_enum p (s1.heap.objs.size + 1) s1.heap.objs.size, ⟨⟨.none, he⟩, hit, Nat.succ_ne_self _⟩, new, q⟩
  · obtain ⟨its, rv, pl, hz⟩ := I1.tuple hq
    have hpl : p < s1.heap.objs.size := by obtain ⟨o, ho, _⟩ := pl; exact Heap.lt_size ho
    refine call_enumT (show s1.heap.IsTuple p its.toArray from pl) fun h' he hit hk => wpAny_pyIter_enum he ?_
    have I2 : Inv X pins σ H1 { s1 with heap := h' } := I1.kept (t' := s1.toks) hk
    exact ⟨s1.heap.objs.size + 1, [s1.heap.objs.size + 1, s1.heap.objs.size], _, _, H1, rfl, I2, turn_enumT p (s1.heap.objs.size + 1) s1.heap.objs.size (Nat.ne_of_lt hpl), ⟨⟨.none, he⟩, hit, Nat.succ_ne_self _⟩, new, q⟩
theorem i_enum {p tpos : Pos} {elts : List Expr} {kk : Nat} {f : Sl → Sto → R D} (hg : Gl X "enumerate") (hm : X.mg "enumerate" = none) (ha : PE X e (tD X.K XT E f)) (hn : nice e = true) :
    PI X (.Tuple elts kk tpos) (.Call (.Name "enumerate" p) [e] [] pos) (tI X.K XT E fun ε S => (f ε S).bind fun x S1 => match x with
    | .tup xs => .ok (.etup xs) S1
    | .ref r => if (lsts S1 (.ref r)).isSome then .ok (.elst r) S1 else .bad
    | _ => .bad) := PI.weak (fi_enum hg hm (PA.weak (pa_cons ha pa_nil (nice_star hn [] X.env)) fun _ _ _ h => h) (nice_star hn [] X.env)) fun σ H Q ⟨α, S, ε, hs, hl, q⟩ => ⟨α, S, ε, hs, hl, q.bind.imp fun x S1 H1 α1 g1 s1 q1 v dv => by
  cases x with
  | tup xs =>
    obtain ⟨p, vs, rfl, h1, h2⟩ := dv.tup_inv
    exact ⟨p, rfl, .inr ⟨⟨vs, h1.sq⟩, out.here (β := RI) (b := _) q1 s1 _ _ wk_etup ⟨h1, h2⟩⟩⟩
  | ref r =>
    obtain ⟨p, rfl, hp⟩ := dv.ref_inv
    cases e1 : lsts S1 (.ref r) with
    | none => simp only [e1] at q1; exact False.elim q1
    | some xs =>
      simp only [e1] at q1
      obtain ⟨p', vs, hp', h1, _⟩ := s1.lsts e1
      rw [hp] at hp'; cases hp'
      exact ⟨p, rfl, .inl ⟨⟨vs, h1⟩, out.here (β := RI) (b := _) q1 s1 _ _ wk_elst hp⟩⟩
  | _ => exact False.elim q1⟩
theorem rangeSize_nn (i j k : Int) : 0 ≤ Builtin.Range.rangeSize i j k := by
  unfold Builtin.Range.rangeSize
  split
  · split
    · have := Int.ediv_nonneg (a := j - i - 1) (b := k) (by omega) (by omega)
      omega
    · omega
  · split
    · have := Int.ediv_nonneg (a := i - j - 1) (b := -k) (by omega) (by omega)
      omega
    · omega
theorem small_of {i : Int} (h : small62 i = true) : -(2 ^ 62) ≤ i ∧ i < 2 ^ 62 := of_decide_eq_true h
theorem rng_use {K : PySem.W.Frag} {H : Hp} {α : List Addr} {S : Sto} {ds : List D} {J : RI} {k : RI → Sto → Hp → List Addr → Prop} (h : out K XT E H α (R.of S (rngD ds)) k) (s : SR K H α S) : ∃ J, rngD ds = some J ∧ k J S H α := out.of h s
theorem i_rng1 {p : Pos} {g : Sl → Sto → R (List D)} (hg : Gl X "range") (hm : X.mg "range" = none) (ha : PA X [a] (tA X.K XT E g)) (hn : nice a = true) (hz : ∀ ε S xs S', g ε S = .ok xs S' → xs.length = 1) :
    PI X tg (.Call (.Name "range" p) [a] [] pos) (tI X.K XT E fun ε S => (g ε S).bind fun xs S1 => R.of S1 (rngD xs)) :=
  PI.weak (pi_range1 hg hm ha (nice_star hn [] X.env)) fun σ H Q ⟨α, S, ε, hs, hl, q⟩ => ⟨α, S, ε, hs, hl, q.bind.impE fun xs S1 H1 α1 he g1 s1 q1 vs dvs => by
    have hx := hz ε S xs S1 he
    obtain ⟨J, e, q1⟩ := out.of q1 s1
    cases dvs with
    | nil => exact absurd hx (by decide)
    | cons d1 d2 =>
      cases d2 with
      | cons _ _ => simp at hx
      | nil =>
        cases d1 with
        | int j =>
          have e : (if small62 j then some (RI.rng 0 1 j.toNat) else none) = some J := e
          by_cases h : small62 j = true
          · rw [if_pos h] at e
            cases e
            have h' := small_of h
            exact ⟨j, rfl, h'.1, h'.2, q1 _ _ wk_rng1 trivial⟩
          · rw [if_neg h] at e; cases e
        | _ => cases e⟩
theorem i_rng2 {p : Pos} {g : Sl → Sto → R (List D)} (hg : Gl X "range") (hm : X.mg "range" = none) (ha : PA X [a, b] (tA X.K XT E g)) (hn : nice a = true) (hn2 : nice b = true) (hz : ∀ ε S xs S', g ε S = .ok xs S' → xs.length = 2) :
    PI X tg (.Call (.Name "range" p) [a, b] [] pos) (tI X.K XT E fun ε S => (g ε S).bind fun xs S1 => R.of S1 (rngD xs)) :=
  PI.weak (pi_range2 hg hm ha (by rw [nice_star hn, nice_star hn2]; rfl) (nice_star hn2 [] X.env)) fun σ H Q ⟨α, S, ε, hs, hl, q⟩ => ⟨α, S, ε, hs, hl, q.bind.impE fun xs S1 H1 α1 he g1 s1 q1 vs dvs => by
    have hx := hz ε S xs S1 he
    obtain ⟨J, e, q1⟩ := out.of q1 s1
    cases dvs with
    | nil => exact absurd hx (by decide)
    | cons d1 d2 =>
      cases d2 with
      | nil => exact absurd hx (by simp)
      | cons d2 d3 =>
        cases d3 with
        | cons _ _ => simp at hx
        | nil =>
          cases d1 with
          | int i =>
            cases d2 with
            | int j =>
              have e : (if small62 i && small62 j then some (RI.rng i 1 (j - i).toNat) else none) = some J := e
              by_cases h : (small62 i && small62 j) = true
              · rw [if_pos h] at e
                cases e
                rw [Bool.and_eq_true] at h
                have h1 := small_of h.1
                have h2 := small_of h.2
                exact ⟨i, j, rfl, ⟨h1.1, h1.2, h2.1, h2.2⟩, q1 _ _ wk_rng1 trivial⟩
              · rw [if_neg h] at e; cases e
            | _ => cases e
          | _ => cases d2 <;> cases e⟩
theorem i_rng3 {p : Pos} {g : Sl → Sto → R (List D)} (hg : Gl X "range") (hm : X.mg "range" = none) (ha : PA X [a, b, c] (tA X.K XT E g)) (hn : nice a = true) (hn2 : nice b = true) (hn3 : nice c = true) (hz : ∀ ε S xs S', g ε S = .ok xs S' → xs.length = 3) :
    PI X tg (.Call (.Name "range" p) [a, b, c] [] pos) (tI X.K XT E fun ε S => (g ε S).bind fun xs S1 => R.of S1 (rngD xs)) :=
  PI.weak (pi_range3 hg hm ha (nice_star hn _ _) (nice_plain (es := [b, c]) (by rw [List.all_cons, List.all_cons, hn2, hn3]; rfl) pos X.env)) fun σ H Q ⟨α, S, ε, hs, hl, q⟩ => ⟨α, S, ε, hs, hl, q.bind.impE fun xs S1 H1 α1 he g1 s1 q1 vs dvs => by
    have hx := hz ε S xs S1 he
    obtain ⟨J, e, q1⟩ := out.of q1 s1
    cases dvs with
    | nil => exact absurd hx (by decide)
    | cons d1 d2 =>
      cases d2 with
      | nil => exact absurd hx (by simp)
      | cons d2 d3 =>
        cases d3 with
        | nil => exact absurd hx (by simp)
        | cons d3 d4 =>
          cases d4 with
          | cons _ _ => simp at hx
          | nil =>
            cases d1 with
            | int i =>
              cases d2 with
              | int j =>
                cases d3 with
                | int k =>
                  have e : (if k ≠ 0 ∧ k.natAbs < 1073741824 ∧ Builtin.Range.small i j k = true then some (RI.rng i k (Builtin.Range.rangeSize i j k).toNat) else none) = some J := e
                  by_cases h : k ≠ 0 ∧ k.natAbs < 1073741824 ∧ Builtin.Range.small i j k = true
                  · rw [if_pos h] at e
                    cases e
                    refine ⟨i, j, k, _, rfl, ⟨h.1, h.2.1, h.2.2, ?_⟩, q1 _ _ wk_rng trivial⟩
                    exact (Int.toNat_of_nonneg (rangeSize_nn i j k)).symm
                  · rw [if_neg h] at e; cases e
                | _ => cases e
              | _ => cases d3 <;> cases e
            | _ => cases d2 <;> cases d3 <;> cases e⟩
end
end Mi

set_option maxRecDepth 100000
namespace Mi
open PySem PySem.Spec PyProof.Rows L2
theorem wipe_at (σ : L2.St) : ∀ (vs : List Nat) (j : Nat), (L2.wipe σ vs)[j]? = if j ∈ vs then (if j < σ.length then some none else none) else σ[j]?
  | [], j => by simp [L2.wipe]
  | v :: vs, j => by
    show ((L2.wipe σ vs).set v none)[j]? = _
    by_cases h : v = j
    · subst h
      rw [if_pos List.mem_cons_self]
      by_cases hl : v < σ.length
      · rw [List.getElem?_set_self (by rw [wipe_length]; exact hl), if_pos hl]
      · rw [List.getElem?_eq_none (by rw [List.length_set, wipe_length]; omega), if_neg hl]
    · rw [List.getElem?_set_ne h, wipe_at σ vs j]
      by_cases hm : j ∈ vs
      · rw [if_pos hm, if_pos (List.mem_cons_of_mem _ hm)]
      · rw [if_neg hm, if_neg (fun z => (List.mem_cons.mp z).elim (fun e => h e.symm) hm)]
theorem AgS.wipe {ts vs : List Nat} {σ σ2 : L2.St} (h : AgS ts (L2.wipe σ vs) σ2) (k : ∀ t ∈ ts, t ∈ vs) : L2.wipe σ2 vs = L2.wipe σ vs := by
  have hl : σ2.length = σ.length := by rw [h.1, wipe_length]
  refine List.ext_getElem? fun j => ?_
  rw [wipe_at, wipe_at, hl]
  by_cases hm : j ∈ vs
  · rw [if_pos hm, if_pos hm]
  · rw [if_neg hm, if_neg hm, h.2 j fun z => hm (k j z), wipe_at, if_neg hm]
section
variable {K : PySem.W.Frag} {XT : XTy} {E E' : XK} {H : Hp} {α : List Addr} {β γ : Type}
theorem out_unex {r : R β} {f : β → Sto → R γ} {k : γ → Sto → Hp → List Addr → Prop} (h : out K XT E H α (unex (r.bind f)) k) : out K XT E' H α r fun b S1 H1 α1 => out K XT E H1 α1 (unex (f b S1)) k := by
  cases r with
  | ok b S' => exact fun H' α' g s => out.mono (r := unex (f b S')) h s g
  | ex c as S' => exact False.elim h
  | bad => exact False.elim h
end
/-- a comprehension's reading -/
theorem lc_of {K : PySem.W.Frag} {XT : XTy} {E : XK} {wi : Sl → Sto → R RI} {ts : List Nat} {tg : Y → Sl → Sto → R Sl} {c : Sl → Sto → R Bool} {e : Sl → Sto → R D} {own : List Nat} {F : Nat} {σ : L2.St} {H : Hp} {Q : VK} (hts : ∀ t ∈ ts, t ∈ own)
    (h : tD K XT E (fun ε S => (wi ε S).bind fun J S1 => unex (lcL tg c e J (wipeD ε own) S1.length F 0 (S1 ++ [.lst []]))) σ H Q) :
    tLc (tI K XT E wi) (tY K XT (fun _ _ _ => False) ts tg) (tT K XT (fun _ _ _ => False) c) (tD K XT (fun _ _ _ => False) e) own σ H Q := by
  obtain ⟨α, S, ε, hs, hl, q⟩ := h
  refine ⟨α, S, ε, hs, hl, q.bind.imp fun J S1 H1 α1 g1 s1 q1 Jt P wk hP Da hD => ?_⟩
  have hl1 := hl.mono hs g1
  have g2 : Ag H1 (upd H1 Da (.lst [])) α1 (α1 ++ [Da]) := s1.newAg' hD
  have s2 : SR K (upd H1 Da (.lst [])) (α1 ++ [Da]) (S1 ++ [.lst []]) := s1.newL hD .nil
  refine ⟨fun i m H => ∃ α S, SR K H α S ∧ SL K H α ε σ ∧ P H α ∧ α[S1.length]? = some Da ∧ out K XT E H α (unex (lcL tg c e J (wipeD ε own) S1.length m i S)) fun d _ H' α' => ∀ v, DV K H' α' d v → Q v H',
    ⟨F, α1 ++ [Da], S1 ++ [.lst []], s2, hl1.mono s1 g2, wk.mono _ _ _ _ _ hP s1 g2, s1.newLref, out.mono q1 s2 g2⟩, ?_⟩
  rintro i m H2 ⟨α2, S2, t2, l2, p2, d2, q2⟩
  cases m with
  | zero => exact False.elim q2
  | succ f =>
    unfold lcL at q2
    cases e1 : J.nxt S2 i with
    | none => rw [e1] at q2; exact False.elim q2
    | some o =>
      cases o with
      | none =>
        rw [e1] at q2
        exact .inl ⟨wk.stop H2 α2 S2 i t2 p2 e1, out.here (b := D.ref S1.length) q2 t2 _ (.ref d2)⟩
      | some y =>
        simp only [e1] at q2
        obtain ⟨go, yl⟩ := wk.go H2 α2 S2 i y t2 p2 e1
        refine .inr ⟨go, _, fun H' w => ⟨f, Nat.lt_succ_self f, w⟩, fun x H3 hy => ?_⟩
        obtain ⟨g3, s3, yv⟩ := yl x H3 hy
        have l3 := l2.mono t2 g3
        have p3 := wk.mono _ _ _ _ _ p2 t2 g3
        have q3 := out.mono q2 s3 g3
        refine ⟨α2, S2, wipeD ε own, y, s3, l3.wipe own, yv, (out_unex q3).imp fun ε4 S4 H4 α4 g4 s4 q4 σ4 l4 a4 => ⟨a4.wipe hts, ?_⟩⟩
        have l4' := l3.mono s3 g4
        have p4 := wk.mono _ _ _ _ _ p3 s3 g4
        refine ⟨α4, S4, ε4, s4, l4, (out_unex q4).imp fun b S5 H5 α5 g5 s5 q5 => ?_⟩
        have l5 := l4.mono s4 g5
        have l5' := l4'.mono s4 g5
        have p5 := wk.mono _ _ _ _ _ p4 s4 g5
        cases b with
        | false =>
          refine iteF ⟨α5, S5, s5, l5', p5, g5.get (g4.get d2), q5⟩
        | true =>
          refine iteT ⟨α5, S5, ε4, s5, l5, (out_unex q5).imp fun d S6 H6 α6 g6 s6 q6 v dv => ?_⟩
          have d6 : α6[S1.length]? = some Da := g6.get (g5.get (g4.get d2))
          cases e2 : S6[S1.length]? with
          | none => simp only [e2] at q6; exact False.elim q6
          | some mo =>
            cases mo with
            | ro _ => simp only [e2] at q6; exact False.elim q6
            | lst xs =>
              simp only [e2] at q6
              obtain ⟨a', vs, ha', k1, k2⟩ := s6.lst e2
              rw [d6] at ha'; cases ha'
              by_cases hz : xs.length < lim
              · simp only [if_pos hz] at q6
                have g7 : Ag H6 (upd H6 Da (.lst (vs ++ [v]))) α6 α6 := s6.setAg d6
                have s7 : SR K (upd H6 Da (.lst (vs ++ [v]))) α6 (S6.set S1.length (.lst (xs ++ [d]))) := s6.setL d6 (k2.append (.cons dv .nil))
                exact ⟨vs, k1, by rw [← k2.length]; exact lim_lt hz, α6, _, s7, (l5'.mono s5 g6).mono s6 g7, wk.mono _ _ _ _ _ (wk.mono _ _ _ _ _ p5 s5 g6) s6 g7, d6, out.mono q6 s7 g7⟩
              · simp only [if_neg hz] at q6; exact False.elim q6
section
variable {X : Cx} {XT : XTy} {E : XK} {a b c e o tg : Expr} {es : List Expr} {pos : Pos} {st : Stmt} {rest : List Stmt}
/-! ### statements -/
theorem kS_nx {K : PySem.W.Frag} {D' : Ends} {ε : Sl} {S : Sto} {H : Hp} {α : List Addr} {σ : L2.St} (h : kS K D' (.nx, ε) S H α) (l : SL K H α ε σ) : D'.nx σ H := h σ l
theorem s_nil : PSs X [] (tS X.K XT E fun ε S => .ok (.nx, ε) S) := PSs.weak pss_nil fun D' σ H ⟨α, S, ε, hs, hl, q⟩ => out.here (XT := XT) (E := E) (β := Ct × Sl) (b := (.nx, ε)) q hs σ hl
theorem s_pass : PS X (.Pass pos) (tS X.K XT E fun ε S => .ok (.nx, ε) S) := PS.weak ps_pass fun D' σ H ⟨α, S, ε, hs, hl, q⟩ => out.here (XT := XT) (E := E) (β := Ct × Sl) (b := (.nx, ε)) q hs σ hl
theorem s_brk : PS X (.Break pos) (tS X.K XT E fun ε S => .ok (.bk, ε) S) := PS.weak ps_break fun D' σ H ⟨α, S, ε, hs, hl, q⟩ => out.here (XT := XT) (E := E) (β := Ct × Sl) (b := (.bk, ε)) q hs σ hl
theorem s_cont : PS X (.Continue pos) (tS X.K XT E fun ε S => .ok (.ct, ε) S) := PS.weak ps_continue fun D' σ H ⟨α, S, ε, hs, hl, q⟩ => out.here (XT := XT) (E := E) (β := Ct × Sl) (b := (.ct, ε)) q hs σ hl
theorem s_cons {f g : Sl → Sto → RC} (h1 : PS X st (tS X.K XT E f)) (h2 : PSs X rest (tS X.K XT E g)) :
    PSs X (st :: rest) (tS X.K XT E fun ε S => (f ε S).bind fun r S1 => match r with | (.nx, ε1) => g ε1 S1 | r => .ok r S1) :=
  PSs.weak (pss_cons h1 h2) fun D' σ H ⟨α, S, ε, hs, hl, q⟩ => ⟨α, S, ε, hs, hl, q.bind.imp fun r S1 H1 α1 g1 s1 q1 => by
    obtain ⟨ct, ε1⟩ := r
    cases ct with
    | nx => exact fun σ1 l1 => ⟨α1, S1, ε1, s1, l1, q1⟩
    | rt d => exact out.here (XT := XT) (E := E) (β := Ct × Sl) (b := (.rt d, ε1)) q1 s1
    | bk => exact out.here (XT := XT) (E := E) (β := Ct × Sl) (b := (.bk, ε1)) q1 s1
    | ct => exact out.here (XT := XT) (E := E) (β := Ct × Sl) (b := (.ct, ε1)) q1 s1⟩
theorem s_ret {f : Sl → Sto → R D} (h : PE X e (tD X.K XT E f)) : PS X (.Return (some e) pos) (tS X.K XT E fun ε S => (f ε S).bind fun d S1 => .ok (.rt d, ε) S1) :=
  PS.weak (ps_ret h) fun D' σ H ⟨α, S, ε, hs, hl, q⟩ => ⟨α, S, ε, hs, hl, q.bind.imp fun d S1 H1 α1 g1 s1 q1 v dv => out.here (XT := XT) (E := E) (β := Ct × Sl) (b := (.rt d, ε)) q1 s1 v dv⟩
theorem s_retN : PS X (.Return none pos) (tS X.K XT E fun ε S => .ok (.rt .non, ε) S) := PS.weak ps_retN fun D' σ H ⟨α, S, ε, hs, hl, q⟩ => out.here (XT := XT) (E := E) (β := Ct × Sl) (b := (.rt .non, ε)) q hs _ .non
theorem s_expr {f : Sl → Sto → R D} (h : PE X e (tD X.K XT E f)) (hn : nice e = true) (hn2 : nlc e = true) : PS X (.Expr e pos) (tS X.K XT E fun ε S => (f ε S).bind fun _ S1 => .ok (.nx, ε) S1) :=
  PS.weak (ps_expr h (nice_swap hn hn2 _ _ _)) fun D' σ H ⟨α, S, ε, hs, hl, q⟩ => ⟨α, S, ε, hs, hl, q.bind.imp fun d S1 H1 α1 g1 s1 q1 v dv => out.here (XT := XT) (E := E) (β := Ct × Sl) (b := (.nx, ε)) q1 s1 σ (hl.mono hs g1)⟩
theorem s_if {f : Sl → Sto → R Bool} {g h : Sl → Sto → RC} {x y : List Stmt} (hc : PT X c (tT X.K XT E f)) (ha : PSs X x (tS X.K XT E g)) (hb : PSs X y (tS X.K XT E h)) :
    PS X (.If c x y pos) (tS X.K XT E fun ε S => (f ε S).bind fun k S1 => if k then g ε S1 else h ε S1) :=
  PS.weak (ps_if hc ha hb) fun D' σ H ⟨α, S, ε, hs, hl, q⟩ => ⟨α, S, ε, hs, hl, q.bind.imp fun k S1 H1 α1 g1 s1 q1 => by
    cases k with
    | true => exact iteT (⟨α1, S1, ε, s1, hl.mono hs g1, q1⟩ : tS X.K XT E g D' σ H1)
    | false => exact iteF (⟨α1, S1, ε, s1, hl.mono hs g1, q1⟩ : tS X.K XT E h D' σ H1)⟩
theorem tAsg_of {ts : List Nat} {f : Sl → Sto → R D} {g : Y → Sl → Sto → R Sl} {D' : Ends} {σ : L2.St} {H : Hp} (q : tS X.K XT E (fun ε S => (f ε S).bind fun d S1 => (g (.one d) ε S1).bind fun ε1 S2 => .ok (.nx, ε1) S2) D' σ H) :
    tAsg (tD X.K XT E f) (tY X.K XT E ts g) D' σ H := by
  obtain ⟨α, S, ε, hs, hl, q⟩ := q
  exact ⟨α, S, ε, hs, hl, q.bind.imp fun d S1 H1 α1 g1 s1 q1 v dv => ⟨α1, S1, ε, .one d, s1, hl.mono hs g1, .one dv, q1.bind.imp fun ε2 S2 H2 α2 g2 s2 q2 σ2 l2 _ => out.here (XT := XT) (E := E) (β := Ct × Sl) (b := (.nx, ε2)) q2 s2 σ2 l2⟩⟩
def notTT : Expr → Expr → Bool
  | .Tuple .., .Tuple .. => false
  | .Tuple .., _ => true
  | .Name .., _ => true
  | .Subscript .., _ => true
  | _, _ => false
theorem swapN (h : notTT tg e = true) (env : PySem.Env) : swappedStores [tg] e env = pure none := by
  cases tg <;> first | rfl | exact absurd h Bool.false_ne_true | (cases e <;> first | rfl | exact absurd h Bool.false_ne_true)
theorem s_asg {ts : List Nat} {f : Sl → Sto → R D} {g : Y → Sl → Sto → R Sl} (he : PE X e (tD X.K XT E f)) (hg : PG X tg (tY X.K XT E ts g)) (hn : nice e = true) (hn2 : nlc e = true) (ht : nstar tg = true) (hw : swappedStores [tg] e X.env = pure none) :
    PS X (.Assign [tg] e pos) (tS X.K XT E fun ε S => (f ε S).bind fun d S1 => (g (.one d) ε S1).bind fun ε1 S2 => .ok (.nx, ε1) S2) := by
  refine PS.weak (ps_asg he hg ?_ hw (by rw [nstar_ok ht]; rfl)) fun _ _ _ q => tAsg_of q
  exact nice_swap hn hn2 _ _ _
theorem s_set {i : Nat} {x : Str} {p' : Pos} {cl : Nat → List D → Sto → R D} {F : Nat} {f : Sl → Sto → R D} (hN : X.N.Nodup) (hi : X.N[i]? = some x) (hx : Loc X.env.scope x) (hf : X.fn x = true ∨ X.env.scope.names.lookup x = some .local) (he : PE X e (tD X.K XT E f)) (hn : nice e = true) (hn2 : nlc e = true) :
    PS X (.Assign [.Name x p'] e pos) (tS X.K XT E fun ε S => (f ε S).bind fun d S1 => (asg cl F (.name i) (.one d) ε S1).bind fun ε1 S2 => .ok (.nx, ε1) S2) :=
  s_asg he (g_name hN hi hx hf) hn hn2 rfl (swapN rfl _)
theorem s_par {i j : Nat} {x y : Str} {px py pt : Pos} {kt k2 pt2} {f g : Sl → Sto → R D} (hc : X.calm = true) (hN : X.N.Nodup) (hi : X.N[i]? = some x) (hj : X.N[j]? = some y) (hij : i ≠ j)
    (hx : X.env.scope.names.lookup x = some .local) (hy : X.env.scope.names.lookup y = some .local) (ha : PE X a (tD X.K XT E f)) (hb : PE X b (tD X.K XT E g)) (hn : nice a = true) (hn2 : nice b = true)
    (hw : swappedStores [.Tuple [.Name x px, .Name y py] kt pt] (.Tuple [a, b] k2 pt2) X.env = pure (some [x, y])) :
    PS X (.Assign [.Tuple [.Name x px, .Name y py] kt pt] (.Tuple [a, b] k2 pt2) pos) (tS X.K XT E fun ε S => (f ε S).bind fun d S1 => (g ε S1).bind fun d' S2 => .ok (.nx, (ε.set i (some d)).set j (some d')) S2) :=
  PS.weak (ps_par hc hN hi hj hij hx hy (PA.weak (pa_cons ha (pa_cons hb pa_nil (nice_star hn2 [] X.env)) (nice_star hn [b] X.env)) fun _ _ _ h => h) hw) fun D' σ H ⟨α, S, ε, hs, hl, q⟩ =>
    ⟨α, S, ε, hs, hl, q.bind.imp fun d S1 H1 α1 g1 s1 q1 v dv => ⟨α1, S1, ε, s1, hl.mono hs g1, q1.bind.imp fun d' S2 H2 α2 g2 s2 q2 v' dv' =>
      ⟨v, v', rfl, out.here (XT := XT) (E := E) (β := Ct × Sl) (b := (.nx, (ε.set i (some d)).set j (some d'))) q2 s2 _ ((((hl.mono hs g1).mono s1 g2).set i (dv.mono s1 g2)).set j dv')⟩⟩⟩
theorem s_while {f : Sl → Sto → R Bool} {g : Sl → Sto → RC} {body : List Stmt} {F : Nat} (hp : PassesOwn (model X.prog X.w) X.A X.env X.xe) (hc : PT X c (tT X.K XT E f)) (hb : PSs X body (tS X.K XT E g)) :
    PS X (.While c body [] pos) (tS X.K XT E fun ε S => whlL f g F ε S) :=
  PS.weak (ps_while hp hc hb) fun D' σ H ⟨α, S, ε, hs, hl, q⟩ => by
    refine ⟨fun m σ H => tS X.K XT E (fun ε S => whlL f g m ε S) D' σ H, ⟨F, α, S, ε, hs, hl, q⟩, ?_⟩
    rintro m σ H ⟨α, S, ε, hs, hl, q⟩
    cases m with
    | zero => exact False.elim q
    | succ n =>
      have q : out X.K XT E H α ((f ε S).bind fun b S1 => if b then (g ε S1).bind fun r S2 => match r with
          | (.nx, ε2) => whlL f g n ε2 S2 | (.ct, ε2) => whlL f g n ε2 S2 | (.bk, ε2) => .ok (.nx, ε2) S2 | (.rt v, ε2) => .ok (.rt v, ε2) S2
        else .ok (.nx, ε) S1) (kS X.K D') := q
      refine ⟨α, S, ε, hs, hl, q.bind.imp fun b S1 H1 α1 g1 s1 q1 => ?_⟩
      have l1 := hl.mono hs g1
      cases b with
      | false => exact iteF (out.here (XT := XT) (E := E) (β := Ct × Sl) (b := (.nx, ε)) q1 s1 σ l1)
      | true =>
        refine iteT ⟨_, fun σ' H' w => ⟨n, Nat.lt_succ_self n, w⟩, α1, S1, ε, s1, l1, (out.bind q1).imp fun r S2 H2 α2 g2 s2 q2 => ?_⟩
        obtain ⟨ct, ε2⟩ := r
        cases ct with
        | nx => exact fun σ2 l2 => ⟨α2, S2, ε2, s2, l2, q2⟩
        | ct => exact fun σ2 l2 => ⟨α2, S2, ε2, s2, l2, q2⟩
        | bk => exact out.here (XT := XT) (E := E) (β := Ct × Sl) (b := (.nx, ε2)) q2 s2
        | rt d => exact out.here (XT := XT) (E := E) (β := Ct × Sl) (b := (.rt d, ε2)) q2 s2
theorem s_for {ts : List Nat} {wi : Sl → Sto → R RI} {g : Y → Sl → Sto → R Sl} {f : Sl → Sto → RC} {body : List Stmt} {F : Nat} (hp : PassesOwn (model X.prog X.w) X.A X.env X.xe) (hc : X.calm = true) (hi : PI X tg e (tI X.K XT E wi)) (hg : PG X tg (tY X.K XT E ts g))
    (hb : PSs X body (tS X.K XT E f)) (hn : nice e = true) : PS X (.For tg e body [] pos) (tS X.K XT E fun ε S => (wi ε S).bind fun J S1 => forL g f J F 0 ε S1) :=
  PS.weak (ps_for hp hc hi hg hb fun x => nice_fold hn _ x) fun D' σ H ⟨α, S, ε, hs, hl, q⟩ => ⟨α, S, ε, hs, hl, q.bind.imp fun J S1 H1 α1 g1 s1 q1 Jt P wk hP => by
    refine ⟨fun i m σ H => ∃ α S ε, SR X.K H α S ∧ SL X.K H α ε σ ∧ P H α ∧ out X.K XT E H α (forL g f J m i ε S) (kS X.K D'), ⟨F, α1, S1, ε, s1, hl.mono hs g1, hP, q1⟩, ?_⟩
    rintro i m σ2 H2 ⟨α2, S2, ε2, t2, l2, p2, q2⟩
    cases m with
    | zero => exact False.elim q2
    | succ n =>
      unfold forL at q2
      cases e1 : J.nxt S2 i with
      | none => rw [e1] at q2; exact False.elim q2
      | some oo =>
        cases oo with
        | none =>
          rw [e1] at q2
          exact .inl ⟨wk.stop H2 α2 S2 i t2 p2 e1, out.here (XT := XT) (E := E) (β := Ct × Sl) (b := (.nx, ε2)) q2 t2 σ2 l2⟩
        | some y =>
          simp only [e1] at q2
          obtain ⟨go, yl⟩ := wk.go H2 α2 S2 i y t2 p2 e1
          refine .inr ⟨go, _, fun σ' H' w => ⟨n, Nat.lt_succ_self n, w⟩, fun x H3 hy => ?_⟩
          obtain ⟨g3, s3, yv⟩ := yl x H3 hy
          have l3 := l2.mono t2 g3
          have p3 := wk.mono _ _ _ _ _ p2 t2 g3
          refine ⟨α2, S2, ε2, y, s3, l3, yv, (out.mono q2 s3 g3).bind.imp fun ε4 S4 H4 α4 g4 s4 q4 σ4 l4 _ => ?_⟩
          have p4 := wk.mono _ _ _ _ _ p3 s3 g4
          refine ⟨α4, S4, ε4, s4, l4, q4.bind.imp fun r S5 H5 α5 g5 s5 q5 => ?_⟩
          have p5 := wk.mono _ _ _ _ _ p4 s4 g5
          obtain ⟨ct, ε5⟩ := r
          cases ct with
          | nx => exact fun σ5 l5 => ⟨α5, S5, ε5, s5, l5, p5, q5⟩
          | ct => exact fun σ5 l5 => ⟨α5, S5, ε5, s5, l5, p5, q5⟩
          | bk => exact out.here (XT := XT) (E := E) (β := Ct × Sl) (b := (.nx, ε5)) q5 s5
          | rt d => exact out.here (XT := XT) (E := E) (β := Ct × Sl) (b := (.rt d, ε5)) q5 s5⟩
end
end Mi

set_option maxRecDepth 100000
namespace Mi
open PySem PySem.Spec PyProof.Rows L2
/-! ## the checker: is this text that small program? -/
structure Ck where
  N : List Str
  bl : List Str
  gs : List (Str × D)
  fs : List (Str × Nat)
  ec : List Str
def visB (sc : Scope) (x : Str) : Bool := match sc.names.lookup x with
  | some .local => true
  | some .cell => true
  | some .free => true
  | _ => false
def glB (sc : Scope) (x : Str) : Bool := match sc.names.lookup x with
  | some .globalImplicit => x != "__debug__" && x != "__name__"
  | _ => false
/-- a name that may be stored: in a block its own only -/
def locB (top : Bool) (sc : Scope) (x : Str) : Bool := match sc.names.lookup x with
  | some .local => true
  | some .cell => top
  | _ => false
def mtN : Mt → Str
  | .append => "append" | .extend => "extend" | .index => "index"
def elen : EL → Nat
  | .nil => 0
  | .cons _ es => elen es + 1
mutual
def slots : Tg → List Nat
  | .name i => [i]
  | .tup gs => slotsL gs
  | .sub _ _ => []
def slotsL : TL → List Nat
  | .nil => []
  | .cons g gs => slots g ++ slotsL gs
end
def cstB (gs : List (Str × D)) (sc : Scope) (d : D) (e : Expr) : Bool := match e with
  | .Constant .none _ _ => (match d with | .non => true | _ => false)
  | .Constant (.bool b) _ _ => (match d with | .bl b' => b == b' | _ => false)
  | .Constant (.int i) _ _ => (match d with | .int i' => i == i' | _ => false)
  | .Constant (.str x) _ _ => (match d with | .str x' => x == x' | _ => false)
  | .Name x _ => glB sc x && decide (gs.lookup x = some d)
  | _ => false
section
variable (k : Ck)
mutual
def okE (sc : Scope) : E → Expr → Bool
  | .var i, e => match e with
    | .Name x _ => decide (k.N[i]? = some x) && visB sc x && x != "__debug__" && x != "__classdict__"
    | _ => false
  | .cst d, e => cstB k.gs sc d e
  | .op o a b, e => match e with
    | .BinOp l op r _ => decide (op = opOf o) && okE sc a l && okE sc b r
    | _ => false
  | .cmp o a b, e => match e with
    | .Compare l [op] [r] _ => decide (op = cmOf o) && okE sc a l && okE sc b r && nice r
    | _ => false
  | .isN a, e => match e with
    | .Compare l [.Is] [.Constant .none _ _] _ => okE sc a l
    | _ => false
  | .isNN a, e => match e with
    | .Compare l [.IsNot] [.Constant .none _ _] _ => okE sc a l
    | _ => false
  | .neg a, e => match e with
    | .UnaryOp .USub l _ => okE sc a l
    | _ => false
  | .and a b, e => match e with
    | .BoolOp .And (x :: y :: rest) _ => okE sc a x && (match rest with | [] => okE sc b y | _ :: _ => okA sc b (y :: rest))
    | _ => false
  | .or a b, e => match e with
    | .BoolOp .Or (x :: y :: rest) _ => okE sc a x && (match rest with | [] => okE sc b y | _ :: _ => okO sc b (y :: rest))
    | _ => false
  | .not a, e => match e with
    | .UnaryOp .Not l _ => okE sc a l
    | _ => false
  | .ite c a b, e => match e with
    | .IfExp x y z _ => okE sc c x && okE sc a y && okE sc b z
    | _ => false
  | .tup es, e => match e with
    | .Tuple l _ _ => okL sc es l && l.all nice
    | _ => false
  | .lst es, e => match e with
    | .List l _ => okL sc es l && l.all nice
    | _ => false
  | .ix a b, e => match e with
    | .Subscript l r _ => okE sc a l && okE sc b r && nice r
    | _ => false
  | .sl a lo hi, e => match e with
    | .Subscript l (.Slice x y none _) _ => okE sc a l && okP sc lo x && okP sc hi y
    | _ => false
  | .call f es, e => match e with
    | .Call (.Name x _) args [] _ => decide (k.fs[f]?.map (·.1) = some x) && glB sc x && okL sc es args && args.all nice
    | _ => false
  | .bi f es, e => match e with
    | .Call (.Name x _) (a :: args) [] _ => decide (x = biN f) && decide (x ∈ k.bl) && glB sc x && okL sc es (a :: args) && (a :: args).all nice
    | _ => false
  | .mt m o es, e => match e with
    | .Call (.Attribute ob x ap) (a :: args) [] cp => decide (x = mtN m) && okE sc o ob && plainB ob && okL sc es (a :: args) && (a :: args).all nice && decide ((a :: args).length < 30) && (ap.endLine == cp.line)
    | _ => false
  | .lc g it own c el, e => match e with
    | .ListComp elt [⟨tg, iter, ifs, asy⟩] scope _ => decide (asy = 0) && okI sc it tg iter && nice iter && okT false (relS scope sc) g tg && okC (relS scope sc) c ifs && okE (relS scope sc) el elt &&
        blkC k.N sc scope (own.filterMap fun i => k.N[i]?.map fun x => (x, i)) && decide ((own.filterMap fun i => k.N[i]?.map fun x => (x, i)).map (·.2) = own) && (slots g).all (fun i => decide (i ∈ own))
    | _ => false
  | .isi t a, e => match e with
    | .Call (.Name x _) [y, .Name z _] [] _ => decide (x = ("isinstance" : Str)) && decide (x ∈ k.bl) && glB sc x && decide (z = tnS t) && decide (z ∈ k.bl) && glB sc z && okE sc a y && nice y
    | _ => false
  | .chn o p a b c, e => match e with
    | .Compare l [op, op'] [m, r] _ => decide (op = cmOf o) && decide (op' = cmOf p) && okE sc a l && okE sc b m && okE sc c r && nice r
    | _ => false
/-- the rest of an and, of an or -/
def okA (sc : Scope) : E → List Expr → Bool
  | .and a b, es => match es with
    | x :: y :: rest => okE sc a x && (match rest with | [] => okE sc b y | _ :: _ => okA sc b (y :: rest))
    | _ => false
  | _, _ => false
def okO (sc : Scope) : E → List Expr → Bool
  | .or a b, es => match es with
    | x :: y :: rest => okE sc a x && (match rest with | [] => okE sc b y | _ :: _ => okO sc b (y :: rest))
    | _ => false
  | _, _ => false
def okL (sc : Scope) : EL → List Expr → Bool
  | .nil, es => match es with
    | [] => true
    | _ => false
  | .cons a as, es => match es with
    | e :: es => okE sc a e && okL sc as es
    | [] => false
def okP (sc : Scope) : EO → Option Expr → Bool
  | .none, o => match o with
    | none => true
    | _ => false
  | .some a, o => match o with
    | some e => okE sc a e
    | _ => false
def okC (sc : Scope) : EO → List Expr → Bool
  | .none, es => match es with
    | [] => true
    | _ => false
  | .some a, es => match es with
    | [e] => okE sc a e
    | _ => false
def okI (sc : Scope) : It → Expr → Expr → Bool
  | .seq a, _, e => okE sc a e
  | .rng es, _, e => match e with
    | .Call (.Name x _) args [] _ => decide (x = ("range" : Str)) && decide (x ∈ k.bl) && glB sc x && okL sc es args && args.all nice && decide (1 ≤ args.length ∧ args.length ≤ 3)
    | _ => false
  | .enum a, tg, e => match tg, e with
    | .Tuple _ _ _, .Call (.Name x _) [y] [] _ => decide (x = ("enumerate" : Str)) && decide (x ∈ k.bl) && glB sc x && okE sc a y && nice y
    | _, _ => false
def okT (top : Bool) (sc : Scope) : Tg → Expr → Bool
  | .name i, e => match e with
    | .Name x _ => decide (k.N[i]? = some x) && locB top sc x
    | _ => false
  | .tup gs, e => match e with
    | .Tuple es _ _ => okTs top sc gs es && es.all nstar
    | _ => false
  | .sub o i, e => match e with
    | .Subscript x y _ => okE sc o x && okE sc i y && nice y
    | _ => false
def okTs (top : Bool) (sc : Scope) : TL → List Expr → Bool
  | .nil, es => match es with
    | [] => true
    | _ => false
  | .cons g gs, es => match es with
    | e :: es => okT top sc g e && okTs top sc gs es
    | [] => false
end
end
end Mi

set_option maxRecDepth 100000
set_option maxHeartbeats 1000000
namespace Mi
open PySem PySem.Spec PyProof.Rows L2
/-! ## raise and try -/
/-- what an exception of the evaluator is in the heap: class c's, its path the first of as -/
def xtC (K : PySem.W.Frag) (cs : Nat → Option Addr) : XTy := fun c as H α cls d => ∃ C dx p v, cs c = some C ∧ cls = .ref C ∧ d = some dx ∧ H dx = some (.xd [("path", v)]) ∧ as = [p] ∧ DV K H α p v
theorem Takes.len {X : Cx} {W : WX} (t : Takes X W) : Takes X (fun c d _ H => ∀ σ : L2.St, σ.length = X.N.length → W c d σ H) := fun u s2 ⟨a, B, sI, pins, σ, H, cls, d, e, I, nb, up, sky, na, os, ag, w⟩ =>
  t u s2 ⟨a, B, sI, pins, σ, H, cls, d, e, I, nb, up, sky, na, os, ag, w σ I.len⟩
section
variable {X : Cx} {nm : Str} {C fI : Addr} {n : Nat} {fd : FuncData} {p pos rpos : Pos} {e : Expr} {cs : Nat → Option Addr} {W : XK}
theorem okEx_show {K : PySem.W.Frag} {H : Hp} {α : List Addr} {S : Sto} {d : D} {v : V} (hs : SR K H α S) (dv : DV K H α d v) (h : okEx S d = true) : ShowV K H v := by
  unfold okEx at h
  cases e : flat S deep d with
  | none => rw [e] at h; cases h
  | some p =>
    rw [e] at h
    have h : (isSeq d && showB p) = true := h
    rw [Bool.and_eq_true] at h
    have hv : ∃ a, v = .ref a := by
      cases dv with
      | tup _ _ => exact ⟨_, rfl⟩
      | ref _ => exact ⟨_, rfl⟩
      | rol _ _ => exact ⟨_, rfl⟩
      | _ => cases h.1
    obtain ⟨a, rfl⟩ := hv
    exact ⟨a, p, rfl, hs.dp dv e, h.2⟩
theorem s_rse (ER : ErrC X.K X.mg nm C fI) (F : FnG X.prog X.w X.K X.mg X.base (L2.CX X.prog X.w) n fI fd NI (spI X.K C)) (room : Room (n + 1) X.A) (qt : Quiet X.A) (bs : Binds X.K fd NI []) (hg : Gl X nm) (tk : Takes X (fun cls d _ H => W cls d H)) (hc : X.calm = true) {c : Nat} (hcs : cs c = some C)
    {f : Sl → Sto → R D} (ha : PE X e (tD X.K (xtC X.K cs) W f)) (hn : nice e = true) (nd : (nm == ("__debug__" : Str)) = false) :
    PS X (.Raise (some (.Call (.Name nm p) [e] [] pos)) none rpos) (tS X.K (xtC X.K cs) W fun ε S => (f ε S).bind fun d S1 => if okEx S1 d then .ex c [d] S1 else .bad) := by
  have pass : Passes (L2.CX X.prog X.w) X (fun _ _ _ => False) := passes_call tk fun _ _ _ _ z => z.elim
  refine PS.weak (ps_raise hc tk (pmk_errG ER F room qt bs pass hg (pa_cons ha pa_nil (hs := nice_star hn _ X.env)) nd (nice_star hn _ X.env) rfl)) fun D' σ H ⟨α, S, ε, hs, hl, q⟩ => ?_
  refine ⟨α, S, ε, hs, hl, q.bind.imp fun d S1 H1 α1 g1 s1 q1 v dv => ⟨(show 1 ≤ 1000 by decide), fun a na => ?_⟩⟩
  cases ok : okEx S1 d with
  | false =>
    simp only [ok] at q1
    exact False.elim q1
  | true =>
    simp only [ok] at q1
    have q1 : out X.K (xtC X.K cs) W H1 α1 (R.ex c [d] S1) (kS X.K D') := q1
    have g2 : Ag H1 (upd H1 a (exo a C none)) α1 α1 := s1.newAg na
    refine ⟨a, v, rfl, upd_same, okEx_show (s1.new na) (dv.mono s1 g2) ok, fun dx n1 n2 => ⟨rfl, dx, [("path", v)], upd_same, ?_, ?_, ?_⟩⟩
    · rw [upd_ne n2, upd_same]
    · rw [upd_ne n2] at n1; exact n1
    · rw [upd_ne n2] at n1
      have e : upd (del (upd (upd (upd H1 a (exo a C none)) dx (exd dx [("path", v)])) a (exo a C (some dx))) a) dx (.xd [("path", v)]) = upd H1 dx (.xd [("path", v)]) := by
        funext b
        by_cases h1 : b = dx
        · subst h1; rw [upd_same, upd_same]
        · rw [upd_ne h1, upd_ne h1]
          by_cases h2 : b = a
          · subst h2; rw [del_same, na]
          · rw [del_ne h2, upd_ne h2, upd_ne h1, upd_ne h2]
      rw [e]
      exact q1 _ α1 _ _ (s1.newAg n1) (s1.new n1) ⟨C, dx, d, v, hcs, rfl, rfl, upd_same, rfl, dv.mono s1 (s1.newAg n1)⟩
theorem s_try (ER : ErrC X.K X.mg nm C fI) (xf : XfC X.K C) (ex : PySem.W.exmOne X.K (.ref C) (.ref C) = some true) (stk : X.stack = X.env :: X.outer) (frm : X.env.frame = some X.env.locals) (nodup : X.N.Nodup) {i j c : Nat} {x en : Str} (hi : X.N[i]? = some x) (hj : X.N[j]? = some en)
    (li : X.env.scope.names.lookup x = some .local) (lj : X.env.scope.names.lookup en = some .local) (hcs : cs c = some C) (hg : Gl X nm) (nd : (nm == ("__debug__" : Str)) = false) (en1 : (en == ("__debug__" : Str)) = false) (en2 : (en == ("__classdict__" : Str)) = false) {body : List Stmt} {np p1 p2 p3 p4 pos' : Pos} {b : Sl → Sto → RC}
    (hb : ∀ (W' : XK) (pn : List (Addr × Obj)) (xe : Value → Shared → Prop), Takes (X.tr pn xe) (fun cls d _ H => W' cls d H) → PassesOwn (model X.prog X.w) X.A X.env xe → PSs (X.tr pn xe) body (tS X.K (xtC X.K cs) W' b)) :
    PS X (.Try body [.ExceptHandler (some (.Name nm np)) (some en) [.Assign [.Name x p1] (.Attribute (.Name en p2) "path" p3) p4] pos'] [] [] pos) (tS X.K (xtC X.K cs) W fun ε S => tryR c i j X.N.length (b ε S)) := by
  refine PS.weak (ps_try_as (i := j) (Wout := fun _ _ _ _ => False) (tb := fun W0 => tS X.K (xtC X.K cs) (fun cls d H => ∀ σ : L2.St, σ.length = X.N.length → W0 cls d σ H) b) (ts := fun a cls d => tAsg (tXf a cls d C "path" (tVar j)) (gName i)) stk frm nodup hj lj ⟨hg, nd, .inl ER.m⟩ takes0
    (fun W0 pn xe tk ps => hb _ pn xe (Takes.len tk) ps) (fun a oe cls d pn hz hf => pss_one (ps_set (X := X.suite a ((a, oe) :: pn)) nodup hi (.inl li) (pe_xf xf ER.np hz hf (pe_var (X := X.suite a ((a, oe) :: pn)) hj (.inl lj) en1 en2)) (by rfl) (.inr li)))) fun D' σ H ⟨α, S, ε, hs, hl, q⟩ => ?_
  have q : out X.K (xtC X.K cs) W H α (tryR c i j X.N.length (b ε S)) (kS X.K D') := q
  refine ⟨α, S, ε, hs, hl, ?_⟩
  cases e : b ε S with
  | bad => rw [e] at q; exact False.elim q
  | ok v S1 => rw [e] at q; exact q
  | ex c1 as S1 =>
    rw [e] at q
    match as, q with
    | [], q => exact False.elim q
    | _ :: _ :: _, q => exact False.elim q
    | [d], q =>
      by_cases hc : c1 = c
      · subst hc
        have q : out X.K (xtC X.K cs) W H α (if c1 = c1 then (R.ok (Ct.nx, ((List.replicate X.N.length none).set i (some d)).set j none) S1 : RC) else .bad) (kS X.K D') := q
        rw [if_pos rfl] at q
        intro H' α' cls d' g s h σ' hl'
        obtain ⟨C', dx, p', v, e1, e2, e3, e4, e5, dv⟩ := h
        rw [hcs] at e1
        cases e1
        cases e5
        subst e2
        have hjl : j < σ'.length := by rw [hl']; exact (List.getElem?_eq_some_iff.mp hj).1
        refine ⟨true, ex, fun _ a na => ?_, fun z => nomatch z⟩
        have base : SL X.K H' α' (List.replicate X.N.length none) (σ'.set j (some (.ref a))) := ⟨by rw [List.length_replicate, List.length_set, hl'], fun k dd hk => by rw [List.getElem?_replicate] at hk; split at hk <;> cases hk⟩
        refine ⟨.ref a, List.getElem?_set_self hjl, rfl, rfl, dx, _, v, e3, e4, rfl, ?_⟩
        exact q H' α' g s _ ((base.set i dv).setN j)
      · have q : out X.K (xtC X.K cs) W H α (if c1 = c then (R.ok (Ct.nx, ((List.replicate X.N.length none).set i (some d)).set j none) S1 : RC) else .bad) (kS X.K D') := q
        rw [if_neg hc] at q
        exact False.elim q
end
end Mi

set_option maxRecDepth 100000
set_option maxHeartbeats 4000000
namespace Mi
open PySem PySem.Spec PyProof.Rows L2
structure Gd (k : Ck) (top : Bool) (sc : Scope) (cl : Nat → List D → Sto → R D) (lv : Nat) (X : Cx) (XT : XTy) (E : XK) : Prop where
  N : X.N = k.N
  nd : X.N.Nodup
  sc : X.env.scope = sc
  calm : X.calm = true
  room : Room lv X.A
  quiet : Quiet X.A
  pass : Passes (L2.CX X.prog X.w) X E
  bl : ∀ x ∈ k.bl, X.mg x = none
  gs : ∀ x d, k.gs.lookup x = some d → GlIs X.K X.mg x d
  fs : ∀ (f : Nat) x n, k.fs[f]? = some (x, n) → ∃ a fd ps, X.mg x = some (.ref a) ∧ PySem.W.keepIn X.K (.ref a) = true ∧ Binds X.K fd ps [] ∧ FnG X.prog X.w X.K X.mg X.base (L2.CX X.prog X.w) lv a fd ps (spD X.K XT n (cl f)) ∧
    ∀ ds S, ds.length ≠ n → cl f ds S = .bad
  fn : top = true → ∀ x, X.fn x = true
theorem Gd.units {k : Ck} {top : Bool} {sc : Scope} {cl : Nat → List D → Sto → R D} {lv : Nat} {X : Cx} {XT : XTy} {E : XK} (G : Gd k top sc cl lv X XT E) : X.A.units + 65 < cLine := by
  have := G.room.un
  omega
theorem visB_ok {X : Cx} {sc : Scope} {x : Str} (e : X.env.scope = sc) (h : visB sc x = true) : Vis X.env.scope x := by
  rw [e]
  unfold visB at h
  split at h
  · rename_i q; exact .inl q
  · rename_i q; exact .inr (.inl q)
  · rename_i q; exact .inr (.inr q)
  · cases h
theorem glB_ok {X : Cx} {sc : Scope} {x : Str} (e : X.env.scope = sc) (h : glB sc x = true) : Gl X x ∧ (x == ("__debug__" : Str)) = false := by
  unfold glB at h
  split at h
  · rename_i q
    rw [Bool.and_eq_true] at h
    refine ⟨?_, ?_⟩
    · show X.env.scope.names.lookup x = some .globalImplicit
      rw [e]; exact q
    · have := h.1
      rw [bne_iff_ne] at this
      exact beq_eq_false_iff_ne.mpr this
  · cases h
theorem locB_ok {k : Ck} {top : Bool} {sc : Scope} {cl : Nat → List D → Sto → R D} {lv : Nat} {X : Cx} {XT : XTy} {E : XK} (G : Gd k top sc cl lv X XT E) {x : Str} (h : locB top sc x = true) :
    Loc X.env.scope x ∧ (X.fn x = true ∨ X.env.scope.names.lookup x = some .local) := by
  unfold locB at h
  split at h
  · rename_i q
    rw [← G.sc] at q
    exact ⟨.inl q, .inr q⟩
  · rename_i q
    rw [← G.sc] at q
    exact ⟨.inr q, .inl (G.fn h x)⟩
  · cases h
theorem evL_len {cl : Nat → List D → Sto → R D} {F : Nat} : ∀ (es : EL) (ε : Sl) (S : Sto) (xs : List D) (S' : Sto), evL cl F es ε S = .ok xs S' → xs.length = elen es
  | .nil, ε, S, xs, S', h => by
    have h : R.ok [] S = R.ok xs S' := h
    cases h
    rfl
  | .cons e es, ε, S, xs, S', h => by
    have h : ((ev cl F e ε S).bind fun x S1 => (evL cl F es ε S1).bind fun ys S2 => R.ok (x :: ys) S2) = R.ok xs S' := h
    cases e1 : ev cl F e ε S with
    | bad => rw [e1] at h; cases h
    | ex _ _ _ => rw [e1] at h; cases h
    | ok x S1 =>
      rw [e1, R.bind_ok] at h
      cases e2 : evL cl F es ε S1 with
      | bad => rw [e2] at h; cases h
      | ex _ _ _ => rw [e2] at h; cases h
      | ok ys S2 =>
        rw [e2, R.bind_ok] at h
        cases h
        rw [List.length_cons, evL_len es _ _ _ _ e2]
        rfl
theorem okL_len {k : Ck} {sc : Scope} : ∀ (es : EL) (l : List Expr), okL k sc es l = true → elen es = l.length
  | .nil, [], _ => rfl
  | .nil, _ :: _, h => by cases h
  | .cons e es, [], h => by cases h
  | .cons e es, x :: l, h => by
    have h : (okE k sc e x && okL k sc es l) = true := h
    rw [Bool.and_eq_true] at h
    show elen es + 1 = l.length + 1
    rw [okL_len es l h.2]
theorem okTs_len {k : Ck} {top : Bool} {sc : Scope} : ∀ (gs : TL) (l : List Expr), okTs k top sc gs l = true → tlen gs = l.length
  | .nil, [], _ => rfl
  | .nil, _ :: _, h => by cases h
  | .cons e es, [], h => by cases h
  | .cons e es, x :: l, h => by
    have h : (okT k top sc e x && okTs k top sc es l) = true := h
    rw [Bool.and_eq_true] at h
    show tlen es + 1 = l.length + 1
    rw [okTs_len es l h.2]

theorem pt_bad {X : Cx} {XT : XTy} {W : XK} {e : Expr} : PT X e (tT X.K XT W fun _ _ => .bad) := ⟨fun _ _ _ _ _ _ ⟨_, _, _, _, _, q⟩ => False.elim q⟩
theorem pt_badF {X : Cx} {XT : XTy} {W : XK} {e : Expr} {f : Sl → Sto → R Bool} (h : ∀ ε S, f ε S = .bad) : PT X e (tT X.K XT W f) := ⟨fun _ _ _ _ _ _ ⟨_, _, _, _, _, q⟩ => by rw [h] at q; exact False.elim q⟩
theorem cst_of {X : Cx} {k : Ck} {top : Bool} {sc : Scope} {cl : Nat → List D → Sto → R D} {lv F : Nat} {XT : XTy} {W : XK} (G : Gd k top sc cl lv X XT W) {d : D} {e : Expr} (h : cstB k.gs sc d e = true) : PE X e (tD X.K XT W (ev cl F (.cst d))) := by
  unfold cstB at h
  split at h
  · split at h
    · exact d_cst rfl pe_non
    · cases h
  · split at h
    · rw [beq_iff_eq] at h
      subst h
      exact d_cst rfl pe_bl
    · cases h
  · split at h
    · rw [beq_iff_eq] at h
      subst h
      exact d_cst rfl pe_int
    · cases h
  · split at h
    · rw [beq_iff_eq] at h
      subst h
      exact d_cst rfl pe_str
    · cases h
  · rw [Bool.and_eq_true, decide_eq_true_eq] at h
    obtain ⟨g1, g2⟩ := glB_ok G.sc h.1
    exact d_gl g1 (G.gs _ _ h.2) g2
  · cases h
theorem not_bne {x y : Str} (h : (x != y) = true) : (x == y) = false := by
  rw [bne_iff_ne] at h
  exact beq_eq_false_iff_ne.mpr h
theorem nice_isT {o : Expr} (h : nice o = true) : True := trivial
mutual
theorem sE {F : Nat} {k : Ck} {cl : Nat → List D → Sto → R D} {lv : Nat} {XT : XTy} : ∀ (l : E) {X : Cx} {top : Bool} {sc : Scope} {W : XK} (G : Gd k top sc cl lv X XT W) (e : Expr), okE k sc l e = true → PE X e (tD X.K XT W (ev cl F l))
  | .var i, X, top, sc, W, G, e, h => by
    unfold okE at h
    split at h
    · simp only [Bool.and_eq_true, decide_eq_true_eq] at h
      exact d_var (by rw [G.N]; exact h.1.1.1) (visB_ok G.sc h.1.1.2) (not_bne h.1.2) (not_bne h.2)
    · cases h
  | .cst d, X, top, sc, W, G, e, h => by
    unfold okE at h
    exact cst_of G h
  | .op o a b, X, top, sc, W, G, e, h => by
    unfold okE at h
    split at h
    · simp only [Bool.and_eq_true, decide_eq_true_eq] at h
      obtain ⟨⟨h0, h1⟩, h2⟩ := h
      subst h0
      exact d_op (opR_all o) (sE a G _ h1) (sE b G _ h2)
    · cases h
  | .cmp o a b, X, top, sc, W, G, e, h => by
    unfold okE at h
    split at h
    · simp only [Bool.and_eq_true, decide_eq_true_eq] at h
      obtain ⟨⟨⟨h0, h1⟩, h2⟩, h3⟩ := h
      subst h0
      exact d_cmp (opR_cm G.units o) (sE a G _ h1) (sE b G _ h2) (nice_mark h3)
    · cases h
  | .isN a, X, top, sc, W, G, e, h => by
    unfold okE at h
    split at h
    · exact d_isN (sE a G _ h)
    · cases h
  | .isNN a, X, top, sc, W, G, e, h => by
    unfold okE at h
    split at h
    · exact d_isNN (sE a G _ h)
    · cases h
  | .neg a, X, top, sc, W, G, e, h => by
    unfold okE at h
    split at h
    · exact d_neg (sE a G _ h)
    · cases h
  | .and a b, X, top, sc, W, G, e, h => by
    unfold okE at h
    split at h
    · rename_i x y rest pos
      simp only [Bool.and_eq_true] at h
      obtain ⟨h1, h2⟩ := h
      split at h2
      · exact d_and (sE a G _ h1) (pe_one (sE b G _ h2))
      · exact d_and (sE a G _ h1) (sA b G _ _ h2)
    · cases h
  | .or a b, X, top, sc, W, G, e, h => by
    unfold okE at h
    split at h
    · rename_i x y rest pos
      simp only [Bool.and_eq_true] at h
      obtain ⟨h1, h2⟩ := h
      split at h2
      · exact d_or (sE a G _ h1) (pe_one (sE b G _ h2))
      · exact d_or (sE a G _ h1) (sO b G _ _ h2)
    · cases h
  | .not a, X, top, sc, W, G, e, h => by
    unfold okE at h
    split at h
    · exact d_not (sE a G _ h)
    · cases h
  | .ite c a b, X, top, sc, W, G, e, h => by
    unfold okE at h
    split at h
    · simp only [Bool.and_eq_true] at h
      exact d_ite (sT c G _ h.1.1) (sE a G _ h.1.2) (sE b G _ h.2)
    · cases h
  | .tup es, X, top, sc, W, G, e, h => by
    unfold okE at h
    split at h
    · simp only [Bool.and_eq_true] at h
      exact d_tup (sL es G _ h.1 h.2)
    · cases h
  | .lst es, X, top, sc, W, G, e, h => by
    unfold okE at h
    split at h
    · simp only [Bool.and_eq_true] at h
      exact d_lst (sL es G _ h.1 h.2)
    · cases h
  | .ix a b, X, top, sc, W, G, e, h => by
    unfold okE at h
    split at h
    · simp only [Bool.and_eq_true] at h
      exact d_ix (sE a G _ h.1.1) (sE b G _ h.1.2) h.2
    · cases h
  | .sl a lo hi, X, top, sc, W, G, e, h => by
    unfold okE at h
    split at h
    · simp only [Bool.and_eq_true] at h
      exact d_sl (sE a G _ h.1.1) (sP lo G _ h.1.2) (sP hi G _ h.2)
    · cases h
  | .call f es, X, top, sc, W, G, e, h => by
    unfold okE at h
    split at h
    · rename_i x p args pos
      simp only [Bool.and_eq_true, decide_eq_true_eq] at h
      obtain ⟨⟨⟨h0, h1⟩, h2⟩, h3⟩ := h
      obtain ⟨⟨x', n⟩, q1, q2⟩ := map_some_inv h0
      have q2 : x' = x := q2
      subst q2
      obtain ⟨a, fd, ps, m1, m2, m3, m4, m5⟩ := G.fs f x' n q1
      obtain ⟨g1, g2⟩ := glB_ok G.sc h1
      cases args with
      | nil =>
        cases es with
        | nil => exact d_call0 m4 G.room G.quiet g1 m1 m2 m3 G.pass g2 m5
        | cons _ _ => cases h2
      | cons y ys => exact d_call m4 G.room G.quiet g1 m1 m2 m3 G.pass g2 m5 (sL es G _ h2 h3) h3 (by simp)
    · cases h
  | .bi f es, X, top, sc, W, G, e, h => by
    unfold okE at h
    split at h
    · simp only [Bool.and_eq_true, decide_eq_true_eq] at h
      obtain ⟨⟨⟨⟨h0, h1⟩, h2⟩, h3⟩, h4⟩ := h
      subst h0
      exact d_bi f G.quiet G.units (glB_ok G.sc h2).1 (G.bl _ h1) (sL es G _ h3 h4) h4
    · cases h
  | .mt m o es, X, top, sc, W, G, e, h => by
    unfold okE at h
    split at h
    · simp only [Bool.and_eq_true, decide_eq_true_eq] at h
      obtain ⟨⟨⟨⟨⟨⟨h0, h1⟩, h2⟩, h3⟩, h4⟩, h5⟩, h6⟩ := h
      subst h0
      cases m with
      | append => exact d_append (sE o G _ h1) (sL es G _ h3 h4) h2 h4 h5 h6
      | extend => exact d_extend (sE o G _ h1) (sL es G _ h3 h4) h2 h4 h5 h6
      | index => exact d_index G.units (sE o G _ h1) (sL es G _ h3 h4) h2 h4 h5 h6
    · cases h
  | .lc g it own c el, X, top, sc, W, G, e, h => by
    unfold okE at h
    split at h
    · rename_i elt tg iter ifs asy scope pos
      simp only [Bool.and_eq_true, decide_eq_true_eq] at h
      obtain ⟨⟨⟨⟨⟨⟨⟨⟨h0, h1⟩, h2⟩, h3⟩, h4⟩, h5⟩, h6⟩, h7⟩, h8⟩ := h
      subst h0
      have ok := blkOk_by h6
      rw [← G.sc, ← G.N] at ok
      have Gb : ∀ (s : Shared) (H : Hp) (C : Addr) (cs : List (Str × Addr)) (fp : List Addr), Gd k false (relS scope sc) cl lv (X.blk s H scope (compEnvC scope cs C X.env) fp) XT (fun _ _ _ => False) := fun s H C cs fp =>
        ⟨G.N, G.nd, by rw [← G.sc]; rfl, G.calm, G.room, G.quiet, passL, G.bl, G.gs, G.fs, fun z => absurd z Bool.false_ne_true⟩
      have k1 : ∀ (s : Shared) (H : Hp) (C : Addr) (cs : List (Str × Addr)) (fp : List Addr), PG (X.blk s H scope (compEnvC scope cs C X.env) fp) tg (tY X.K XT (fun _ _ _ => False) (slots g) (asg cl F g)) := fun s H C cs fp => sG g (Gb s H C cs fp) tg h3
      have k2 : ∀ (s : Shared) (H : Hp) (C : Addr) (cs : List (Str × Addr)) (fp : List Addr), PTs (X.blk s H scope (compEnvC scope cs C X.env) fp) ifs (tT X.K XT (fun _ _ _ => False) (evC cl F c)) := fun s H C cs fp => sC c (Gb s H C cs fp) ifs h4
      have k3 : ∀ (s : Shared) (H : Hp) (C : Addr) (cs : List (Str × Addr)) (fp : List Addr), PE (X.blk s H scope (compEnvC scope cs C X.env) fp) elt (tD X.K XT (fun _ _ _ => False) (ev cl F el)) := fun s H C cs fp => sE el (Gb s H C cs fp) elt h5
      have lc := pe_lc (pos := pos) G.calm G.nd (sI (F := F) it G tg iter h1) ok k1 k2 k3 (fun x => nice_fold h2 X.env x)
      rw [G.N, h7] at lc
      exact PE.weak lc fun σ H Q q => lc_of (fun t ht => of_decide_eq_true (List.all_eq_true.mp h8 t ht)) q
    · cases h
  | .isi t a, X, top, sc, W, G, e, h => by
    unfold okE at h
    split at h
    · simp only [Bool.and_eq_true, decide_eq_true_eq] at h
      obtain ⟨⟨⟨⟨⟨⟨⟨h0, h1⟩, h2⟩, h3⟩, h4⟩, h5⟩, h6⟩, h7⟩ := h
      subst h0 h3
      exact d_isi t (glB_ok G.sc h2).1 (G.bl _ h1) (glB_ok G.sc h5).1 (G.bl _ h4) (sE a G _ h6) h7
    · cases h
  | .chn o p a b c, X, top, sc, W, G, e, h => by
    unfold okE at h
    split at h
    · simp only [Bool.and_eq_true, decide_eq_true_eq] at h
      obtain ⟨⟨⟨⟨⟨h1, h2⟩, h3⟩, h4⟩, h5⟩, h6⟩ := h
      subst h1 h2
      exact d_chn (opR_cm G.units o) (opR_cm G.units p) (sE a G _ h3) (sE b G _ h4) (sE c G _ h5) (nice_mark h6)
    · cases h
theorem sT {F : Nat} {k : Ck} {cl : Nat → List D → Sto → R D} {lv : Nat} {XT : XTy} : ∀ (l : E) {X : Cx} {top : Bool} {sc : Scope} {W : XK} (G : Gd k top sc cl lv X XT W) (e : Expr), okE k sc l e = true → PT X e (tT X.K XT W (evT cl F l))
  | .var i, X, top, sc, W, G, e, h => by
    have hv := sE (F := F) (.var i) G e h
    unfold okE at h
    split at h
    · refine PT.weak (t_val hv rfl) fun σ H Q ⟨α, S, ε, hs, hl, q⟩ => ⟨α, S, ε, hs, hl, ?_⟩
      have q : out X.K XT W H α (match ε[i]? with | some (some d) => R.of S (truth S d) | _ => .bad) _ := q
      show out X.K XT W H α ((match ε[i]? with | some (some d) => R.ok d S | _ => .bad).bind fun d S1 => R.of S1 (truth S1 d)) _
      generalize ε[i]? = oo at q ⊢
      cases oo with
      | none => exact False.elim q
      | some o1 =>
        cases o1 with
        | none => exact False.elim q
        | some d => exact q
    · cases h
  | .cst d, X, top, sc, W, G, e, h => by
    have hv := sE (F := F) (.cst d) G e h
    have hp : plainT e = true := by
      cases e <;> first | rfl | exact absurd h (by unfold okE cstB; exact Bool.false_ne_true)
    exact PT.weak (t_val hv hp) fun σ H Q ⟨α, S, ε, hs, hl, q⟩ => ⟨α, S, ε, hs, hl, q⟩
  | .op o a b, X, top, sc, W, G, e, h => pt_badF fun _ _ => rfl
  | .cmp o a b, X, top, sc, W, G, e, h => by
    unfold okE at h
    split at h
    · simp only [Bool.and_eq_true, decide_eq_true_eq] at h
      obtain ⟨⟨⟨h0, h1⟩, h2⟩, h3⟩ := h
      subst h0
      exact t_cmp (opR_cm G.units o) (sE a G _ h1) (sE b G _ h2) (nice_mark h3)
    · cases h
  | .isN a, X, top, sc, W, G, e, h => by
    unfold okE at h
    split at h
    · exact t_isN (sE a G _ h)
    · cases h
  | .isNN a, X, top, sc, W, G, e, h => by
    unfold okE at h
    split at h
    · exact t_isNN (sE a G _ h)
    · cases h
  | .neg a, X, top, sc, W, G, e, h => pt_badF fun _ _ => rfl
  | .and a b, X, top, sc, W, G, e, h => by
    unfold okE at h
    split at h
    · rename_i x y rest pos
      simp only [Bool.and_eq_true] at h
      obtain ⟨h1, h2⟩ := h
      split at h2
      · exact (w_and (sT a G _ h1) (pw_and1 (sT b G _ h2))).pt
      · exact (w_and (sT a G _ h1) (sWA b G _ _ h2)).pt
    · cases h
  | .or a b, X, top, sc, W, G, e, h => by
    unfold okE at h
    split at h
    · rename_i x y rest pos
      simp only [Bool.and_eq_true] at h
      obtain ⟨h1, h2⟩ := h
      split at h2
      · exact (w_or (sT a G _ h1) (pw_or1 (sT b G _ h2))).pt
      · exact (w_or (sT a G _ h1) (sWO b G _ _ h2)).pt
    · cases h
  | .not a, X, top, sc, W, G, e, h => by
    unfold okE at h
    split at h
    · exact t_not (sT a G _ h)
    · cases h
  | .ite c a b, X, top, sc, W, G, e, h => pt_badF fun _ _ => rfl
  | .tup es, X, top, sc, W, G, e, h => pt_badF fun _ _ => rfl
  | .lst es, X, top, sc, W, G, e, h => pt_badF fun _ _ => rfl
  | .ix a b, X, top, sc, W, G, e, h => by
    unfold okE at h
    split at h
    · simp only [Bool.and_eq_true] at h
      refine PT.weak (t_val (d_ix (sE (F := F) a G _ h.1.1) (sE (F := F) b G _ h.1.2) h.2) rfl) fun σ H Q ⟨α, S, ε, hs, hl, q⟩ => ⟨α, S, ε, hs, hl, ?_⟩
      have q : out X.K XT W H α ((ev cl F a ε S).bind fun x S1 => (ev cl F b ε S1).bind fun y S2 => R.of S2 ((ixD S2 x y).bind (truth S2))) _ := q
      show out X.K XT W H α (((ev cl F a ε S).bind fun x S1 => (ev cl F b ε S1).bind fun y S2 => R.of S2 (ixD S2 x y)).bind fun d S1 => R.of S1 (truth S1 d)) _
      generalize ev cl F a ε S = r1 at q ⊢
      cases r1 with
      | bad => exact False.elim q
      | ex c as S1 => exact q
      | ok x S1 =>
        rw [R.bind_ok] at q
        show out X.K XT W H α (((ev cl F b ε S1).bind fun y S2 => R.of S2 (ixD S2 x y)).bind fun d S1 => R.of S1 (truth S1 d)) _
        generalize ev cl F b ε S1 = r2 at q ⊢
        cases r2 with
        | bad => exact False.elim q
        | ex c as S2 => exact q
        | ok y S2 =>
          rw [R.bind_ok] at q
          show out X.K XT W H α ((R.of S2 (ixD S2 x y)).bind fun d S1 => R.of S1 (truth S1 d)) _
          generalize ixD S2 x y = oo at q ⊢
          cases oo with
          | none => exact False.elim q
          | some d => exact q
    · cases h
  | .sl a lo hi, X, top, sc, W, G, e, h => pt_badF fun _ _ => rfl
  | .call f es, X, top, sc, W, G, e, h => by
    have hv := sE (F := F) (.call f es) G e h
    have hp : plainT e = true := by
      unfold okE at h
      split at h
      · rfl
      · cases h
    refine PT.weak (t_val hv hp) fun σ H Q ⟨α, S, ε, hs, hl, q⟩ => ⟨α, S, ε, hs, hl, ?_⟩
    have q : out X.K XT W H α ((evL cl F es ε S).bind fun xs S1 => (cl f xs S1).bind fun d S2 => R.of S2 (truth S2 d)) _ := q
    show out X.K XT W H α (((evL cl F es ε S).bind fun xs S1 => cl f xs S1).bind fun d S2 => R.of S2 (truth S2 d)) _
    generalize evL cl F es ε S = r1 at q ⊢
    cases r1 with
    | bad => exact False.elim q
    | ex c as S1 => exact q
    | ok x S1 => exact q
  | .bi f es, X, top, sc, W, G, e, h => by
    have hv := sE (F := F) (.bi f es) G e h
    have hp : plainT e = true := by
      unfold okE at h
      split at h
      · rfl
      · cases h
    refine PT.weak (t_val hv hp) fun σ H Q ⟨α, S, ε, hs, hl, q⟩ => ⟨α, S, ε, hs, hl, ?_⟩
    have q : out X.K XT W H α ((evL cl F es ε S).bind fun xs S1 => (biD f xs S1).bind fun d S2 => R.of S2 (truth S2 d)) _ := q
    show out X.K XT W H α (((evL cl F es ε S).bind fun xs S1 => biD f xs S1).bind fun d S2 => R.of S2 (truth S2 d)) _
    generalize evL cl F es ε S = r1 at q ⊢
    cases r1 with
    | bad => exact False.elim q
    | ex c as S1 => exact q
    | ok x S1 => exact q
  | .mt m o es, X, top, sc, W, G, e, h => pt_badF fun _ _ => rfl
  | .lc g it own c el, X, top, sc, W, G, e, h => pt_badF fun _ _ => rfl
  | .isi t a, X, top, sc, W, G, e, h => by
    have hv := sE (F := F) (.isi t a) G e h
    have hp : plainT e = true := by
      unfold okE at h
      split at h
      · rfl
      · cases h
    refine PT.weak (t_val hv hp) fun σ H Q ⟨α, S, ε, hs, hl, q⟩ => ⟨α, S, ε, hs, hl, ?_⟩
    have q : out X.K XT W H α ((ev cl F a ε S).bind fun x S1 => .ok (isiD t x) S1) _ := q
    show out X.K XT W H α (((ev cl F a ε S).bind fun x S1 => .ok (.bl (isiD t x)) S1).bind fun d S2 => R.of S2 (truth S2 d)) _
    generalize ev cl F a ε S = r1 at q ⊢
    cases r1 with
    | bad => exact False.elim q
    | ex c as S1 => exact q
    | ok x S1 => exact q
  | .chn o p a b c, X, top, sc, W, G, e, h => by
    unfold okE at h
    split at h
    · simp only [Bool.and_eq_true, decide_eq_true_eq] at h
      obtain ⟨⟨⟨⟨⟨h1, h2⟩, h3⟩, h4⟩, h5⟩, h6⟩ := h
      subst h1 h2
      exact t_chn (opR_cm G.units o) (opR_cm G.units p) (sE a G _ h3) (sE b G _ h4) (sE c G _ h5) (nice_mark h6)
    · cases h
theorem sA {F : Nat} {k : Ck} {cl : Nat → List D → Sto → R D} {lv : Nat} {XT : XTy} : ∀ (l : E) {X : Cx} {top : Bool} {sc : Scope} {W : XK} (G : Gd k top sc cl lv X XT W) (es : List Expr) (pos : Pos), okA k sc l es = true → PE X (.BoolOp .And es pos) (tD X.K XT W (ev cl F l))
  | .and a b, X, top, sc, W, G, es, pos, h => by
    unfold okA at h
    split at h
    · rename_i x y rest
      simp only [Bool.and_eq_true] at h
      obtain ⟨h1, h2⟩ := h
      split at h2
      · exact d_and (sE a G _ h1) (pe_one (sE b G _ h2))
      · exact d_and (sE a G _ h1) (sA b G _ _ h2)
    · cases h
  | .var _, X, top, sc, W, G, es, pos, h | .cst _, X, top, sc, W, G, es, pos, h | .op _ _ _, X, top, sc, W, G, es, pos, h | .cmp _ _ _, X, top, sc, W, G, es, pos, h | .isN _, X, top, sc, W, G, es, pos, h | .isNN _, X, top, sc, W, G, es, pos, h
  | .neg _, X, top, sc, W, G, es, pos, h | .or _ _, X, top, sc, W, G, es, pos, h | .not _, X, top, sc, W, G, es, pos, h | .ite _ _ _, X, top, sc, W, G, es, pos, h | .tup _, X, top, sc, W, G, es, pos, h | .lst _, X, top, sc, W, G, es, pos, h
  | .ix _ _, X, top, sc, W, G, es, pos, h | .sl _ _ _, X, top, sc, W, G, es, pos, h | .call _ _, X, top, sc, W, G, es, pos, h | .bi _ _, X, top, sc, W, G, es, pos, h | .mt _ _ _, X, top, sc, W, G, es, pos, h | .lc _ _ _ _ _, X, top, sc, W, G, es, pos, h | .isi _ _, X, top, sc, W, G, es, pos, h | .chn _ _ _ _ _, X, top, sc, W, G, es, pos, h => absurd h (by unfold okA; exact Bool.false_ne_true)
theorem sO {F : Nat} {k : Ck} {cl : Nat → List D → Sto → R D} {lv : Nat} {XT : XTy} : ∀ (l : E) {X : Cx} {top : Bool} {sc : Scope} {W : XK} (G : Gd k top sc cl lv X XT W) (es : List Expr) (pos : Pos), okO k sc l es = true → PE X (.BoolOp .Or es pos) (tD X.K XT W (ev cl F l))
  | .or a b, X, top, sc, W, G, es, pos, h => by
    unfold okO at h
    split at h
    · rename_i x y rest
      simp only [Bool.and_eq_true] at h
      obtain ⟨h1, h2⟩ := h
      split at h2
      · exact d_or (sE a G _ h1) (pe_one (sE b G _ h2))
      · exact d_or (sE a G _ h1) (sO b G _ _ h2)
    · cases h
  | .var _, X, top, sc, W, G, es, pos, h | .cst _, X, top, sc, W, G, es, pos, h | .op _ _ _, X, top, sc, W, G, es, pos, h | .cmp _ _ _, X, top, sc, W, G, es, pos, h | .isN _, X, top, sc, W, G, es, pos, h | .isNN _, X, top, sc, W, G, es, pos, h
  | .neg _, X, top, sc, W, G, es, pos, h | .and _ _, X, top, sc, W, G, es, pos, h | .not _, X, top, sc, W, G, es, pos, h | .ite _ _ _, X, top, sc, W, G, es, pos, h | .tup _, X, top, sc, W, G, es, pos, h | .lst _, X, top, sc, W, G, es, pos, h
  | .ix _ _, X, top, sc, W, G, es, pos, h | .sl _ _ _, X, top, sc, W, G, es, pos, h | .call _ _, X, top, sc, W, G, es, pos, h | .bi _ _, X, top, sc, W, G, es, pos, h | .mt _ _ _, X, top, sc, W, G, es, pos, h | .lc _ _ _ _ _, X, top, sc, W, G, es, pos, h | .isi _ _, X, top, sc, W, G, es, pos, h | .chn _ _ _ _ _, X, top, sc, W, G, es, pos, h => absurd h (by unfold okO; exact Bool.false_ne_true)
theorem sWA {F : Nat} {k : Ck} {cl : Nat → List D → Sto → R D} {lv : Nat} {XT : XTy} : ∀ (l : E) {X : Cx} {top : Bool} {sc : Scope} {W : XK} (G : Gd k top sc cl lv X XT W) (es : List Expr) (pos : Pos), okA k sc l es = true → PW X (.BoolOp .And es pos) (tT X.K XT W (evT cl F l))
  | .and a b, X, top, sc, W, G, es, pos, h => by
    unfold okA at h
    split at h
    · rename_i x y rest
      simp only [Bool.and_eq_true] at h
      obtain ⟨h1, h2⟩ := h
      split at h2
      · exact w_and (sT a G _ h1) (pw_and1 (sT b G _ h2))
      · exact w_and (sT a G _ h1) (sWA b G _ _ h2)
    · cases h
  | .var _, X, top, sc, W, G, es, pos, h | .cst _, X, top, sc, W, G, es, pos, h | .op _ _ _, X, top, sc, W, G, es, pos, h | .cmp _ _ _, X, top, sc, W, G, es, pos, h | .isN _, X, top, sc, W, G, es, pos, h | .isNN _, X, top, sc, W, G, es, pos, h
  | .neg _, X, top, sc, W, G, es, pos, h | .or _ _, X, top, sc, W, G, es, pos, h | .not _, X, top, sc, W, G, es, pos, h | .ite _ _ _, X, top, sc, W, G, es, pos, h | .tup _, X, top, sc, W, G, es, pos, h | .lst _, X, top, sc, W, G, es, pos, h
  | .ix _ _, X, top, sc, W, G, es, pos, h | .sl _ _ _, X, top, sc, W, G, es, pos, h | .call _ _, X, top, sc, W, G, es, pos, h | .bi _ _, X, top, sc, W, G, es, pos, h | .mt _ _ _, X, top, sc, W, G, es, pos, h | .lc _ _ _ _ _, X, top, sc, W, G, es, pos, h | .isi _ _, X, top, sc, W, G, es, pos, h | .chn _ _ _ _ _, X, top, sc, W, G, es, pos, h => absurd h (by unfold okA; exact Bool.false_ne_true)
theorem sWO {F : Nat} {k : Ck} {cl : Nat → List D → Sto → R D} {lv : Nat} {XT : XTy} : ∀ (l : E) {X : Cx} {top : Bool} {sc : Scope} {W : XK} (G : Gd k top sc cl lv X XT W) (es : List Expr) (pos : Pos), okO k sc l es = true → PW X (.BoolOp .Or es pos) (tT X.K XT W (evT cl F l))
  | .or a b, X, top, sc, W, G, es, pos, h => by
    unfold okO at h
    split at h
    · rename_i x y rest
      simp only [Bool.and_eq_true] at h
      obtain ⟨h1, h2⟩ := h
      split at h2
      · exact w_or (sT a G _ h1) (pw_or1 (sT b G _ h2))
      · exact w_or (sT a G _ h1) (sWO b G _ _ h2)
    · cases h
  | .var _, X, top, sc, W, G, es, pos, h | .cst _, X, top, sc, W, G, es, pos, h | .op _ _ _, X, top, sc, W, G, es, pos, h | .cmp _ _ _, X, top, sc, W, G, es, pos, h | .isN _, X, top, sc, W, G, es, pos, h | .isNN _, X, top, sc, W, G, es, pos, h
  | .neg _, X, top, sc, W, G, es, pos, h | .and _ _, X, top, sc, W, G, es, pos, h | .not _, X, top, sc, W, G, es, pos, h | .ite _ _ _, X, top, sc, W, G, es, pos, h | .tup _, X, top, sc, W, G, es, pos, h | .lst _, X, top, sc, W, G, es, pos, h
  | .ix _ _, X, top, sc, W, G, es, pos, h | .sl _ _ _, X, top, sc, W, G, es, pos, h | .call _ _, X, top, sc, W, G, es, pos, h | .bi _ _, X, top, sc, W, G, es, pos, h | .mt _ _ _, X, top, sc, W, G, es, pos, h | .lc _ _ _ _ _, X, top, sc, W, G, es, pos, h | .isi _ _, X, top, sc, W, G, es, pos, h | .chn _ _ _ _ _, X, top, sc, W, G, es, pos, h => absurd h (by unfold okO; exact Bool.false_ne_true)
theorem sL {F : Nat} {k : Ck} {cl : Nat → List D → Sto → R D} {lv : Nat} {XT : XTy} : ∀ (l : EL) {X : Cx} {top : Bool} {sc : Scope} {W : XK} (G : Gd k top sc cl lv X XT W) (es : List Expr), okL k sc l es = true → es.all nice = true → PA X es (tA X.K XT W (evL cl F l))
  | .nil, X, top, sc, W, G, es, h, hn => by
    unfold okL at h
    split at h
    · exact a_nil
    · cases h
  | .cons a as, X, top, sc, W, G, es, h, hn => by
    unfold okL at h
    split at h
    · simp only [Bool.and_eq_true] at h
      rw [List.all_cons, Bool.and_eq_true] at hn
      exact a_cons (sE a G _ h.1) (sL as G _ h.2 hn.2) hn.1
    · cases h
theorem sP {F : Nat} {k : Ck} {cl : Nat → List D → Sto → R D} {lv : Nat} {XT : XTy} : ∀ (l : EO) {X : Cx} {top : Bool} {sc : Scope} {W : XK} (G : Gd k top sc cl lv X XT W) (o : Option Expr), okP k sc l o = true → PO X o (tP X.K XT W (evO cl F l))
  | .none, X, top, sc, W, G, o, h => by
    unfold okP at h
    split at h
    · exact o_none
    · cases h
  | .some a, X, top, sc, W, G, o, h => by
    unfold okP at h
    split at h
    · exact o_some (sE a G _ h)
    · cases h
theorem sC {F : Nat} {k : Ck} {cl : Nat → List D → Sto → R D} {lv : Nat} {XT : XTy} : ∀ (l : EO) {X : Cx} {top : Bool} {sc : Scope} {W : XK} (G : Gd k top sc cl lv X XT W) (es : List Expr), okC k sc l es = true → PTs X es (tT X.K XT W (evC cl F l))
  | .none, X, top, sc, W, G, es, h => by
    unfold okC at h
    split at h
    · exact ⟨fun pins s σ H Q I ⟨α, S, ε, hs, hl, q⟩ => pts_nil.run pins s σ H Q I (out.here (XT := XT) (E := W) (β := Bool) (b := true) q hs)⟩
    · cases h
  | .some a, X, top, sc, W, G, es, h => by
    unfold okC at h
    split at h
    · exact pts_one (sT a G _ h)
    · cases h
theorem sI {F : Nat} {k : Ck} {cl : Nat → List D → Sto → R D} {lv : Nat} {XT : XTy} : ∀ (l : It) {X : Cx} {top : Bool} {sc : Scope} {W : XK} (G : Gd k top sc cl lv X XT W) (tg e : Expr), okI k sc l tg e = true → PI X tg e (tI X.K XT W (evI cl F l))
  | .seq a, X, top, sc, W, G, tg, e, h => by
    unfold okI at h
    exact i_seq (sE a G _ h)
  | .rng es, X, top, sc, W, G, tg, e, h => by
    unfold okI at h
    split at h
    · rename_i x p args pos
      simp only [Bool.and_eq_true, decide_eq_true_eq] at h
      obtain ⟨⟨⟨⟨⟨h0, h1⟩, h2⟩, h3⟩, h4⟩, h5⟩ := h
      subst h0
      have hA := sL (F := F) es G _ h3 h4
      have hl := okL_len es _ h3
      have hz : ∀ ε S xs S', evL cl F es ε S = .ok xs S' → xs.length = args.length := fun ε S xs S' e => (evL_len es ε S xs S' e).trans hl
      have gl := (glB_ok G.sc h2).1
      match args, h4, h5, hA, hz with
      | [a], h4, _, hA, hz => exact i_rng1 gl (G.bl _ h1) hA (by simpa using h4) hz
      | [a, b], h4, _, hA, hz =>
        rw [List.all_cons, List.all_cons, Bool.and_eq_true, Bool.and_eq_true] at h4
        exact i_rng2 gl (G.bl _ h1) hA h4.1 h4.2.1 hz
      | [a, b, c], h4, _, hA, hz =>
        rw [List.all_cons, List.all_cons, List.all_cons, Bool.and_eq_true, Bool.and_eq_true, Bool.and_eq_true] at h4
        exact i_rng3 gl (G.bl _ h1) hA h4.1 h4.2.1 h4.2.2.1 hz
      | [], _, h5, _, _ => exact absurd h5.1 (by decide)
      | _ :: _ :: _ :: _ :: _, _, h5, _, _ => exact absurd h5.2 (by simp only [List.length_cons]; omega)
    · cases h
  | .enum a, X, top, sc, W, G, tg, e, h => by
    unfold okI at h
    split at h
    · simp only [Bool.and_eq_true, decide_eq_true_eq] at h
      obtain ⟨⟨⟨⟨h0, h1⟩, h2⟩, h3⟩, h4⟩ := h
      subst h0
      exact i_enum (glB_ok G.sc h2).1 (G.bl _ h1) (sE a G _ h3) h4
    · cases h
theorem sG {F : Nat} {k : Ck} {cl : Nat → List D → Sto → R D} {lv : Nat} {XT : XTy} : ∀ (l : Tg) {X : Cx} {top : Bool} {sc : Scope} {W : XK} (G : Gd k top sc cl lv X XT W) (e : Expr), okT k top sc l e = true → PG X e (tY X.K XT W (slots l) (asg cl F l))
  | .name i, X, top, sc, W, G, e, h => by
    unfold okT at h
    split at h
    · simp only [Bool.and_eq_true, decide_eq_true_eq] at h
      obtain ⟨g1, g2⟩ := locB_ok G h.2
      exact g_name G.nd (by rw [G.N]; exact h.1) g1 g2
    · cases h
  | .tup gs, X, top, sc, W, G, e, h => by
    unfold okT at h
    split at h
    · simp only [Bool.and_eq_true] at h
      exact g_tup G.calm (sGs gs G _ h.1 h.2) h.2 (okTs_len gs _ h.1)
    · cases h
  | .sub o i, X, top, sc, W, G, e, h => by
    unfold okT at h
    split at h
    · simp only [Bool.and_eq_true] at h
      exact g_sub (sE o G _ h.1.1) (sE i G _ h.1.2) h.2
    · cases h
theorem sGs {F : Nat} {k : Ck} {cl : Nat → List D → Sto → R D} {lv : Nat} {XT : XTy} : ∀ (l : TL) {X : Cx} {top : Bool} {sc : Scope} {W : XK} (G : Gd k top sc cl lv X XT W) (es : List Expr), okTs k top sc l es = true → es.all nstar = true → PGs X es (tYs X.K XT W (slotsL l) (asgL cl F l))
  | .nil, X, top, sc, W, G, es, h, hn => by
    unfold okTs at h
    split at h
    · exact gs_nil
    · cases h
  | .cons g gs, X, top, sc, W, G, es, h, hn => by
    unfold okTs at h
    split at h
    · simp only [Bool.and_eq_true] at h
      rw [List.all_cons, Bool.and_eq_true] at hn
      exact gs_cons (sG g G _ h.1) (sGs gs G _ h.2 hn.2) hn.1
    · cases h
end
end Mi

set_option maxRecDepth 100000
set_option maxHeartbeats 4000000
namespace Mi
open PySem PySem.Spec PyProof.Rows L2
/-- what an assignment of a pair to a pair of names stores from the right -/
def nmOf (sc : Scope) (line : Nat) : Expr → Option Str
  | .Name id pos => if sc.names.lookup id == some .local && pos.line == line then some id else none
  | _ => none
def swNames (sc : Scope) (line : Nat) (ts : List Expr) : List Str := ts.filterMap (nmOf sc line)
def isStar : Expr → Bool
  | .Starred .. => true
  | _ => false
def swV (sc : Scope) (ts vs : List Expr) : Option (List Str) :=
  if !(ts.length == 2 || ts.length == 3) || vs.length != ts.length then none
  else if vs.any isStar then none
  else
    let names := swNames sc ((ts.head?.map (·.pos.line)).getD 0) ts
    if names.length != ts.length || names.eraseDups.length != names.length then none
    else if vs.all (foldedForSure 8) then none
    else some names
theorem swV_ok {env : PySem.Env} {ts vs : List Expr} {k1 k2 : Nat} {p1 p2 : Pos} (hk : env.scope.kind = .function) (hc : (swV env.scope ts vs).isSome = true → vs.all (constantsAlone 8) = false) :
    swappedStores [.Tuple ts k1 p1] (.Tuple vs k2 p2) env = pure (swV env.scope ts vs) := by
  have hb : env.blockKind = .function := by unfold PySem.Env.blockKind; rw [hk]; rfl
  have hq : (env.blockKind != .function) = false := by rw [hb]; rfl
  unfold swappedStores
  unfold swV at hc ⊢
  simp only [hq, Bool.or_false]
  have hn : ∀ f : Expr → Option Str, (∀ e, f e = nmOf env.scope ((ts.head?.map (·.pos.line)).getD 0) e) → ts.filterMap f = swNames env.scope ((ts.head?.map (·.pos.line)).getD 0) ts := fun f h => by
    unfold swNames
    rw [show f = nmOf env.scope ((ts.head?.map (·.pos.line)).getD 0) from funext h]
  split
  · rfl
  · rename_i h1
    rw [if_neg h1] at hc
    split
    · rename_i h2
      have h2 : vs.any isStar = true := h2
      rw [if_pos h2]
    · rename_i h2
      have h2 : ¬ vs.any isStar = true := h2
      rw [if_neg h2] at hc ⊢
      rw [hn _ (fun e => by cases e <;> rfl)]
      split
      · rfl
      · rename_i h3
        simp only [if_neg h3] at hc ⊢
        split
        · rename_i h4
          rfl
        · rename_i h4
          simp only [if_neg h4] at hc ⊢
          rw [if_neg (by rw [hc rfl]; exact Bool.false_ne_true)]
def isTup : Expr → Bool
  | .Tuple .. => true
  | _ => false
/-- nothing is swapped -/
def swNo (sc : Scope) (tg v : Expr) : Bool := match tg, v with
  | .Tuple ts _ _, .Tuple vs _ _ => (swV sc ts vs).isNone
  | .Tuple _ _ _, _ => true
  | .Name _ _, _ => true
  | .Subscript _ _ _, _ => true
  | _, _ => false
theorem swNo_ok {env : PySem.Env} {tg v : Expr} (hk : env.scope.kind = .function) (h : swNo env.scope tg v = true) : swappedStores [tg] v env = pure none := by
  unfold swNo at h
  split at h
  · rw [Option.isNone_iff_eq_none] at h
    rw [swV_ok hk (by rw [h]; exact fun z => absurd z (by decide)), h]
  · rename_i n
    cases v <;> first | rfl | exact absurd rfl (n _ _ _)
  · rfl
  · rfl
  · cases h
/-- name = [..]: is the comprehension's list stored by the comprehension itself? -/
def swC (sc : Scope) (tg v : Expr) : Bool := match tg, v with
  | .Name y py, .ListComp _ _ scope pos => (sc.names.lookup y == some .local) && (py.line == pos.line) && !(scope.names.any fun (n, k) => n == y && (k == .local || k == .cell))
  | _, _ => false
def isName : Expr → Bool
  | .Name .. => true
  | _ => false
theorem swC_no {env : PySem.Env} {tg v : Expr} {l : Nat} (hk : env.scope.kind = .function) (hn : isName tg = true) (hv : nice v = true) (h : swC env.scope tg v = false) : swapsWith v (some tg) l env = pure false := by
  have hb : env.blockKind = .function := by unfold PySem.Env.blockKind; rw [hk]; rfl
  cases tg with
  | Name y py =>
    cases v with
    | ListComp elt gs scope pos =>
      have h : ((env.scope.names.lookup y == some .local) && (py.line == pos.line) && !(scope.names.any fun (n, k) => n == y && (k == .local || k == .cell))) = false := h
      have hx : (env.blockKind == .function && env.kindOf y == some .local && py.line == pos.line && !(scope.names.any fun (n, k) => n == y && (k == .local || k == .cell))) = false := by
        rw [hb]
        show (true && (env.scope.names.lookup y == some .local) && py.line == pos.line && _) = false
        rw [Bool.true_and]
        exact h
      unfold swapsWith
      simp only [Expr.pos]
      rw [hx]
    | _ => first | rfl | exact absurd hv Bool.false_ne_true
  | _ => exact absurd hn Bool.false_ne_true
section
variable (k : Ck)
def asgOk (sc : Scope) (g : Tg) (e : E) (st : Stmt) : Bool := match st with
  | .Assign [tg] v _ => okT k true sc g tg && okE k sc e v && nice v && nstar tg && swNo sc tg v && (nlc v || isName tg)
  | _ => false
def tryA : C → Option (Tg × E)
  | .seq (.asg g e) .skip => some (g, e)
  | _ => none
mutual
def okS (sc : Scope) : C → Stmt → Bool
  | .skip, st => match st with
    | .Pass _ => true
    | _ => false
  | .seq _ _, _ => false
  | .asg g e, st => asgOk k sc g e st
  | .par i j a b, st => match st with
    | .Assign [.Tuple [.Name x px, .Name y py] _ _] (.Tuple [u, v] _ _) _ => decide (k.N[i]? = some x) && decide (k.N[j]? = some y) && decide (i ≠ j) && (sc.names.lookup x == some .local) && (sc.names.lookup y == some .local) &&
        okE k sc a u && okE k sc b v && nice u && nice v && decide (swV sc [.Name x px, .Name y py] [u, v] = some [x, y]) && !([u, v].all (constantsAlone 8))
    | _ => false
  | .expr e, st => match st with
    | .Expr v _ => okE k sc e v && nice v && nlc v
    | _ => false
  | .ret e, st => match st with
    | .Return (some v) _ => okE k sc e v
    | .Return none _ => (match e with | .cst .non => true | _ => false)
    | _ => false
  | .iff c a b, st => match st with
    | .If t x y _ => okE k sc c t && okSs sc a x && okSs sc b y
    | _ => false
  | .for_ g it b, st => match st with
    | .For tg iter body [] _ => okT k true sc g tg && okI k sc it tg iter && nice iter && okSs sc b body
    | _ => false
  | .whl c b, st => match st with
    | .While t body [] _ => okE k sc c t && okSs sc b body
    | _ => false
  | .rse c a, st => match st with
    | .Raise (some (.Call (.Name x _) [e] [] _)) none _ => decide (k.ec[c]? = some x) && glB sc x && okE k sc a e && nice e
    | _ => false
  | .tryP c i j m b, st => match tryA b, st with
    | some (g, e), .Try [st1] [.ExceptHandler (some (.Name x _)) (some en) [.Assign [.Name y _] (.Attribute (.Name z _) f _) _] _] [] [] _ => decide (k.ec[c]? = some x) && glB sc x && decide (z = en) && decide (f = ("path" : Str)) && decide (k.N[i]? = some y) && decide (k.N[j]? = some en) &&
        decide (sc.names.lookup y = some .local) && decide (sc.names.lookup en = some .local) && !(en == ("__debug__" : Str)) && !(en == ("__classdict__" : Str)) && decide (m = k.N.length) && asgOk k sc g e st1
    | _, _ => false
  | .brk, st => match st with
    | .Break _ => true
    | _ => false
  | .cont, st => match st with
    | .Continue _ => true
    | _ => false
def okSs (sc : Scope) : C → List Stmt → Bool
  | .skip, sts => match sts with
    | [] => true
    | _ => false
  | .seq a b, sts => match sts with
    | st :: rest => okS sc a st && okSs sc b rest
    | _ => false
  | _, _ => false
end
end
theorem lc_set {F : Nat} {k : Ck} {cl : Nat → List D → Sto → R D} {lv : Nat} {XT : XTy} {X : Cx} {sc : Scope} {W : XK} (G : Gd k true sc cl lv X XT W) (hk : X.env.scope.kind = .function) {g : Tg} {l : E} {tg v : Expr} {pos : Pos} (h1 : okT k true sc g tg = true) (h2 : okE k sc l v = true) (hn : isName tg = true)
    (hs : swC sc tg v = true) : PS X (.Assign [tg] v pos) (tS X.K XT W (xc cl F (.asg g l))) := by
  cases tg with
  | Name y py =>
    cases v with
    | ListComp elt gs scope ps =>
      cases l with
      | lc g' it own c el =>
        unfold okE at h2
        split at h2
        · rename_i e0 elt' tg' iter ifs asy scope' pos' heq
          cases heq
          simp only [Bool.and_eq_true, decide_eq_true_eq] at h2
          obtain ⟨⟨⟨⟨⟨⟨⟨⟨h0, k1⟩, k2⟩, k3⟩, k4⟩, k5⟩, k6⟩, k7⟩, k8⟩ := h2
          subst h0
          have ok := blkOk_by k6
          rw [← G.sc, ← G.N] at ok
          have Gb : ∀ (s : Shared) (H : Hp) (C : Addr) (cs : List (Str × Addr)) (fp : List Addr), Gd k false (relS scope sc) cl lv (X.blk s H scope (compEnvC scope cs C X.env) fp) XT (fun _ _ _ => False) := fun s H C cs fp =>
            ⟨G.N, G.nd, by rw [← G.sc]; rfl, G.calm, G.room, G.quiet, passL, G.bl, G.gs, G.fs, fun z => absurd z Bool.false_ne_true⟩
          have q1 : ∀ (s : Shared) (H : Hp) (C : Addr) (cs : List (Str × Addr)) (fp : List Addr), PG (X.blk s H scope (compEnvC scope cs C X.env) fp) tg' (tY X.K XT (fun _ _ _ => False) (slots g') (asg cl F g')) := fun s H C cs fp => sG g' (Gb s H C cs fp) tg' k3
          have q2 : ∀ (s : Shared) (H : Hp) (C : Addr) (cs : List (Str × Addr)) (fp : List Addr), PTs (X.blk s H scope (compEnvC scope cs C X.env) fp) ifs (tT X.K XT (fun _ _ _ => False) (evC cl F c)) := fun s H C cs fp => sC c (Gb s H C cs fp) ifs k4
          have q3 : ∀ (s : Shared) (H : Hp) (C : Addr) (cs : List (Str × Addr)) (fp : List Addr), PE (X.blk s H scope (compEnvC scope cs C X.env) fp) elt (tD X.K XT (fun _ _ _ => False) (ev cl F el)) := fun s H C cs fp => sE el (Gb s H C cs fp) elt k5
          cases g with
          | name i =>
            have h1 : (decide (k.N[i]? = some y) && locB true sc y) = true := h1
            simp only [Bool.and_eq_true, decide_eq_true_eq] at h1
            unfold swC at hs
            simp only [Bool.and_eq_true, Bool.not_eq_true', beq_iff_eq] at hs
            obtain ⟨⟨s1, s2⟩, s3⟩ := hs
            have hy : X.env.scope.names.lookup y = some .local := by rw [G.sc]; exact s1
            have lc := ps_setLc (pos := ps) (spos := pos) (py := py) G.calm G.nd (by rw [G.N]; exact h1.1) hy (sw_true (l := pos.line) hk hy (by rw [s2]; exact beq_self_eq_true _) s3) (sI (F := F) it G tg' iter k1) ok q1 q2 q3 (fun x => nice_fold k2 X.env x)
            rw [G.N, k7] at lc
            refine PS.weak lc fun D' σ H ⟨α, S, ε, hs', hl, q⟩ => ?_
            have q : out X.K XT W H α ((ev cl F (.lc g' it own c el) ε S).bind fun d S1 => (asg cl F (.name i) (.one d) ε S1).bind fun ε1 S2 => .ok (.nx, ε1) S2) (kS X.K D') := q
            refine lc_of (fun t ht => of_decide_eq_true (List.all_eq_true.mp k8 t ht)) ⟨α, S, ε, hs', hl, (out.bind q).imp fun d S1 H1 α1 g1 s1 q1 v dv => ?_⟩
            have q1 : out X.K XT W H1 α1 (R.ok (Ct.nx, ε.set i (some d)) S1) (kS X.K D') := q1
            exact out.here q1 s1 _ ((hl.mono hs' g1).set i dv)
          | tup _ => cases h1
          | sub _ _ => cases h1
        · cases h2
      | _ => exact absurd h2 (by unfold okE; first | exact Bool.false_ne_true | (unfold cstB; exact Bool.false_ne_true))
    | _ => exact absurd hs Bool.false_ne_true
  | _ => exact absurd hn Bool.false_ne_true

/-- what raise and try want of the place -/
structure Ge (k : Ck) (cs : Nat → Option Addr) (lv : Nat) (X : Cx) (W : XK) : Prop where
  kind : X.env.scope.kind = .function
  own : PassesOwn (model X.prog X.w) X.A X.env X.xe
  tk : Takes X (fun cls d _ H => W cls d H)
  stk : X.stack = X.env :: X.outer
  frm : X.env.frame = some X.env.locals
  two : 2 ≤ lv
  ec : ∀ (c : Nat) nm, k.ec[c]? = some nm → ∃ C, cs c = some C ∧ ∃ fI fd, ErrC X.K X.mg nm C fI ∧ XfC X.K C ∧ PySem.W.exmOne X.K (.ref C) (.ref C) = some true ∧ Binds X.K fd NI [] ∧ FnG X.prog X.w X.K X.mg X.base (L2.CX X.prog X.w) 1 fI fd NI (spI X.K C)
theorem s_asg0 {F : Nat} {k : Ck} {cl : Nat → List D → Sto → R D} {lv : Nat} {XT : XTy} {X : Cx} {sc : Scope} {W : XK} (G : Gd k true sc cl lv X XT W) (hk : X.env.scope.kind = .function) (g : Tg) (e : E) (st : Stmt) (h : asgOk k sc g e st = true) : PS X st (tS X.K XT W (xc cl F (.asg g e))) := by
  unfold asgOk at h
  split at h
  · rename_i tg v pos
    simp only [Bool.and_eq_true, Bool.or_eq_true] at h
    obtain ⟨⟨⟨⟨⟨h1, h2⟩, h3⟩, h4⟩, h5⟩, h6⟩ := h
    rw [← G.sc] at h5
    cases hw : swC sc tg v with
    | true =>
      have hn : isName tg = true := by
        unfold swC at hw
        split at hw
        · rfl
        · cases hw
      exact lc_set G hk h1 h2 hn hw
    | false =>
      have hs : ∀ l, swapsWith v (some tg) l X.env = pure false := fun l => by
        rcases h6 with h6 | h6
        · exact nice_swap h3 h6 _ _ _
        · exact swC_no hk h6 h3 (by rw [G.sc]; exact hw)
      exact PS.weak (ps_asg (sE e G v h2) (sG (F := F) g G tg h1) (hs _) (swNo_ok hk h5) (by rw [nstar_ok h4]; rfl)) fun _ _ _ q => tAsg_of q
  · cases h
mutual
theorem sS {F : Nat} {k : Ck} {cl : Nat → List D → Sto → R D} {lv : Nat} {cs : Nat → Option Addr} {X : Cx} {sc : Scope} {W : XK} (G : Gd k true sc cl lv X (xtC X.K cs) W) (T : Ge k cs lv X W) : ∀ (l : C) (st : Stmt), okS k sc l st = true → PS X st (tS X.K (xtC X.K cs) W (xc cl F l))
  | .skip, st, h => by
    unfold okS at h
    split at h
    · exact s_pass
    · cases h
  | .seq _ _, st, h => by
    unfold okS at h
    cases h
  | .asg g e, st, h => s_asg0 G T.kind g e st (by unfold okS at h; exact h)
  | .par i j a b, st, h => by
    unfold okS at h
    split at h
    · simp only [Bool.and_eq_true, decide_eq_true_eq, beq_iff_eq, Bool.not_eq_true'] at h
      obtain ⟨⟨⟨⟨⟨⟨⟨⟨⟨⟨h1, h2⟩, h3⟩, h4⟩, h5⟩, h6⟩, h7⟩, h8⟩, h9⟩, h10⟩, h11⟩ := h
      refine s_par G.calm G.nd (by rw [G.N]; exact h1) (by rw [G.N]; exact h2) h3 (by rw [G.sc]; exact h4) (by rw [G.sc]; exact h5) (sE a G _ h6) (sE b G _ h7) h8 h9 ?_
      rw [swV_ok T.kind fun _ => h11, G.sc, h10]
    · cases h
  | .expr e, st, h => by
    unfold okS at h
    split at h
    · simp only [Bool.and_eq_true] at h
      exact s_expr (sE e G _ h.1.1) h.1.2 h.2
    · cases h
  | .ret e, st, h => by
    unfold okS at h
    split at h
    · exact s_ret (sE e G _ h)
    · split at h
      · exact s_retN
      · cases h
    · cases h
  | .iff c a b, st, h => by
    unfold okS at h
    split at h
    · simp only [Bool.and_eq_true] at h
      exact s_if (sT c G _ h.1.1) (sSs G T a _ h.1.2) (sSs G T b _ h.2)
    · cases h
  | .for_ g it b, st, h => by
    unfold okS at h
    split at h
    · simp only [Bool.and_eq_true] at h
      exact s_for T.own G.calm (sI it G _ _ h.1.1.2) (sG g G _ h.1.1.1) (sSs G T b _ h.2) h.1.2
    · cases h
  | .whl c b, st, h => by
    unfold okS at h
    split at h
    · simp only [Bool.and_eq_true] at h
      exact s_while T.own (sT c G _ h.1) (sSs G T b _ h.2)
    · cases h
  | .rse c a, st, h => by
    unfold okS at h
    split at h
    · simp only [Bool.and_eq_true, decide_eq_true_eq] at h
      obtain ⟨⟨⟨h1, h2⟩, h3⟩, h4⟩ := h
      obtain ⟨C, hcs, fI, fd, ER, xf, ex, bs, FG⟩ := T.ec _ _ h1
      obtain ⟨g1, g2⟩ := glB_ok G.sc h2
      exact s_rse ER FG (G.room.mono T.two) G.quiet bs g1 T.tk G.calm hcs (sE a G _ h3) h4 g2
    · cases h
  | .tryP c i j m b, st, h => by
    unfold okS at h
    split at h
    · rename_i g e st1 x np en y p1 z p2 f p3 p4 pos' pos heq
      simp only [Bool.and_eq_true, decide_eq_true_eq, Bool.not_eq_true'] at h
      obtain ⟨⟨⟨⟨⟨⟨⟨⟨⟨⟨⟨h1, h2⟩, h3⟩, h4⟩, h5⟩, h6⟩, h7⟩, h8⟩, h9⟩, h10⟩, h11⟩, h12⟩ := h
      subst h3 h4 h11
      obtain ⟨C, hcs, fI, fd, ER, xf, ex, bs, FG⟩ := T.ec _ _ h1
      obtain ⟨g1, g2⟩ := glB_ok G.sc h2
      have hb : b = .seq (.asg g e) .skip := by
        unfold tryA at heq
        split at heq
        · cases heq; rfl
        · cases heq
      subst hb
      rw [← G.N] at h5 h6 ⊢
      rw [← G.sc] at h7 h8
      exact s_try (W := W) ER xf ex T.stk T.frm G.nd h5 h6 h7 h8 hcs g1 g2 h9 h10 fun W' pn xe tk ps => by
        have G2 : Gd k true sc cl lv (X.tr pn xe) (xtC X.K cs) W' := { N := G.N, nd := G.nd, sc := G.sc, calm := G.calm, room := G.room, quiet := G.quiet, pass := passes_call tk (fun _ _ _ _ q => q), bl := G.bl, gs := G.gs, fs := G.fs, fn := G.fn }
        exact s_cons (s_asg0 (F := F) G2 T.kind g e st1 h12) s_nil
    · cases h
  | .brk, st, h => by
    unfold okS at h
    split at h
    · exact s_brk
    · cases h
  | .cont, st, h => by
    unfold okS at h
    split at h
    · exact s_cont
    · cases h
theorem sSs {F : Nat} {k : Ck} {cl : Nat → List D → Sto → R D} {lv : Nat} {cs : Nat → Option Addr} {X : Cx} {sc : Scope} {W : XK} (G : Gd k true sc cl lv X (xtC X.K cs) W) (T : Ge k cs lv X W) : ∀ (l : C) (sts : List Stmt), okSs k sc l sts = true → PSs X sts (tS X.K (xtC X.K cs) W (xc cl F l))
  | .skip, sts, h => by
    unfold okSs at h
    split at h
    · exact s_nil
    · cases h
  | .seq a b, sts, h => by
    unfold okSs at h
    split at h
    · simp only [Bool.and_eq_true] at h
      exact s_cons (sS G T a _ h.1) (sSs G T b _ h.2)
    · cases h
  | .asg _ _, _, h | .par _ _ _ _, _, h | .expr _, _, h | .ret _, _, h | .iff _ _ _, _, h | .for_ _ _ _, _, h | .whl _ _, _, h | .brk, _, h | .cont, _, h => absurd h (by unfold okSs; exact Bool.false_ne_true)
end

/-! ## defs and programs -/
/-- one def of the text and its small program -/
structure DefIs (K : PySem.W.Frag) (mg : Str → Option Value) (bl : List Str) (gs : List (Str × D)) (fs : List (Str × Nat)) (ec : List Str) (d : Df) (a : Addr) (fd : FuncData) : Prop where
  m : mg d.name = some (.ref a)
  kp : PySem.W.keepIn K (.ref a) = true
  fn : ∃ st qual, Fun K d.name qual st a fd ∧ FnScope d.N d.ps (defScope st) ∧ Binds K fd d.ps [] ∧ okSs ⟨d.N, bl, gs, fs, ec⟩ (defScope st) d.body (defBody st) = true
def XT0 : XTy := fun _ _ _ _ _ _ => False
section
variable {P : Program} {w : World} {K : PySem.W.Frag} {mg : Str → Option Value} {base : Heap} {XT : XTy} {bl : List Str} {gs : List (Str × D)} {defs : List Df} {F : Nat}
theorem spD_len {n : Nat} {f : List D → Sto → R D} {vs : List V} {H : Hp} {Q : VK} {W : XK} (h : spD K XT n f vs H Q W) : vs.length = n := by
  obtain ⟨α, S, ds, _, hd, hl, _⟩ := h
  rw [← hd.length]
  exact hl
theorem call_len {lv f : Nat} {d : Df} (hd : defs[f]? = some d) (ds : List D) (S : Sto) (h : ds.length ≠ d.ps.length) : call defs F lv f ds S = .bad := by
  cases lv with
  | zero => rfl
  | succ lv =>
    unfold call
    rw [hd]
    simp only [if_neg h]
/-- an own exception class of the program -/
def ErrIs (K : PySem.W.Frag) (mg : Str → Option Value) (nm : Str) (C : Addr) : Prop := ∃ fI fd, ErrC K mg nm C fI ∧ XfC K C ∧ PySem.W.exmOne K (.ref C) (.ref C) = some true ∧ Binds K fd NI [] ∧ ∀ (P : Program) (w : World) (base : Heap), FnG P w K mg base (L2.CX P w) 1 fI fd NI (spI K C)
theorem prog_ok {ec : List Str} {cs : Nat → Option Addr} (hbl : ∀ x ∈ bl, mg x = none) (hgs : ∀ x d, gs.lookup x = some d → GlIs K mg x d) (hdf : ∀ (f : Nat) d, defs[f]? = some d → ∃ a fd, DefIs K mg bl gs (defs.map fun d => (d.name, d.ps.length)) ec d a fd)
    (hec : ∀ (c : Nat) nm, ec[c]? = some nm → ∃ C, cs c = some C ∧ ErrIs K mg nm C) :
    ∀ (lv : Nat) (f : Nat) (d : Df) (a : Addr) (fd : FuncData), defs[f]? = some d → DefIs K mg bl gs (defs.map fun d => (d.name, d.ps.length)) ec d a fd →
      FnG P w K mg base (L2.CX P w) (lv + 2) a fd d.ps (spD K (xtC K cs) d.ps.length (call defs F lv f))
  | 0, f, d, a, fd, hd, D1 => by
    have no : ∀ vs H Q W, ¬ spD K (xtC K cs) d.ps.length (call defs F 0 f) vs H Q W := fun vs H Q W ⟨_, _, _, _, _, _, q⟩ => False.elim q
    exact ⟨fun vs H Q W h => absurd h (no vs H Q W), fun A _ _ outer s H _ args us vs _ _ Q W h => absurd h (no vs H Q W)⟩
  | lv + 1, f, d, a, fd, hd, D1 => by
    obtain ⟨st, qual, F1, S1, b1, ok⟩ := D1.fn
    refine Mi.Fun.okG F1 S1 (fun vs H Q W h => spD_len h) fun cdv A outer s H vs Q W qt hr h => ?_
    have tk : Takes (cxOf (L2.CX P w) P w K mg base d.N qual (defScope st) a cdv A outer s H W) (fun cls d _ H => W cls d H) := takes_of rfl rfl rfl rfl
    have G : Gd ⟨d.N, bl, gs, defs.map fun d => (d.name, d.ps.length), ec⟩ true (defScope st) (call defs F lv) (lv + 2) (cxOf (L2.CX P w) P w K mg base d.N qual (defScope st) a cdv A outer s H W) (xtC K cs) W :=
      { N := rfl, nd := S1.nd, sc := rfl, calm := rfl, room := hr, quiet := qt, pass := passes_call tk fun _ _ _ _ q => q, bl := hbl, gs := hgs
        fs := fun g x n hg => by
          rw [List.getElem?_map] at hg
          obtain ⟨d', hd', e⟩ := map_some_inv hg
          obtain ⟨rfl, rfl⟩ := Prod.mk.inj e
          obtain ⟨a', fd', D2⟩ := hdf g d' hd'
          obtain ⟨_, _, _, _, b2, _⟩ := D2.fn
          exact ⟨a', fd', d'.ps, D2.m, D2.kp, b2, prog_ok hbl hgs hdf hec lv g d' a' fd' hd' D2, fun ds S hz => call_len hd' ds S hz⟩
        fn := fun _ _ => rfl }
    have T : Ge ⟨d.N, bl, gs, defs.map fun d => (d.name, d.ps.length), ec⟩ cs (lv + 2) (cxOf (L2.CX P w) P w K mg base d.N qual (defScope st) a cdv A outer s H W) W :=
      { kind := S1.kind, own := passes_of rfl, tk := tk, stk := rfl, frm := rfl, two := Nat.le_add_left 2 lv
        ec := fun c nm hc => by
          obtain ⟨C, h1, fI, fdI, h2, h3, h4, h5, h6⟩ := hec c nm hc
          exact ⟨C, h1, fI, fdI, h2, h3, h4, h5, h6 P w base⟩ }
    refine ⟨_, sSs (F := F) G T d.body _ ok, ?_⟩
    obtain ⟨α, S, ds, hs, hds, hl, q⟩ := h
    refine ⟨α, S, ds.map some ++ List.replicate (d.N.length - ds.length) none, hs, hds.ofSome _, ?_⟩
    unfold call at q
    rw [hd] at q
    simp only [if_pos hl] at q
    refine q.bind.imp fun r S1 H1 α1 g1 s1 q1 => ?_
    obtain ⟨ct, ε1⟩ := r
    cases ct with
    | nx => exact fun σ' _ => out.here (XT := xtC K cs) (E := W) (b := D.non) q1 s1 _ .non
    | rt v => exact fun u du => out.here (XT := xtC K cs) (E := W) (b := v) q1 s1 u du
    | bk => exact False.elim q1
    | ct => exact False.elim q1
end
/-! ## the end of a law -/
theorem dvs_ints {K : PySem.W.Frag} {H : Hp} {α : List Addr} : ∀ ns : List Int, DVs K H α (ns.map D.int) (ns.map V.int)
  | [] => .nil
  | n :: ns => .cons (.int n) (dvs_ints ns)
end Mi

set_option maxRecDepth 100000
namespace Mi
open PySem PySem.Spec PyProof.Rows L2
/-! ## a law by pieces: between two statements what is no longer wanted is forgotten -/
mutual
/-- the same thing, the kept lists by their new places -/
inductive Up (is : List Nat) : D → D → Prop
  | non : Up is .non .non
  | bl (b : Bool) : Up is (.bl b) (.bl b)
  | int (i : Int) : Up is (.int i) (.int i)
  | str (x : Str) : Up is (.str x) (.str x)
  | tup {ds es : List D} : Ups is ds es → Up is (.tup ds) (.tup es)
  | rol {ds es : List D} : Ups is ds es → Up is (.rol ds) (.rol es)
  | ref {n m : Nat} : is[n]? = some m → Up is (.ref n) (.ref m)
inductive Ups (is : List Nat) : List D → List D → Prop
  | nil : Ups is [] []
  | cons {d e : D} {ds es : List D} : Up is d e → Ups is ds es → Ups is (d :: ds) (e :: es)
end
mutual
theorem Up.dv {K : PySem.W.Frag} {H : Hp} {α β : List Addr} {is : List Nat} (k : ∀ (n m : Nat) a, is[n]? = some m → α[m]? = some a → β[n]? = some a) : ∀ {d e : D} {v : V}, Up is d e → DV K H α e v → DV K H β d v
  | _, _, _, .non, h => by cases h; exact .non
  | _, _, _, .bl b, h => by cases h; exact .bl b
  | _, _, _, .int i, h => by cases h; exact .int i
  | _, _, _, .str x, h => by cases h; exact .str x
  | _, _, _, .tup u, h => by
    cases h with
    | tup h1 h2 => exact .tup h1 (Ups.dv k u h2)
  | _, _, _, .rol u, h => by
    cases h with
    | rol h1 h2 => exact .rol h1 (Ups.dv k u h2)
  | _, _, _, .ref q, h => by
    cases h with
    | ref h1 => exact .ref (k _ _ _ q h1)
theorem Ups.dv {K : PySem.W.Frag} {H : Hp} {α β : List Addr} {is : List Nat} (k : ∀ (n m : Nat) a, is[n]? = some m → α[m]? = some a → β[n]? = some a) : ∀ {ds es : List D} {vs : List V}, Ups is ds es → DVs K H α es vs → DVs K H β ds vs
  | _, _, _, .nil, h => by cases h; exact .nil
  | _, _, _, .cons u us, h => by
    cases h with
    | cons h1 h2 => exact .cons (Up.dv k u h1) (Ups.dv k us h2)
end
structure Reb (is : List Nat) (ε : Sl) (S : Sto) (ε' : Sl) (S' : Sto) : Prop where
  nd : is.Nodup
  len : is.length = S'.length
  ok : ∀ (n m : Nat), is[n]? = some m → ∃ xs es, S'[n]? = some (.lst xs) ∧ S[m]? = some (.lst es) ∧ Ups is xs es
  el : ε'.length = ε.length
  eo : ∀ (i : Nat) d, ε'[i]? = some (some d) → ∃ e, ε[i]? = some (some e) ∧ Up is d e
theorem Reb.to {K : PySem.W.Frag} {H : Hp} {α : List Addr} {is : List Nat} {ε ε' : Sl} {S S' : Sto} {σ : L2.St} (r : Reb is ε S ε' S') (s : SR K H α S) (l : SL K H α ε σ) : ∃ β, SR K H β S' ∧ SL K H β ε' σ := by
  have at1 : ∀ (n m : Nat), is[n]? = some m → ∃ a, α[m]? = some a := fun n m q => by
    obtain ⟨xs, es, _, h, _⟩ := r.ok n m q
    obtain ⟨a, h, _⟩ := s.ok m _ h
    exact ⟨a, h⟩
  have k : ∀ (n m : Nat) a, is[n]? = some m → α[m]? = some a → (is.map fun m => (α[m]?).getD default)[n]? = some a := fun n m a q h => by
    rw [List.getElem?_map, q]
    show some ((α[m]?).getD default) = some a
    rw [h]; rfl
  refine ⟨is.map fun m => (α[m]?).getD default, ⟨by rw [List.length_map]; exact r.len, ?_, fun n o ho => ?_⟩, ⟨by rw [r.el]; exact l.len, fun i d hd => ?_⟩⟩
  · refine List.pairwise_map.mpr (List.Pairwise.imp_of_mem (fun {x y} hx hy ne e => ne ?_) r.nd)
    obtain ⟨n, hn⟩ := List.getElem?_of_mem hx
    obtain ⟨n', hn'⟩ := List.getElem?_of_mem hy
    obtain ⟨a, ha⟩ := at1 n x hn
    obtain ⟨b, hb⟩ := at1 n' y hn'
    rw [ha, hb] at e
    have e : a = b := e
    subst e
    exact nd_at s.nd ha hb
  · have hl : n < is.length := by rw [r.len]; exact (List.getElem?_eq_some_iff.mp ho).1
    obtain ⟨xs, es, h1, h2, h3⟩ := r.ok n is[n] (List.getElem?_eq_getElem hl)
    rw [ho] at h1
    cases h1
    obtain ⟨a, ha, ws, hw, dv⟩ := s.ok _ _ h2
    exact ⟨a, k n _ a (List.getElem?_eq_getElem hl) ha, ws, hw, Ups.dv k h3 dv⟩
  · obtain ⟨e, he, u⟩ := r.eo i d hd
    obtain ⟨v, hv, dv⟩ := l.at_ i e he
    exact ⟨v, hv, u.dv k dv⟩
/-- the rest of a law's body ends with True -/
def Good (cl : Nat → List D → Sto → R D) (F : Nat) : C → Sl → Sto → Prop
  | .seq a b, ε, S => (∃ ε1 S1, xc cl F a ε S = .ok (.rt (.bl true), ε1) S1) ∨ ∃ ε1 S1, xc cl F a ε S = .ok (.nx, ε1) S1 ∧ (Good cl F b ε1 S1 ∨ ∃ is ε2 S2, Reb is ε1 S1 ε2 S2 ∧ Good cl F b ε2 S2)
  | _, _, _ => False
def tGood (K : PySem.W.Frag) (cl : Nat → List D → Sto → R D) (F : Nat) (c : C) : TS := fun D' σ H => ∃ α S ε, SR K H α S ∧ SL K H α ε σ ∧ Good cl F c ε S ∧ ∀ H', D'.rt (.bl true) H'
theorem sGood {F : Nat} {k : Ck} {cl : Nat → List D → Sto → R D} {lv : Nat} {cs : Nat → Option Addr} {X : Cx} {sc : Scope} {W : XK} (G : Gd k true sc cl lv X (xtC X.K cs) W) (T : Ge k cs lv X W) :
    ∀ (l : C) (sts : List Stmt), okSs k sc l sts = true → PSs X sts (tGood X.K cl F l)
  | .seq a b, sts, h => by
    unfold okSs at h
    split at h
    · simp only [Bool.and_eq_true] at h
      refine PSs.weak (pss_cons (sS (F := F) G T a _ h.1) (sGood (F := F) G T b _ h.2)) fun D' σ H ⟨α, S, ε, hs, hl, g, hq⟩ => ⟨α, S, ε, hs, hl, ?_⟩
      unfold Good at g
      rcases g with ⟨ε1, S1, e⟩ | ⟨ε1, S1, e, g | ⟨is, ε2, S2, r, g⟩⟩
      · rw [e]
        exact fun H' α' _ _ v dv => by rw [dv.bl_inv]; exact hq H'
      · rw [e]
        exact fun H' α' g' s' σ1 l1 => ⟨α', S1, ε1, s', l1, g, hq⟩
      · rw [e]
        exact fun H' α' g' s' σ1 l1 => by
          obtain ⟨β, s2, l2⟩ := r.to s' l1
          exact ⟨β, S2, ε2, s2, l2, g, hq⟩
    · cases h
  | .skip, sts, h | .asg _ _, sts, h | .par _ _ _ _, sts, h | .rse _ _, sts, h | .tryP _ _ _ _ _, sts, h | .expr _, sts, h | .ret _, sts, h | .iff _ _ _, sts, h | .for_ _ _ _, sts, h | .whl _ _, sts, h | .brk, sts, h | .cont, sts, h =>
    PSs.weak (sSs (F := F) G T _ sts h) fun _ _ _ ⟨_, _, _, _, _, g, _⟩ => False.elim g
def chain : C → Bool
  | .seq _ b => chain b
  | .skip => true
  | _ => false
theorem Good.run {cl : Nat → List D → Sto → R D} {F : Nat} : ∀ {c : C} {ε ε1 : Sl} {S S1 : Sto}, chain c = true → xc cl F c ε S = .ok (.rt (.bl true), ε1) S1 → Good cl F c ε S
  | .seq a b, ε, ε1, S, S1, h, e => by
    have e : (xc cl F a ε S).bind (fun r S1 => match r with | (.nx, ε1) => xc cl F b ε1 S1 | r => .ok r S1) = .ok (.rt (.bl true), ε1) S1 := e
    unfold Good
    cases q : xc cl F a ε S with
    | ok r S2 =>
      rw [q] at e
      obtain ⟨ct, ε2⟩ := r
      cases ct with
      | nx => exact .inr ⟨ε2, S2, rfl, .inl (Good.run h e)⟩
      | rt v => cases e; exact .inl ⟨_, _, rfl⟩
      | bk => cases e
      | ct => cases e
    | ex _ _ _ => rw [q] at e; cases e
    | bad => rw [q] at e; cases e
  | .skip, _, _, _, _, h, e => by cases e
  | .asg _ _, _, _, _, _, h, e | .par _ _ _ _, _, _, _, _, h, e | .rse _ _, _, _, _, _, h, e | .tryP _ _ _ _ _, _, _, _, _, h, e | .expr _, _, _, _, _, h, e | .ret _, _, _, _, _, h, e | .iff _ _ _, _, _, _, _, h, e | .for_ _ _ _, _, _, _, _, h, e | .whl _ _, _, _, _, _, h, e | .brk, _, _, _, _, h, e | .cont, _, _, _, _, h, e => by cases h
def app : List C → C → C
  | [], b => b
  | a :: r, b => .seq a (app r b)
theorem Good.app {cl : Nat → List D → Sto → R D} {F : Nat} {b : C} : ∀ {as : List C} {ε ε1 : Sl} {S S1 : Sto}, xc cl F (app as .skip) ε S = .ok (.nx, ε1) S1 → (Good cl F b ε1 S1 ∨ ∃ is ε2 S2, Reb is ε1 S1 ε2 S2 ∧ Good cl F b ε2 S2) → as ≠ [] → Good cl F (app as b) ε S
  | [], _, _, _, _, _, _, h => absurd rfl h
  | a :: r, ε, ε1, S, S1, e, g, _ => by
    have e : (xc cl F a ε S).bind (fun r' S1 => match r' with | (.nx, ε1) => xc cl F (Mi.app r .skip) ε1 S1 | r' => .ok r' S1) = .ok (.nx, ε1) S1 := e
    show Good cl F (.seq a (Mi.app r b)) ε S
    unfold Good
    cases q : xc cl F a ε S with
    | ok r' S2 =>
      rw [q] at e
      obtain ⟨ct, ε2⟩ := r'
      cases ct with
      | nx =>
        refine .inr ⟨ε2, S2, rfl, ?_⟩
        cases r with
        | nil =>
          have e : (R.ok (Ct.nx, ε2) S2 : RC) = .ok (.nx, ε1) S1 := e
          cases e
          exact g
        | cons a' r' => exact .inl (Good.app (as := a' :: r') e g (by simp))
      | rt v => cases e
      | bk => cases e
      | ct => cases e
    | ex _ _ _ => rw [q] at e; cases e
    | bad => rw [q] at e; cases e
/-- nothing is kept -/
theorem Reb.none {ε : Sl} {S : Sto} : Reb [] ε S (List.replicate ε.length Option.none) [] :=
  ⟨List.nodup_nil, rfl, fun n m h => by simp at h, by simp, fun i d h => by rw [List.getElem?_replicate] at h; split at h <;> cases h⟩
/-- what law(script) promises -/
def spT (K : PySem.W.Frag) : Sp := fun vs H Q _ => ∃ (a : Addr) (ns : List Int), vs = [.ref a] ∧ RoL K H a (ns.map V.int) ∧ ns.length ≤ 63 ∧ ∀ H', Q (.bl true) H'
def LawGood (defs : List Df) (F lv : Nat) (dl : Df) : Prop := ∀ ns : List Int, ns.length ≤ 63 → Good (call defs F lv) F dl.body (some (.rol (ns.map .int)) :: List.replicate (dl.N.length - 1) none) []
theorem law_ok {P : Program} {w : World} {K : PySem.W.Frag} {mg : Str → Option Value} {base : Heap} {bl : List Str} {gs : List (Str × D)} {ec : List Str} {cs : Nat → Option Addr} {defs : List Df} {F : Nat} (hbl : ∀ x ∈ bl, mg x = none) (hgs : ∀ x d, gs.lookup x = some d → GlIs K mg x d)
    (hdf : ∀ (f : Nat) d, defs[f]? = some d → ∃ a fd, DefIs K mg bl gs (defs.map fun d => (d.name, d.ps.length)) ec d a fd) (hec : ∀ (c : Nat) nm, ec[c]? = some nm → ∃ C, cs c = some C ∧ ErrIs K mg nm C)
    {lv : Nat} {d : Df} {a : Addr} {fd : FuncData} (D1 : DefIs K mg bl gs (defs.map fun d => (d.name, d.ps.length)) ec d a fd) (hps : d.ps = [("script" : Str)]) (hg : LawGood defs F lv d) : FnG P w K mg base (L2.CX P w) (lv + 3) a fd [("script" : Str)] (spT K) := by
  obtain ⟨st, qual, F1, S1, b1, ok⟩ := D1.fn
  rw [hps] at S1
  refine Mi.Fun.okG F1 S1 (fun vs H Q W h => by obtain ⟨_, _, rfl, _⟩ := h; rfl) fun cdv A outer s H vs Q W qt hr h => ?_
  have tk : Takes (cxOf (L2.CX P w) P w K mg base d.N qual (defScope st) a cdv A outer s H W) (fun cls d _ H => W cls d H) := takes_of rfl rfl rfl rfl
  have G : Gd ⟨d.N, bl, gs, defs.map fun d => (d.name, d.ps.length), ec⟩ true (defScope st) (call defs F lv) (lv + 2) (cxOf (L2.CX P w) P w K mg base d.N qual (defScope st) a cdv A outer s H W) (xtC K cs) W :=
    { N := rfl, nd := S1.nd, sc := rfl, calm := rfl, room := hr, quiet := qt, pass := passes_call tk fun _ _ _ _ q => q, bl := hbl, gs := hgs
      fs := fun g x n hg => by
        rw [List.getElem?_map] at hg
        obtain ⟨d', hd', e⟩ := map_some_inv hg
        obtain ⟨rfl, rfl⟩ := Prod.mk.inj e
        obtain ⟨a', fd', D2⟩ := hdf g d' hd'
        obtain ⟨_, _, _, _, b2, _⟩ := D2.fn
        exact ⟨a', fd', d'.ps, D2.m, D2.kp, b2, prog_ok hbl hgs hdf hec lv g d' a' fd' hd' D2, fun ds S hz => call_len hd' ds S hz⟩
      fn := fun _ _ => rfl }
  have T : Ge ⟨d.N, bl, gs, defs.map fun d => (d.name, d.ps.length), ec⟩ cs (lv + 2) (cxOf (L2.CX P w) P w K mg base d.N qual (defScope st) a cdv A outer s H W) W :=
    { kind := S1.kind, own := passes_of rfl, tk := tk, stk := rfl, frm := rfl, two := Nat.le_add_left 2 lv
      ec := fun c nm hc => by
        obtain ⟨C, h1, fI, fdI, h2, h3, h4, h5, h6⟩ := hec c nm hc
        exact ⟨C, h1, fI, fdI, h2, h3, h4, h5, h6 P w base⟩ }
  refine ⟨_, sGood (F := F) G T d.body _ ok, ?_⟩
  obtain ⟨a1, ns, rfl, hS, hl, q⟩ := h
  refine ⟨[], [], some (.rol (ns.map .int)) :: List.replicate (d.N.length - 1) none, ⟨rfl, List.nodup_nil, fun n o ho => by simp at ho⟩, ?_, hg ns hl, fun H' => q H'⟩
  have z : DVs K H [] [D.rol (ns.map .int)] [V.ref a1] := .cons (.rol hS (dvs_ints ns)) .nil
  exact z.ofSome d.N.length
theorem law_walk2 {l : PySem.W.OpenLaw} {q : Program} {loose : List Str} {XP : (Str → Option Value) → Heap → Prop} {YP : World → Heap → Prop} {d : DefRec} {K : Params → PySem.W.Frag} {defs : List Df} {F lv : Nat} {bl : List Str} {gs : List (Str × D)} {ec : List Str} {dl : Df}
    (h : LawGood defs F lv dl) (hps : dl.ps = [("script" : Str)]) (hnm : dl.name = d.name) (hn : l.most = some 63) (hdf : d.params.defaults = []) (hr : Room (lv + 3) callerA) (hY : ∀ (w : World) (h : Heap), YP w h → (K w.params).In h)
    (all : ∀ (w : World) (mg : Str → Option Value) (h : Heap), (K w.params).In h → h.Ns mainGlobals mg → (∀ x ∈ bl, mg x = none) ∧ (∀ x d, gs.lookup x = some d → GlIs (K w.params) mg x d) ∧
      (∀ (g : Nat) d', defs[g]? = some d' → ∃ a fd, DefIs (K w.params) mg bl gs (defs.map fun d => (d.name, d.ps.length)) ec d' a fd) ∧
      (∃ cs : Nat → Option Addr, ∀ (c : Nat) nm, ec[c]? = some nm → ∃ C, cs c = some C ∧ ErrIs (K w.params) mg nm C) ∧
      ∃ a fd, DefIs (K w.params) mg bl gs (defs.map fun d => (d.name, d.ps.length)) ec dl a fd ∧ ∀ (s : Shared) (u : Value), BindsTo s fd ⟨[u], []⟩ [(("script" : Str), u)]) :
    PySem.W.WalkO q loose XP YP l.row.toRowW d [] (fun f vs => PySem.call f vs) := by
  refine walk_ofG (m := 63) (n := lv + 3) (x := ("script" : Str)) (CX := fun w => L2.CX l.prog w) (sp := fun w => spT (K w.params)) hn (by decide) hdf hr hY (fun w mg fa hp KX G hfa => ?_) (fun w H a ns hl hO hS => ?_) (fun w H s e s' z => ?_)
  · obtain ⟨h1, h2, h3, ⟨cs, h4⟩, a, fd, D1, hb⟩ := all w mg hp KX G
    have e : a = fa := by
      have z := D1.m
      rw [hnm, hfa] at z
      exact (Value.ref.inj (Option.some.inj z)).symm
    subst e
    exact ⟨fd, hb, fun base _ _ => law_ok h1 h2 h3 h4 D1 hps h⟩
  · refine ⟨a, ns, rfl, ?_, hl, fun _ => rfl⟩
    rcases hS with (q | q) | q
    · rcases hO a with z | ⟨o, xs, z⟩
      · rw [q] at z; cases z
      · rw [q] at z; cases z
    · exact .inl q
    · exact .inr q
  · obtain ⟨_, _, _, _, _, _, _, _, _, _, _, _, z⟩ := z
    exact z.elim
end Mi

set_option maxRecDepth 100000
namespace Mi
open PySem PySem.Spec PyProof.Rows L2
/-! ## the pen of the laws -/
def cPen : C := .seq (.ret (.lst (.cons (.bi .list (.cons (.sl (.var 0) .none (.some (.cst (.int 63)))) .nil)) (.cons (.cst (.int 0)) (.cons (.cst (.int 0)) .nil))))) .skip
def cFresh : C := .seq (.asg (.name 1) (.ix (.var 0) (.cst (.int 1)))) (.seq (.asg (.sub (.var 0) (.cst (.int 1))) (.op .add (.var 1) (.cst (.int 1)))) (.seq (.asg (.name 2) (.cst (.int 0))) (.seq (.iff (.cmp .ne (.ix (.var 0) (.cst (.int 0))) (.lst (.nil))) (.seq (.asg (.name 2) (.ix (.ix (.var 0) (.cst (.int 0))) (.op .mod (.bi .int (.cons (.var 1) .nil)) (.bi .len (.cons (.ix (.var 0) (.cst (.int 0))) .nil))))) .skip) (.skip)) (.seq (.iff (.and (.cmp .lt (.var 1) (.bi .len (.cons (.ix (.var 0) (.cst (.int 0))) .nil))) (.cmp .ge (.var 2) (.op .pow (.cst (.int 10)) (.cst (.int 18))))) (.seq (.ret (.op .sub (.var 2) (.op .pow (.cst (.int 10)) (.cst (.int 18))))) .skip) (.skip)) (.seq (.asg (.name 3) (.cst (.int 2305843009213693951))) (.seq (.asg (.name 4) (.op .mod (.bi .int (.cons (.op .add (.op .add (.op .mul (.var 2) (.cst (.int 48271))) (.op .mul (.cst (.int 40692)) (.var 1))) (.cst (.int 31))) .nil)) (.var 3))) (.seq (.asg (.name 5) (.var 4)) (.seq (.for_ (.name 6) (.rng (.cons (.cst (.int 6)) .nil)) (.seq (.asg (.name 4) (.op .mod (.bi .int (.cons (.op .add (.op .add (.op .mul (.var 4) (.var 4)) (.op .mul (.op .mul (.cst (.int 69621)) (.op .add (.var 6) (.cst (.int 1)))) (.op .add (.var 1) (.cst (.int 1))))) (.var 2)) .nil)) (.var 3))) (.seq (.asg (.name 5) (.op .add (.op .mul (.var 5) (.var 3)) (.var 4))) .skip))) (.seq (.ret (.var 5)) .skip)))))))))
def cDraw (fr : Nat) : C := .seq (.iff (.cmp .lt (.ix (.var 0) (.cst (.int 2))) (.var 1)) (.seq (.asg (.sub (.var 0) (.cst (.int 2))) (.call fr (.cons (.var 0) .nil))) .skip) (.skip)) (.seq (.asg (.name 2) (.op .mod (.bi .int (.cons (.ix (.var 0) (.cst (.int 2))) .nil)) (.var 1))) (.seq (.asg (.sub (.var 0) (.cst (.int 2))) (.op .fdiv (.bi .int (.cons (.ix (.var 0) (.cst (.int 2))) .nil)) (.var 1))) (.seq (.ret (.var 2)) .skip)))

theorem xc_nx {cl : Nat → List D → Sto → R D} {F : Nat} {a b : C} {ε ε1 : Sl} {S S1 : Sto} (h : xc cl F a ε S = .ok (.nx, ε1) S1) : xc cl F (.seq a b) ε S = xc cl F b ε1 S1 := by
  show (xc cl F a ε S).bind _ = _
  rw [h]; rfl
theorem xc_rt {cl : Nat → List D → Sto → R D} {F : Nat} {a b : C} {ε ε1 : Sl} {S S1 : Sto} {v : D} (h : xc cl F a ε S = .ok (.rt v, ε1) S1) : xc cl F (.seq a b) ε S = .ok (.rt v, ε1) S1 := by
  show (xc cl F a ε S).bind _ = _
  rw [h]; rfl
theorem flat_ints (S : Sto) (n : Nat) : ∀ ns : List Int, (ns.map D.int).mapM (flat S (n + 1)) = some (ns.map PyData.int)
  | [] => rfl
  | i :: r => by
    rw [List.map_cons, List.mapM_cons, flat_ints S n r]
    rfl
theorem atI_some {α : Type} {xs : List α} {i : Int} (h0 : 0 ≤ i) (h : i < (xs.length : Int)) : ∃ x, atI xs i = some x := by
  have hk : i.toNat < xs.length := by omega
  refine ⟨xs[i.toNat], ?_⟩
  unfold atI ixN
  rw [if_pos h0, if_pos h]
  show xs[i.toNat]? = _
  rw [List.getElem?_eq_getElem hk]
theorem atI_ints {ns : List Int} {i : Int} (h0 : 0 ≤ i) (h : i < (ns.length : Int)) : ∃ v : Int, atI (ns.map D.int) i = some (.int v) := by
  have hk : i.toNat < ns.length := by omega
  refine ⟨ns[i.toNat], ?_⟩
  unfold atI ixN
  rw [if_pos h0, if_pos (by rw [List.length_map]; exact h)]
  show (ns.map D.int)[i.toNat]? = _
  rw [List.getElem?_map, List.getElem?_eq_getElem hk]
  rfl
/-- the pen: its list, its place, its rest -/
structure Pen (S : Sto) (p c : Nat) (ns : List Int) (k r : Int) : Prop where
  hp : S[p]? = some (.lst [.ref c, .int k, .int r])
  hc : S[c]? = some (.lst (ns.map D.int))
  ne : c ≠ p
theorem Pen.lt {S : Sto} {p c : Nat} {ns : List Int} {k r : Int} (h : Pen S p c ns k r) : p < S.length := (List.getElem?_eq_some_iff.mp h.hp).1
theorem Pen.set {S : Sto} {p c : Nat} {ns : List Int} {k r : Int} (h : Pen S p c ns k r) (k' r' : Int) : Pen (S.set p (.lst [.ref c, .int k', .int r'])) p c ns k' r' :=
  ⟨List.getElem?_set_self h.lt, by rw [List.getElem?_set_ne h.ne.symm]; exact h.hc, h.ne⟩
theorem Pen.app {S : Sto} {p c : Nat} {ns : List Int} {k r : Int} (h : Pen S p c ns k r) (T : Sto) : Pen (S ++ T) p c ns k r :=
  ⟨by rw [List.getElem?_append_left h.lt]; exact h.hp, by rw [List.getElem?_append_left (List.getElem?_eq_some_iff.mp h.hc).1]; exact h.hc, h.ne⟩
section
variable {cl : Nat → List D → Sto → R D} {F : Nat} {S : Sto} {p c : Nat} {ns : List Int} {k r : Int}
theorem Pen.at0 (h : Pen S p c ns k r) : ixD S (.ref p) (.int 0) = some (.ref c) := by
  show (moL S[p]?).bind _ = _
  rw [h.hp]; rfl
theorem Pen.at1 (h : Pen S p c ns k r) : ixD S (.ref p) (.int 1) = some (.int k) := by
  show (moL S[p]?).bind _ = _
  rw [h.hp]; rfl
theorem Pen.at2 (h : Pen S p c ns k r) : ixD S (.ref p) (.int 2) = some (.int r) := by
  show (moL S[p]?).bind _ = _
  rw [h.hp]; rfl
theorem Pen.set1 (h : Pen S p c ns k r) (i : Int) (ε : Sl) : setD (.ref p) (.int 1) (.int i) ε S = .ok ε (S.set p (.lst [.ref c, .int i, .int r])) := by
  unfold setD
  simp only [h.hp]
  rfl
theorem Pen.set2 (h : Pen S p c ns k r) (i : Int) (ε : Sl) : setD (.ref p) (.int 2) (.int i) ε S = .ok ε (S.set p (.lst [.ref c, .int k, .int i])) := by
  unfold setD
  simp only [h.hp]
  rfl
theorem Pen.len (h : Pen S p c ns k r) : biD .len [.ref c] S = .ok (.int ns.length) S := by
  show (match moL S[c]? with | some xs => R.ok (D.int xs.length) S | none => .bad) = _
  rw [h.hc]
  show R.ok (D.int ((ns.map D.int).length : Nat)) S = _
  rw [List.length_map]
theorem Pen.cell (h : Pen S p c ns k r) (i : Int) : ixD S (.ref c) (.int i) = atI (ns.map D.int) i := by
  show (moL S[c]?).bind _ = _
  rw [h.hc]; rfl
theorem Pen.empty (h : Pen S p c ns k r) : eqD (S ++ [.lst []]) (.ref c) (.ref S.length) = some (PyData.eqv (.list (ns.map PyData.int)) (.list [])) := by
  have h1 : flat (S ++ [.lst []]) deep (.ref c) = some (.list (ns.map PyData.int)) := by
    show ((moL (S ++ [MO.lst []])[c]?).bind fun xs => (xs.mapM (flat (S ++ [MO.lst []]) 39)).map PyData.list) = _
    rw [(h.app [.lst []]).hc]
    show ((ns.map D.int).mapM (flat (S ++ [MO.lst []]) 39)).map PyData.list = _
    rw [flat_ints]; rfl
  have h2 : flat (S ++ [.lst []]) deep (.ref S.length) = some (.list []) := by
    show ((moL (S ++ [MO.lst []])[S.length]?).bind fun xs => (xs.mapM (flat (S ++ [MO.lst []]) 39)).map PyData.list) = _
    rw [List.getElem?_append_right (Nat.le_refl _), Nat.sub_self]; rfl
  unfold eqD
  rw [h1, h2]
  show (if SeqAt.shaped (.list (ns.map PyData.int)) && SeqAt.shaped (.list []) then _ else _) = _
  rw [PySem.W.ke_shaped_ints]
  rfl
theorem ev_var {i : Nat} {ε : Sl} {d : D} (h : ε[i]? = some (some d)) : ev cl F (.var i) ε S = .ok d S := by
  unfold ev
  rw [h]
theorem ev_cst {d : D} {ε : Sl} : ev cl F (.cst d) ε S = .ok d S := rfl
theorem ev_op {o : Op2} {a b : E} {ε : Sl} {x y : D} {S1 S2 : Sto} {z : R D} (ha : ev cl F a ε S = .ok x S1) (hb : ev cl F b ε S1 = .ok y S2) (h : op2 o x y S2 = z) : ev cl F (.op o a b) ε S = z := by
  show (ev cl F a ε S).bind (fun x S1 => (ev cl F b ε S1).bind fun y S2 => op2 o x y S2) = z
  rw [ha]
  show (ev cl F b ε S1).bind _ = z
  rw [hb]
  exact h
theorem ev_ix {a b : E} {ε : Sl} {x y z : D} {S1 S2 : Sto} (ha : ev cl F a ε S = .ok x S1) (hb : ev cl F b ε S1 = .ok y S2) (h : ixD S2 x y = some z) : ev cl F (.ix a b) ε S = .ok z S2 := by
  show (ev cl F a ε S).bind (fun x S1 => (ev cl F b ε S1).bind fun y S2 => R.of S2 (ixD S2 x y)) = _
  rw [ha]
  show (ev cl F b ε S1).bind _ = _
  rw [hb]
  show R.of S2 (ixD S2 x y) = _
  rw [h]
  rfl
theorem ev_int1 {a : E} {ε : Sl} {i : Int} {S1 : Sto} (ha : ev cl F a ε S = .ok (.int i) S1) : ev cl F (.bi .int (.cons a .nil)) ε S = .ok (.int i) S1 := by
  show ((ev cl F a ε S).bind (fun x S1 => (R.ok [] S1 : R (List D)).bind fun xs S2 => .ok (x :: xs) S2)).bind (fun xs S1 => biD .int xs S1) = _
  rw [ha]
  rfl
theorem ev_len1 {a : E} {ε : Sl} {x : D} {z : R D} {S1 : Sto} (ha : ev cl F a ε S = .ok x S1) (h : biD .len [x] S1 = z) : ev cl F (.bi .len (.cons a .nil)) ε S = z := by
  show ((ev cl F a ε S).bind (fun x S1 => (R.ok [] S1 : R (List D)).bind fun xs S2 => .ok (x :: xs) S2)).bind (fun xs S1 => biD .len xs S1) = _
  rw [ha]
  exact h
theorem x_asg {i : Nat} {e : E} {ε : Sl} {d : D} {S1 : Sto} (h : ev cl F e ε S = .ok d S1) : xc cl F (.asg (.name i) e) ε S = .ok (.nx, ε.set i (some d)) S1 := by
  show (ev cl F e ε S).bind _ = _
  rw [h]
  rfl
theorem x_sub {o i e : E} {ε : Sl} {d x y : D} {S1 S2 S3 S4 : Sto} (h : ev cl F e ε S = .ok d S1) (ho : ev cl F o ε S1 = .ok x S2) (hi : ev cl F i ε S2 = .ok y S3) (hs : setD x y d ε S3 = .ok ε S4) : xc cl F (.asg (.sub o i) e) ε S = .ok (.nx, ε) S4 := by
  show (ev cl F e ε S).bind (fun d S1 => (asg cl F (.sub o i) (.one d) ε S1).bind fun ε1 S2 => .ok (Ct.nx, ε1) S2) = _
  rw [h]
  show (asg cl F (.sub o i) (.one d) ε S1).bind _ = _
  have e2 : asg cl F (.sub o i) (.one d) ε S1 = (ev cl F o ε S1).bind fun x S1 => (ev cl F i ε S1).bind fun y S2 => setD x y d ε S2 := rfl
  rw [e2, ho]
  show (Mi.R.bind ((ev cl F i ε S2).bind _) _) = _
  rw [hi]
  show (Mi.R.bind (setD x y d ε S3) _) = _
  rw [hs]
  rfl
theorem x_for {g : Tg} {it : It} {b : C} {ε : Sl} {S1 : Sto} {J : RI} {z : RC} (h : evI cl F it ε S = .ok J S1) (q : forL (asg cl F g) (xc cl F b) J F 0 ε S1 = z) : xc cl F (.for_ g it b) ε S = z := by
  show (evI cl F it ε S).bind _ = _
  rw [h]
  exact q
theorem x_ret {e : E} {ε : Sl} {d : D} {S1 : Sto} (h : ev cl F e ε S = .ok d S1) : xc cl F (.ret e) ε S = .ok (.rt d, ε) S1 := by
  show (ev cl F e ε S).bind _ = _
  rw [h]
  rfl
theorem x_iff {e : E} {a b : C} {ε : Sl} {k : Bool} {S1 : Sto} (h : evT cl F e ε S = .ok k S1) : xc cl F (.iff e a b) ε S = if k then xc cl F a ε S1 else xc cl F b ε S1 := by
  show (evT cl F e ε S).bind _ = _
  rw [h]
  rfl
theorem evT_cmp {o : Cm} {a b : E} {ε : Sl} {x y : D} {k : Bool} {S1 S2 : Sto} (ha : ev cl F a ε S = .ok x S1) (hb : ev cl F b ε S1 = .ok y S2) (h : cmp2 o x y S2 = some k) : evT cl F (.cmp o a b) ε S = .ok k S2 := by
  show (ev cl F a ε S).bind (fun x S1 => (ev cl F b ε S1).bind fun y S2 => R.of S2 (cmp2 o x y S2)) = _
  rw [ha]
  show (ev cl F b ε S1).bind _ = _
  rw [hb]
  show R.of S2 (cmp2 o x y S2) = _
  rw [h]
  rfl
theorem evT_and {a b : E} {ε : Sl} {k : Bool} {S1 : Sto} (ha : evT cl F a ε S = .ok k S1) : evT cl F (.and a b) ε S = if k then evT cl F b ε S1 else .ok false S1 := by
  show (evT cl F a ε S).bind _ = _
  rw [ha]
  rfl
theorem op_mul {i j : Int} (h : ((-(2 ^ 64) < i ∧ i < 2 ^ 64) ∨ (-(2 ^ 64) < j ∧ j < 2 ^ 64))) : op2 .mul (.int i) (.int j) S = .ok (.int (i * j)) S := by
  show (if ((-(2 ^ 64) < i ∧ i < 2 ^ 64) ∨ (-(2 ^ 64) < j ∧ j < 2 ^ 64)) then R.ok (D.int (i * j)) S else .bad) = _
  rw [if_pos h]
theorem op_add {i j : Int} : op2 .add (.int i) (.int j) S = .ok (.int (i + j)) S := rfl
theorem op_sub {i j : Int} : op2 .sub (.int i) (.int j) S = .ok (.int (i - j)) S := rfl
theorem op_mod {i j : Int} (h : 0 < j) : op2 .mod (.int i) (.int j) S = .ok (.int (i % j)) S := by
  show (if 0 < j then R.ok (D.int (i % j)) S else .bad) = _
  rw [if_pos h]
theorem op_fdiv {i j : Int} (h : 0 < j ∧ j < 1073741824) : op2 .fdiv (.int i) (.int j) S = .ok (.int (i / j)) S := by
  show (if 0 < j ∧ j < 1073741824 then R.ok (D.int (i / j)) S else .bad) = _
  rw [if_pos h]
def cTurn : C := .seq (.asg (.name 4) (.op .mod (.bi .int (.cons (.op .add (.op .add (.op .mul (.var 4) (.var 4)) (.op .mul (.op .mul (.cst (.int 69621)) (.op .add (.var 6) (.cst (.int 1)))) (.op .add (.var 1) (.cst (.int 1))))) (.var 2)) .nil)) (.var 3))) (.seq (.asg (.name 5) (.op .add (.op .mul (.var 5) (.var 3)) (.var 4))) .skip)
theorem turn_run (M : Int) (hM : 0 < M) (hM2 : M < 9223372036854775808) (a b st fd : Int) (h0 : 0 ≤ st) (h1 : st < M) (i : Nat) (hi : i < 6) (t : Option D) (P : Option D) : ∃ st' fd', 0 ≤ st' ∧ st' < M ∧
    xc cl F cTurn [P, some (.int a), some (.int b), some (.int M), some (.int st), some (.int fd), some (.int (0 + (i : Nat) * 1))] S = .ok (.nx, [P, some (.int a), some (.int b), some (.int M), some (.int st'), some (.int fd'), some (.int (0 + (i : Nat) * 1))]) S := by
  refine ⟨(st * st + 69621 * ((0 + (i : Nat) * 1) + 1) * (a + 1) + b) % M, fd * M + (st * st + 69621 * ((0 + (i : Nat) * 1) + 1) * (a + 1) + b) % M, Int.emod_nonneg _ (by omega), Int.emod_lt_of_pos _ hM, ?_⟩
  have m1 : ((-(2 ^ 64) < st ∧ st < 2 ^ 64) ∨ (-(2 ^ 64) < st ∧ st < 2 ^ 64)) := .inl (by omega)
  have m2 : ((-(2 ^ 64) < (69621 : Int) ∧ (69621 : Int) < 2 ^ 64) ∨ (-(2 ^ 64) < (0 + (i : Int) * 1 + 1) ∧ (0 + (i : Int) * 1 + 1) < 2 ^ 64)) := .inl (by decide)
  have m3 : ((-(2 ^ 64) < (69621 : Int) * (0 + (i : Int) * 1 + 1) ∧ (69621 : Int) * (0 + (i : Int) * 1 + 1) < 2 ^ 64) ∨ (-(2 ^ 64) < (a + 1) ∧ (a + 1) < 2 ^ 64)) := .inl (by omega)
  have m4 : ((-(2 ^ 64) < fd ∧ fd < 2 ^ 64) ∨ (-(2 ^ 64) < (M : Int) ∧ (M : Int) < 2 ^ 64)) := .inr (by omega)
  unfold cTurn
  rw [xc_nx (x_asg (ev_op (ev_int1 (ev_op (ev_op (ev_op (ev_var rfl) (ev_var rfl) (op_mul m1)) (ev_op (ev_op ev_cst (ev_op (ev_var rfl) ev_cst op_add) (op_mul m2)) (ev_op (ev_var rfl) ev_cst op_add) (op_mul m3)) op_add) (ev_var rfl) op_add)) (ev_var rfl) (op_mod hM)))]
  rw [xc_nx (x_asg (ev_op (ev_op (ev_var rfl) (ev_var rfl) (op_mul m4)) (ev_var rfl) op_add))]
  rfl
theorem turns_run (M : Int) (hM : 0 < M) (hM2 : M < 9223372036854775808) (a b : Int) (P : Option D) : ∀ (m i f : Nat) (st fd : Int) (t : Option D), m + i = 6 → m < f → 0 ≤ st → st < M → ∃ st' fd' t',
    forL (asg cl F (.name 6)) (xc cl F cTurn) (.rng 0 1 6) f i [P, some (.int a), some (.int b), some (.int M), some (.int st), some (.int fd), t] S = .ok (.nx, [P, some (.int a), some (.int b), some (.int M), some (.int st'), some (.int fd'), t']) S
  | _, _, 0, _, _, _, _, h, _, _ => by omega
  | 0, i, f + 1, st, fd, t, e, _, h0, h1 => by
    have e : i = 6 := by omega
    subst e
    exact ⟨st, fd, t, rfl⟩
  | m + 1, i, f + 1, st, fd, t, e, hf, h0, h1 => by
    have hi : i < 6 := by omega
    obtain ⟨st1, fd1, h2, h3, q⟩ := turn_run (cl := cl) (F := F) (S := S) M hM hM2 a b st fd h0 h1 i hi none P
    obtain ⟨st2, fd2, t2, q2⟩ := turns_run M hM hM2 a b P m (i + 1) f st1 fd1 (some (.int (0 + (i : Nat) * 1))) (by omega) (by omega) h2 h3
    refine ⟨st2, fd2, t2, ?_⟩
    unfold forL
    have n : RI.nxt S i (.rng 0 1 6) = some (some (.one (.int (0 + (i : Nat) * 1)))) := by
      show some (if i < 6 then _ else _) = _
      rw [if_pos hi]
    simp only [n]
    show (xc cl F cTurn [P, some (.int a), some (.int b), some (.int M), some (.int st), some (.int fd), some (.int (0 + (i : Nat) * 1))] S).bind _ = _
    rw [q]
    exact q2
theorem biD_int (i : Int) (S : Sto) : biD .int [.int i] S = .ok (.int i) S := rfl
theorem evc {a : E} {ε : Sl} {S S1 : Sto} {d : D} {g : D → Sto → RC} (h : ev cl F a ε S = .ok d S1) : (ev cl F a ε S).bind g = g d S1 := by rw [h]; rfl
theorem fresh_run (h : Pen S p c ns k r) (hF : 8 ≤ F) : ∃ (d : Int) (ε' : Sl), xc cl F cFresh [some (.ref p), none, none, none, none, none, none] S = .ok (.rt (.int d), ε') (S.set p (.lst [.ref c, .int (k + 1), .int r]) ++ [.lst []]) := by
  have h1 := h.set (k + 1) r
  have h2 := h1.app [.lst []]
  unfold cFresh
  rw [xc_nx (ε1 := [some (.ref p), some (.int k), none, none, none, none, none]) (S1 := S) (by simp only [xc, ev, asg, R.bind, R.of, List.getElem?_cons_zero, h.at1, List.set_cons_zero, List.set_cons_succ])]
  rw [xc_nx (ε1 := [some (.ref p), some (.int k), none, none, none, none, none]) (S1 := S.set p (.lst [.ref c, .int (k + 1), .int r])) (by simp only [xc, ev, asg, R.bind, R.of, op2, List.getElem?_cons_zero, List.getElem?_cons_succ, h.set1])]
  rw [xc_nx (ε1 := [some (.ref p), some (.int k), some (.int 0), none, none, none, none]) (S1 := S.set p (.lst [.ref c, .int (k + 1), .int r])) rfl]
  generalize hS1 : S.set p (.lst [.ref c, .int (k + 1), .int r]) = S1 at h1 h2 ⊢
  have hc : ∃ b : Int, xc cl F (.iff (.cmp .ne (.ix (.var 0) (.cst (.int 0))) (.lst (.nil))) (.seq (.asg (.name 2) (.ix (.ix (.var 0) (.cst (.int 0))) (.op .mod (.bi .int (.cons (.var 1) .nil)) (.bi .len (.cons (.ix (.var 0) (.cst (.int 0))) .nil))))) .skip) (.skip)) [some (.ref p), some (.int k), some (.int 0), none, none, none, none] S1
      = .ok (.nx, [some (.ref p), some (.int k), some (.int b), none, none, none, none]) (S1 ++ [.lst []]) := by
    have ht : evT cl F (.cmp .ne (.ix (.var 0) (.cst (.int 0))) (.lst (.nil))) [some (.ref p), some (.int k), some (.int 0), none, none, none, none] S1 = .ok (!PyData.eqv (.list (ns.map PyData.int)) (.list [])) (S1 ++ [.lst []]) := by
      have hl : newL [] S1 = .ok (.ref S1.length) (S1 ++ [.lst []]) := rfl
      simp only [evT, ev, evL, R.bind, R.of, List.getElem?_cons_zero, h1.at0, hl, cmp2, h1.empty, Option.map]
    cases ns with
    | nil =>
      refine ⟨0, ?_⟩
      show (evT cl F _ _ S1).bind _ = _
      rw [ht]; rfl
    | cons n0 ns =>
      have hl : 0 < ((n0 :: ns).length : Int) := by rw [List.length_cons]; omega
      obtain ⟨v, hv⟩ := atI_ints (ns := n0 :: ns) (i := k % ((n0 :: ns).length : Int)) (Int.emod_nonneg _ (by omega)) (Int.emod_lt_of_pos _ hl)
      refine ⟨v, ?_⟩
      show (evT cl F _ _ S1).bind _ = _
      rw [ht]
      show xc cl F (.seq _ .skip) _ _ = _
      rw [xc_nx (ε1 := [some (.ref p), some (.int k), some (.int v), none, none, none, none]) (S1 := S1 ++ [.lst []])]
      · rfl
      · simp only [xc, ev, evL, asg, R.bind, R.of, op2, List.getElem?_cons_zero, List.getElem?_cons_succ, h2.at0, h2.len, if_pos hl, h2.cell, hv, List.set_cons_zero, List.set_cons_succ, biD_int]
  obtain ⟨b, hc⟩ := hc
  rw [xc_nx hc]
  generalize S1 ++ [MO.lst []] = S2 at h2 ⊢
  have pw : ∀ ε S, ev cl F (.op .pow (.cst (.int 10)) (.cst (.int 18))) ε S = .ok (.int 1000000000000000000) S := fun ε S => ev_op ev_cst ev_cst rfl
  have t1 : evT cl F (.cmp .lt (.var 1) (.bi .len (.cons (.ix (.var 0) (.cst (.int 0))) .nil))) [some (.ref p), some (.int k), some (.int b), none, none, none, none] S2 = .ok (decide (k < (ns.length : Int))) S2 :=
    evT_cmp (ev_var rfl) (ev_len1 (ev_ix (ev_var rfl) ev_cst h2.at0) h2.len) rfl
  have t2 : evT cl F (.cmp .ge (.var 2) (.op .pow (.cst (.int 10)) (.cst (.int 18)))) [some (.ref p), some (.int k), some (.int b), none, none, none, none] S2 = .ok (decide ((1000000000000000000 : Int) ≤ b)) S2 :=
    evT_cmp (ev_var rfl) (pw _ _) rfl
  have t3 : evT cl F (.and (.cmp .lt (.var 1) (.bi .len (.cons (.ix (.var 0) (.cst (.int 0))) .nil))) (.cmp .ge (.var 2) (.op .pow (.cst (.int 10)) (.cst (.int 18))))) [some (.ref p), some (.int k), some (.int b), none, none, none, none] S2 = .ok (decide (k < (ns.length : Int)) && decide ((1000000000000000000 : Int) ≤ b)) S2 := by
    rw [evT_and t1, t2]
    cases decide (k < (ns.length : Int)) <;> rfl
  cases hb : (decide (k < (ns.length : Int)) && decide ((1000000000000000000 : Int) ≤ b)) with
  | true =>
    rw [hb] at t3
    refine ⟨b - 1000000000000000000, [some (.ref p), some (.int k), some (.int b), none, none, none, none], xc_rt ?_⟩
    rw [x_iff t3, if_pos rfl]
    exact xc_rt (x_ret (ev_op (ev_var rfl) (pw _ _) op_sub))
  | false =>
    rw [hb] at t3
    rw [xc_nx (by rw [x_iff t3, if_neg Bool.false_ne_true]; rfl)]
    rw [xc_nx (x_asg ev_cst)]
    rw [xc_nx (x_asg (ev_op (ev_int1 (ev_op (ev_op (ev_op (ev_var rfl) ev_cst (op_mul (.inr (by decide)))) (ev_op ev_cst (ev_var rfl) (op_mul (.inl (by decide)))) op_add) ev_cst op_add)) (ev_var rfl) (op_mod (by decide))))]
    rw [xc_nx (x_asg (ev_var rfl))]
    obtain ⟨st, fd, t, q⟩ := turns_run (cl := cl) (F := F) (S := S2) 2305843009213693951 (by decide) (by decide) k b (some (.ref p)) 6 0 F ((b * 48271 + 40692 * k + 31) % 2305843009213693951) ((b * 48271 + 40692 * k + 31) % 2305843009213693951) none rfl (by omega) (Int.emod_nonneg _ (by decide)) (Int.emod_lt_of_pos _ (by decide))
    refine ⟨fd, [some (.ref p), some (.int k), some (.int b), some (.int 2305843009213693951), some (.int st), some (.int fd), t], ?_⟩
    refine (xc_nx (x_for (J := .rng 0 1 6) rfl q)).trans ?_
    exact xc_rt (x_ret (ev_var rfl))
theorem x_ifn {e : E} {a b : C} {ε : Sl} {S1 : Sto} (h : evT cl F e ε S = .ok true S1) : xc cl F (.iff e a b) ε S = xc cl F a ε S1 := by
  rw [x_iff h, if_pos rfl]
/-- one draw: a digit; the pen's rest anew, perhaps an empty list that nobody holds -/
theorem draw_run {fr : Nat} {many : Int} (h : Pen S p c ns k r) (h0 : 0 < many) (h1 : many < 1073741824)
    (hf : ∃ d : Int, cl fr [.ref p] S = .ok (.int d) (S.set p (.lst [.ref c, .int (k + 1), .int r]) ++ [.lst []])) :
    ∃ (d : Int) (k' r' : Int) (J : Sto) (ε' : Sl), 0 ≤ d ∧ d < many ∧ xc cl F (cDraw fr) [some (.ref p), some (.int many), none] S = .ok (.rt (.int d), ε') (S.set p (.lst [.ref c, .int k', .int r']) ++ J) := by
  have step : ∀ (k r : Int) (S : Sto), Pen S p c ns k r → ∃ (d r' : Int) (ε' : Sl), 0 ≤ d ∧ d < many ∧
      xc cl F (.seq (.asg (.name 2) (.op .mod (.bi .int (.cons (.ix (.var 0) (.cst (.int 2))) .nil)) (.var 1))) (.seq (.asg (.sub (.var 0) (.cst (.int 2))) (.op .fdiv (.bi .int (.cons (.ix (.var 0) (.cst (.int 2))) .nil)) (.var 1))) (.seq (.ret (.var 2)) .skip))) [some (.ref p), some (.int many), none] S
        = .ok (.rt (.int d), ε') (S.set p (.lst [.ref c, .int k, .int r'])) := fun k r S h => by
    refine ⟨r % many, r / many, [some (.ref p), some (.int many), some (.int (r % many))], Int.emod_nonneg _ (by omega), Int.emod_lt_of_pos _ h0, ?_⟩
    rw [xc_nx (x_asg (ev_op (ev_int1 (ev_ix (ev_var rfl) ev_cst h.at2)) (ev_var rfl) (op_mod h0)))]
    rw [xc_nx (x_sub (ev_op (ev_int1 (ev_ix (ev_var rfl) ev_cst h.at2)) (ev_var rfl) (op_fdiv ⟨h0, h1⟩)) (ev_var rfl) ev_cst (h.set2 _ _))]
    exact xc_rt (x_ret (ev_var rfl))
  have t : evT cl F (.cmp .lt (.ix (.var 0) (.cst (.int 2))) (.var 1)) [some (.ref p), some (.int many), none] S = .ok (decide (r < many)) S := evT_cmp (ev_ix (ev_var rfl) ev_cst h.at2) (ev_var rfl) rfl
  unfold cDraw
  cases hd : decide (r < many) with
  | false =>
    rw [hd] at t
    obtain ⟨d, r', ε', q1, q2, q3⟩ := step k r S h
    refine ⟨d, k, r', [], ε', q1, q2, ?_⟩
    rw [xc_nx (by rw [x_iff t, if_neg Bool.false_ne_true]; rfl), q3, List.append_nil]
  | true =>
    rw [hd] at t
    obtain ⟨v, hv⟩ := hf
    have h1 := h.set (k + 1) r
    have h2 := h1.app [.lst []]
    have e : (S.set p (.lst [.ref c, .int (k + 1), .int r]) ++ [MO.lst []]).set p (.lst [.ref c, .int (k + 1), .int v]) = S.set p (.lst [.ref c, .int (k + 1), .int v]) ++ [MO.lst []] := by
      rw [List.set_append_left _ _ h1.lt, List.set_set]
    have e2 : ∀ r', (S.set p (.lst [.ref c, .int (k + 1), .int v]) ++ [MO.lst []]).set p (.lst [.ref c, .int (k + 1), .int r']) = S.set p (.lst [.ref c, .int (k + 1), .int r']) ++ [MO.lst []] := fun r' => by
      rw [List.set_append_left _ _ (h.set (k + 1) v).lt, List.set_set]
    have cal : ev cl F (.call fr (.cons (.var 0) .nil)) [some (.ref p), some (.int many), none] S = .ok (.int v) (S.set p (.lst [.ref c, .int (k + 1), .int r]) ++ [.lst []]) := hv
    obtain ⟨d, r', ε', q1, q2, q3⟩ := step (k + 1) v (S.set p (.lst [.ref c, .int (k + 1), .int v]) ++ [MO.lst []]) ((h.set (k + 1) v).app _)
    refine ⟨d, k + 1, r', [.lst []], ε', q1, q2, ?_⟩
    rw [e2] at q3
    rw [xc_nx (by rw [x_ifn t, xc_nx (x_sub cal (ev_var rfl) ev_cst (h2.set2 v _)), e]; rfl), q3]
end
end Mi

set_option maxRecDepth 100000
namespace L
def clsBody : PySem.Stmt → List PySem.Stmt
  | .ClassDef _ _ _ b _ _ _ _ _ _ _ => b
  | _ => []
open PySem PySem.Spec PyProof.Rows L2 Mi
abbrev s0 : Stmt := PySem.Challenge.pw_copyplaces_k02_sizes_of_programs.main.body.getD 13 (.Pass ⟨0, 0, 0, 0⟩)
def c0 : C := .seq (.iff (.or (.not (.isi .tuple (.var 0))) (.cmp .ne (.bi .len (.cons (.var 0) .nil)) (.cst (.int 2)))) (.seq (.rse 0 (.tup (.nil))) .skip) (.skip)) (.seq (.asg (.tup (.cons (.name 2) (.cons (.name 3) .nil))) (.var 0)) (.seq (.iff (.not (.call 2 (.cons (.var 2) (.cons (.cst (.int 1)) (.cons (.cst (.int (4))) .nil))))) (.seq (.rse 0 (.tup (.nil))) .skip) (.skip)) (.seq (.expr (.call 6 (.cons (.var 3) (.cons (.var 2) (.cons (.tup (.nil)) .nil))))) (.seq (.asg (.name 1) (.bi .len (.cons (.call 5 (.cons (.var 3) (.cons (.tup (.nil)) .nil))) .nil))) (.seq (.iff (.or (.cmp .gt (.var 1) (.cst (.int (40)))) (.cmp .gt (.bi .len (.cons (.call 1 (.cons (.var 0) .nil)) .nil)) (.cst (.int (12))))) (.seq (.rse 0 (.tup (.nil))) .skip) (.skip)) (.seq (.ret (.var 0)) .skip))))))
def d0 : Df := ⟨("require_program" : Str), [("value" : Str)], [("value" : Str), ("many_statements" : Str), ("names" : Str), ("block" : Str)], c0⟩
abbrev s1 : Stmt := PySem.Challenge.pw_copyplaces_k02_sizes_of_programs.main.body.getD 14 (.Pass ⟨0, 0, 0, 0⟩)
def c1 : C := .seq (.ret (.bi .tuple (.cons (.lc (.tup (.cons (.name 1) (.cons (.name 2) .nil))) (.seq (.call 5 (.cons (.ix (.var 0) (.cst (.int 1))) (.cons (.tup (.nil)) .nil)))) [1, 2] (.some (.call 3 (.cons (.var 2) .nil))) (.var 1)) .nil))) .skip
def d1 : Df := ⟨("spot_paths" : Str), [("program" : Str)], [("program" : Str), ("path" : Str), ("statement" : Str)], c1⟩
abbrev s2 : Stmt := PySem.Challenge.pw_copyplaces_k02_sizes_of_programs.main.body.getD 15 (.Pass ⟨0, 0, 0, 0⟩)
def c2 : C := .seq (.ret (.and (.isi .int (.var 0)) (.and (.not (.isi .bool (.var 0))) (.chn .le .le (.var 1) (.var 0) (.var 2))))) .skip
def d2 : Df := ⟨("is_number" : Str), [("value" : Str), ("least" : Str), ("most" : Str)], [("value" : Str), ("least" : Str), ("most" : Str)], c2⟩
abbrev s3 : Stmt := PySem.Challenge.pw_copyplaces_k02_sizes_of_programs.main.body.getD 16 (.Pass ⟨0, 0, 0, 0⟩)
def c3 : C := .seq (.ret (.cmp .isin (.ix (.var 0) (.cst (.int 0))) (.cst (.tup [.str "look", .str "choose", .str "loop"])))) .skip
def d3 : Df := ⟨("is_spot" : Str), [("statement" : Str)], [("statement" : Str)], c3⟩
abbrev s4 : Stmt := PySem.Challenge.pw_copyplaces_k02_sizes_of_programs.main.body.getD 17 (.Pass ⟨0, 0, 0, 0⟩)
def c4 : C := .seq (.iff (.cmp .eq (.ix (.var 0) (.cst (.int 0))) (.cst (.str "choose"))) (.seq (.ret (.ix (.var 0) (.cst (.int 1)))) .skip) (.skip)) (.seq (.iff (.cmp .eq (.ix (.var 0) (.cst (.int 0))) (.cst (.str "loop"))) (.seq (.ret (.tup (.cons (.ix (.var 0) (.cst (.int 1))) .nil))) .skip) (.skip)) (.seq (.ret (.tup (.nil))) .skip))
def d4 : Df := ⟨("blocks_in" : Str), [("statement" : Str)], [("statement" : Str)], c4⟩
abbrev s5 : Stmt := PySem.Challenge.pw_copyplaces_k02_sizes_of_programs.main.body.getD 18 (.Pass ⟨0, 0, 0, 0⟩)
def c5 : C := .seq (.asg (.name 2) (.lst (.nil))) (.seq (.for_ (.tup (.cons (.name 3) (.cons (.name 4) .nil))) (.enum (.var 0)) (.seq (.asg (.name 5) (.op .add (.var 1) (.tup (.cons (.var 3) .nil)))) (.seq (.expr (.mt .append (.var 2) (.cons (.tup (.cons (.var 5) (.cons (.var 4) .nil))) .nil))) (.seq (.for_ (.tup (.cons (.name 6) (.cons (.name 7) .nil))) (.enum (.call 4 (.cons (.var 4) .nil))) (.seq (.expr (.mt .extend (.var 2) (.cons (.call 5 (.cons (.var 7) (.cons (.op .add (.var 5) (.tup (.cons (.var 6) .nil))) .nil))) .nil))) .skip)) .skip)))) (.seq (.ret (.var 2)) .skip))
def d5 : Df := ⟨("statements_in" : Str), [("block" : Str), ("path" : Str)], [("block" : Str), ("path" : Str), ("rows" : Str), ("index" : Str), ("statement" : Str), ("here" : Str), ("which" : Str), ("inner" : Str)], c5⟩
abbrev s6 : Stmt := PySem.Challenge.pw_copyplaces_k02_sizes_of_programs.main.body.getD 19 (.Pass ⟨0, 0, 0, 0⟩)
def c6 : C := .seq (.asg (.name 3) (.op .add (.op .fdiv (.bi .len (.cons (.var 2) .nil)) (.cst (.int 2))) (.cst (.int 1)))) (.seq (.iff (.or (.not (.isi .tuple (.var 0))) (.or (.cmp .gt (.bi .len (.cons (.var 0) .nil)) (.cst (.int (8)))) (.cmp .gt (.var 3) (.cst (.int (5)))))) (.seq (.rse 0 (.var 2)) .skip) (.skip)) (.seq (.for_ (.tup (.cons (.name 4) (.cons (.name 5) .nil))) (.enum (.var 0)) (.seq (.asg (.name 6) (.op .add (.var 2) (.tup (.cons (.var 4) .nil)))) (.seq (.iff (.not (.call 7 (.cons (.var 5) (.cons (.var 1) .nil)))) (.seq (.rse 0 (.var 6)) .skip) (.skip)) (.seq (.for_ (.tup (.cons (.name 7) (.cons (.name 8) .nil))) (.enum (.call 4 (.cons (.var 5) .nil))) (.seq (.expr (.call 6 (.cons (.var 8) (.cons (.var 1) (.cons (.op .add (.var 6) (.tup (.cons (.var 7) .nil))) .nil))))) .skip)) .skip)))) .skip))
def d6 : Df := ⟨("_require_block" : Str), [("block" : Str), ("names" : Str), ("path" : Str)], [("block" : Str), ("names" : Str), ("path" : Str), ("depth" : Str), ("index" : Str), ("statement" : Str), ("here" : Str), ("which" : Str), ("inner" : Str)], c6⟩
abbrev s7 : Stmt := PySem.Challenge.pw_copyplaces_k02_sizes_of_programs.main.body.getD 20 (.Pass ⟨0, 0, 0, 0⟩)
def c7 : C := .seq (.iff (.or (.not (.isi .tuple (.var 0))) (.cmp .eq (.bi .len (.cons (.var 0) .nil)) (.cst (.int 0)))) (.seq (.ret (.cst (.bl false))) .skip) (.skip)) (.seq (.asg (.name 2) (.ix (.var 0) (.cst (.int 0)))) (.seq (.iff (.or (.cmp .eq (.var 2) (.cst (.str "fresh"))) (.cmp .eq (.var 2) (.cst (.str "look")))) (.seq (.ret (.and (.cmp .eq (.bi .len (.cons (.var 0) .nil)) (.cst (.int 2))) (.call 8 (.cons (.ix (.var 0) (.cst (.int 1))) (.cons (.var 1) .nil))))) .skip) (.skip)) (.seq (.iff (.cmp .eq (.var 2) (.cst (.str "give"))) (.seq (.ret (.and (.cmp .eq (.bi .len (.cons (.var 0) .nil)) (.cst (.int 4))) (.and (.call 10 (.cons (.ix (.var 0) (.cst (.int 1))) .nil)) (.call 9 (.cons (.ix (.var 0) (.cst (.int 2))) (.cons (.ix (.var 0) (.cst (.int 3))) (.cons (.var 1) .nil))))))) .skip) (.skip)) (.seq (.iff (.cmp .eq (.var 2) (.cst (.str "change"))) (.seq (.ret (.and (.cmp .eq (.bi .len (.cons (.var 0) .nil)) (.cst (.int 4))) (.and (.call 10 (.cons (.ix (.var 0) (.cst (.int 1))) .nil)) (.and (.call 8 (.cons (.ix (.var 0) (.cst (.int 2))) (.cons (.var 1) .nil))) (.call 2 (.cons (.ix (.var 0) (.cst (.int 3))) (.cons (.cst (.int 0)) (.cons (.cst (.int (9))) .nil)))))))) .skip) (.skip)) (.seq (.iff (.cmp .eq (.var 2) (.cst (.str "choose"))) (.seq (.ret (.and (.cmp .eq (.bi .len (.cons (.var 0) .nil)) (.cst (.int 2))) (.and (.isi .tuple (.ix (.var 0) (.cst (.int 1)))) (.chn .le .le (.cst (.int (2))) (.bi .len (.cons (.ix (.var 0) (.cst (.int 1))) .nil)) (.cst (.int (3))))))) .skip) (.skip)) (.seq (.ret (.and (.cmp .eq (.var 2) (.cst (.str "loop"))) (.cmp .eq (.bi .len (.cons (.var 0) .nil)) (.cst (.int 2))))) .skip))))))
def d7 : Df := ⟨("is_statement" : Str), [("value" : Str), ("names" : Str)], [("value" : Str), ("names" : Str), ("word" : Str)], c7⟩
abbrev s8 : Stmt := PySem.Challenge.pw_copyplaces_k02_sizes_of_programs.main.body.getD 21 (.Pass ⟨0, 0, 0, 0⟩)
def c8 : C := .seq (.ret (.call 2 (.cons (.var 0) (.cons (.cst (.int 0)) (.cons (.op .sub (.var 1) (.cst (.int 1))) .nil))))) .skip
def d8 : Df := ⟨("_is_name" : Str), [("value" : Str), ("names" : Str)], [("value" : Str), ("names" : Str)], c8⟩
abbrev s9 : Stmt := PySem.Challenge.pw_copyplaces_k02_sizes_of_programs.main.body.getD 22 (.Pass ⟨0, 0, 0, 0⟩)
def c9 : C := .seq (.ret (.and (.call 8 (.cons (.var 0) (.cons (.var 2) .nil))) (.and (.call 8 (.cons (.var 1) (.cons (.var 2) .nil))) (.cmp .ne (.var 0) (.var 1))))) .skip
def d9 : Df := ⟨("_are_two_names" : Str), [("x" : Str), ("y" : Str), ("names" : Str)], [("x" : Str), ("y" : Str), ("names" : Str)], c9⟩
abbrev s10 : Stmt := PySem.Challenge.pw_copyplaces_k02_sizes_of_programs.main.body.getD 23 (.Pass ⟨0, 0, 0, 0⟩)
def c10 : C := .seq (.ret (.call 2 (.cons (.var 0) (.cons (.cst (.int 0)) (.cons (.cst (.int (7))) .nil))))) .skip
def d10 : Df := ⟨("_is_label" : Str), [("value" : Str)], [("value" : Str)], c10⟩
abbrev s11 : Stmt := PySem.Challenge.pw_copyplaces_k02_sizes_of_programs.main.body.getD 25 (.Pass ⟨0, 0, 0, 0⟩)
def c11 : C := .seq (.ret (.lst (.cons (.bi .list (.cons (.sl (.var 0) .none (.some (.cst (.int 63)))) .nil)) (.cons (.cst (.int 0)) (.cons (.cst (.int 0)) .nil))))) .skip
def d11 : Df := ⟨("_law_pen" : Str), [("script" : Str)], [("script" : Str)], c11⟩
abbrev s12 : Stmt := PySem.Challenge.pw_copyplaces_k02_sizes_of_programs.main.body.getD 26 (.Pass ⟨0, 0, 0, 0⟩)
def c12 : C := .seq (.asg (.name 1) (.ix (.var 0) (.cst (.int 1)))) (.seq (.asg (.sub (.var 0) (.cst (.int 1))) (.op .add (.var 1) (.cst (.int 1)))) (.seq (.asg (.name 2) (.cst (.int 0))) (.seq (.iff (.cmp .ne (.ix (.var 0) (.cst (.int 0))) (.lst (.nil))) (.seq (.asg (.name 2) (.ix (.ix (.var 0) (.cst (.int 0))) (.op .mod (.bi .int (.cons (.var 1) .nil)) (.bi .len (.cons (.ix (.var 0) (.cst (.int 0))) .nil))))) .skip) (.skip)) (.seq (.iff (.and (.cmp .lt (.var 1) (.bi .len (.cons (.ix (.var 0) (.cst (.int 0))) .nil))) (.cmp .ge (.var 2) (.op .pow (.cst (.int 10)) (.cst (.int 18))))) (.seq (.ret (.op .sub (.var 2) (.op .pow (.cst (.int 10)) (.cst (.int 18))))) .skip) (.skip)) (.seq (.asg (.name 3) (.cst (.int 2305843009213693951))) (.seq (.asg (.name 4) (.op .mod (.bi .int (.cons (.op .add (.op .add (.op .mul (.var 2) (.cst (.int 48271))) (.op .mul (.cst (.int 40692)) (.var 1))) (.cst (.int 31))) .nil)) (.var 3))) (.seq (.asg (.name 5) (.var 4)) (.seq (.for_ (.name 6) (.rng (.cons (.cst (.int 6)) .nil)) (.seq (.asg (.name 4) (.op .mod (.bi .int (.cons (.op .add (.op .add (.op .mul (.var 4) (.var 4)) (.op .mul (.op .mul (.cst (.int 69621)) (.op .add (.var 6) (.cst (.int 1)))) (.op .add (.var 1) (.cst (.int 1))))) (.var 2)) .nil)) (.var 3))) (.seq (.asg (.name 5) (.op .add (.op .mul (.var 5) (.var 3)) (.var 4))) .skip))) (.seq (.ret (.var 5)) .skip)))))))))
def d12 : Df := ⟨("_law_fresh" : Str), [("pen" : Str)], [("pen" : Str), ("at" : Str), ("cell" : Str), ("p" : Str), ("state" : Str), ("found" : Str), ("turn" : Str)], c12⟩
abbrev s13 : Stmt := PySem.Challenge.pw_copyplaces_k02_sizes_of_programs.main.body.getD 27 (.Pass ⟨0, 0, 0, 0⟩)
def c13 : C := .seq (.iff (.cmp .lt (.ix (.var 0) (.cst (.int 2))) (.var 1)) (.seq (.asg (.sub (.var 0) (.cst (.int 2))) (.call 12 (.cons (.var 0) .nil))) .skip) (.skip)) (.seq (.asg (.name 2) (.op .mod (.bi .int (.cons (.ix (.var 0) (.cst (.int 2))) .nil)) (.var 1))) (.seq (.asg (.sub (.var 0) (.cst (.int 2))) (.op .fdiv (.bi .int (.cons (.ix (.var 0) (.cst (.int 2))) .nil)) (.var 1))) (.seq (.ret (.var 2)) .skip)))
def d13 : Df := ⟨("_law_draw" : Str), [("pen" : Str), ("many" : Str)], [("pen" : Str), ("many" : Str), ("digit" : Str)], c13⟩
abbrev s14 : Stmt := PySem.Challenge.pw_copyplaces_k02_sizes_of_programs.main.body.getD 28 (.Pass ⟨0, 0, 0, 0⟩)
def c14 : C := .seq (.asg (.name 1) (.cst .non)) (.seq (.tryP 0 1 2 3 (.seq (.asg (.name 1) (.ite (.cmp .eq (.call 0 (.cons (.var 0) .nil)) (.var 0)) (.cst (.str "program")) (.cst (.str "other")))) .skip)) (.seq (.ret (.var 1)) .skip))
def d14 : Df := ⟨("_law_raised" : Str), [("value" : Str)], [("value" : Str), ("found" : Str), ("e" : Str)], c14⟩
abbrev s15 : Stmt := PySem.Challenge.pw_copyplaces_k02_sizes_of_programs.main.body.getD 29 (.Pass ⟨0, 0, 0, 0⟩)
def c15 : C := .seq (.asg (.name 3) (.var 2)) (.seq (.for_ (.name 4) (.rng (.cons (.var 1) .nil)) (.seq (.asg (.name 3) (.ite (.cmp .eq (.var 0) (.cst (.str "loop"))) (.tup (.cons (.tup (.cons (.cst (.str "loop")) (.cons (.var 3) .nil))) .nil)) (.tup (.cons (.tup (.cons (.cst (.str "choose")) (.cons (.tup (.cons (.var 3) (.cons (.tup (.nil)) .nil))) .nil))) .nil)))) .skip)) (.seq (.ret (.var 3)) .skip))
def d15 : Df := ⟨("_law_nested" : Str), [("word" : Str), ("many" : Str), ("inner" : Str)], [("word" : Str), ("many" : Str), ("inner" : Str), ("block" : Str), ("lap" : Str)], c15⟩
abbrev s16 : Stmt := PySem.Challenge.pw_copyplaces_k02_sizes_of_programs.main.body.getD 30 (.Pass ⟨0, 0, 0, 0⟩)
def c16 : C := .seq (.asg (.name 1) (.call 11 (.cons (.var 0) .nil))) (.seq (.asg (.name 2) (.ix (.lst (.cons (.cst (.str "loop")) (.cons (.cst (.str "choose")) .nil))) (.call 13 (.cons (.var 1) (.cons (.cst (.int 2)) .nil))))) (.seq (.asg (.name 3) (.ix (.lst (.cons (.tup (.cons (.cst (.str "look")) (.cons (.cst (.int 0)) .nil))) (.cons (.tup (.cons (.cst (.str "fresh")) (.cons (.cst (.int 0)) .nil))) (.cons (.tup (.cons (.cst (.str "change")) (.cons (.cst (.int 7)) (.cons (.cst (.int 0)) (.cons (.cst (.int 9)) .nil))))) .nil)))) (.call 13 (.cons (.var 1) (.cons (.cst (.int 3)) .nil))))) (.seq (.iff (.cmp .ne (.call 14 (.cons (.tup (.cons (.cst (.int 1)) (.cons (.call 15 (.cons (.var 2) (.cons (.cst (.int 4)) (.cons (.tup (.cons (.var 3) .nil)) .nil)))) .nil))) .nil)) (.cst (.str "program"))) (.seq (.ret (.cst (.bl false))) .skip) (.skip)) (.seq (.iff (.cmp .ne (.call 14 (.cons (.tup (.cons (.cst (.int 1)) (.cons (.call 15 (.cons (.var 2) (.cons (.cst (.int 5)) (.cons (.tup (.cons (.var 3) .nil)) .nil)))) .nil))) .nil)) (.op .mul (.tup (.cons (.cst (.int 0)) (.cons (.cst (.int 0)) .nil))) (.cst (.int 5)))) (.seq (.ret (.cst (.bl false))) .skip) (.skip)) (.seq (.iff (.cmp .ne (.call 14 (.cons (.tup (.cons (.cst (.int 1)) (.cons (.op .add (.tup (.cons (.tup (.cons (.cst (.str "look")) (.cons (.cst (.int 1)) .nil))) .nil)) (.call 15 (.cons (.var 2) (.cons (.cst (.int 5)) (.cons (.tup (.nil)) .nil))))) .nil))) .nil)) (.tup (.cons (.cst (.int 0)) .nil))) (.seq (.ret (.cst (.bl false))) .skip) (.skip)) (.seq (.iff (.cmp .ne (.call 14 (.cons (.tup (.cons (.cst (.int 1)) (.cons (.op .add (.call 15 (.cons (.var 2) (.cons (.cst (.int 5)) (.cons (.tup (.nil)) .nil)))) (.tup (.cons (.tup (.cons (.cst (.str "look")) (.cons (.cst (.int 1)) .nil))) .nil))) .nil))) .nil)) (.op .mul (.tup (.cons (.cst (.int 0)) (.cons (.cst (.int 0)) .nil))) (.cst (.int 5)))) (.seq (.ret (.cst (.bl false))) .skip) (.skip)) (.seq (.iff (.or (.cmp .ne (.call 14 (.cons (.tup (.cons (.cst (.int 4)) (.cons (.op .mul (.tup (.cons (.var 3) .nil)) (.cst (.int 8))) .nil))) .nil)) (.cst (.str "program"))) (.cmp .ne (.call 14 (.cons (.tup (.cons (.cst (.int 4)) (.cons (.op .mul (.tup (.cons (.var 3) .nil)) (.cst (.int 9))) .nil))) .nil)) (.tup (.nil)))) (.seq (.ret (.cst (.bl false))) .skip) (.skip)) (.seq (.iff (.cmp .ne (.call 14 (.cons (.tup (.cons (.cst (.int 1)) (.cons (.tup (.cons (.tup (.cons (.cst (.str "loop")) (.cons (.op .mul (.tup (.cons (.var 3) .nil)) (.cst (.int 9))) .nil))) (.cons (.tup (.cons (.cst (.str "look")) (.cons (.cst (.int 2)) .nil))) .nil))) .nil))) .nil)) (.tup (.cons (.cst (.int 0)) (.cons (.cst (.int 0)) .nil)))) (.seq (.ret (.cst (.bl false))) .skip) (.skip)) (.seq (.iff (.cmp .ne (.call 14 (.cons (.tup (.cons (.cst (.int 1)) (.cons (.op .mul (.tup (.cons (.tup (.cons (.cst (.str "look")) (.cons (.cst (.int 4)) .nil))) .nil)) (.cst (.int 9))) .nil))) .nil)) (.tup (.nil))) (.seq (.ret (.cst (.bl false))) .skip) (.skip)) (.seq (.asg (.name 4) (.op .mul (.tup (.cons (.tup (.cons (.cst (.str "loop")) (.cons (.op .mul (.tup (.cons (.tup (.cons (.cst (.str "fresh")) (.cons (.cst (.int 0)) .nil))) .nil)) (.cst (.int 7))) .nil))) .nil)) (.cst (.int 5)))) (.seq (.iff (.or (.cmp .ne (.call 14 (.cons (.tup (.cons (.cst (.int 2)) (.cons (.var 4) .nil))) .nil)) (.cst (.str "program"))) (.cmp .ne (.call 14 (.cons (.tup (.cons (.cst (.int 2)) (.cons (.op .add (.var 4) (.tup (.cons (.tup (.cons (.cst (.str "fresh")) (.cons (.cst (.int 0)) .nil))) .nil))) .nil))) .nil)) (.tup (.nil)))) (.seq (.ret (.cst (.bl false))) .skip) (.skip)) (.seq (.iff (.cmp .ne (.call 14 (.cons (.tup (.cons (.cst (.int 2)) (.cons (.op .add (.var 4) (.tup (.cons (.tup (.cons (.cst (.str "fresh")) (.cons (.cst (.int 0)) .nil))) (.cons (.tup (.cons (.cst (.str "fresh")) (.cons (.cst (.int 2)) .nil))) .nil)))) .nil))) .nil)) (.tup (.cons (.cst (.int 6)) .nil))) (.seq (.ret (.cst (.bl false))) .skip) (.skip)) (.seq (.asg (.name 5) (.op .mul (.tup (.cons (.tup (.cons (.cst (.str "loop")) (.cons (.op .mul (.tup (.cons (.tup (.cons (.cst (.str "look")) (.cons (.cst (.int 0)) .nil))) .nil)) (.cst (.int 5))) .nil))) .nil)) (.cst (.int 2)))) (.seq (.iff (.or (.cmp .ne (.call 14 (.cons (.tup (.cons (.cst (.int 1)) (.cons (.var 5) .nil))) .nil)) (.cst (.str "program"))) (.cmp .ne (.call 14 (.cons (.tup (.cons (.cst (.int 1)) (.cons (.op .add (.var 5) (.tup (.cons (.tup (.cons (.cst (.str "look")) (.cons (.cst (.int 0)) .nil))) .nil))) .nil))) .nil)) (.tup (.nil)))) (.seq (.ret (.cst (.bl false))) .skip) (.skip)) (.seq (.iff (.cmp .ne (.call 14 (.cons (.tup (.cons (.cst (.int 1)) (.cons (.op .add (.var 5) (.tup (.cons (.tup (.cons (.cst (.str "look")) (.cons (.cst (.int 0)) .nil))) (.cons (.tup (.cons (.cst (.str "give")) (.cons (.cst (.int 0)) (.cons (.cst (.int 0)) (.cons (.cst (.int 0)) .nil))))) .nil)))) .nil))) .nil)) (.tup (.cons (.cst (.int 3)) .nil))) (.seq (.ret (.cst (.bl false))) .skip) (.skip)) (.seq (.for_ (.name 6) (.seq (.tup (.cons (.cst (.int 0)) (.cons (.cst (.int 5)) (.cons (.neg (.cst (.int 1))) (.cons (.cst (.bl true)) (.cons (.cst .non) (.cons (.cst (.str "1")) (.cons (.tup (.cons (.cst (.int 1)) .nil)) (.cons (.op .pow (.cst (.int 10)) (.cst (.int 20))) .nil)))))))))) (.seq (.iff (.or (.cmp .ne (.call 14 (.cons (.tup (.cons (.var 6) (.cons (.op .mul (.tup (.cons (.tup (.cons (.cst (.str "look")) (.cons (.cst (.int 9)) .nil))) .nil)) (.cst (.int 9))) .nil))) .nil)) (.tup (.nil))) (.cmp .ne (.call 14 (.cons (.tup (.cons (.var 6) (.cons (.tup (.nil)) .nil))) .nil)) (.tup (.nil)))) (.seq (.ret (.cst (.bl false))) .skip) (.skip)) .skip)) (.seq (.for_ (.name 6) (.seq (.tup (.cons (.cst (.int 1)) (.cons (.cst (.int 2)) (.cons (.cst (.int 3)) (.cons (.cst (.int 4)) .nil)))))) (.seq (.asg (.name 7) (.tup (.cons (.tup (.cons (.cst (.str "fresh")) (.cons (.op .sub (.var 6) (.cst (.int 1))) .nil))) .nil))) (.seq (.iff (.or (.cmp .ne (.call 14 (.cons (.tup (.cons (.var 6) (.cons (.var 7) .nil))) .nil)) (.cst (.str "program"))) (.cmp .ne (.call 14 (.cons (.tup (.cons (.var 6) (.cons (.tup (.cons (.tup (.cons (.cst (.str "fresh")) (.cons (.var 6) .nil))) .nil)) .nil))) .nil)) (.tup (.cons (.cst (.int 0)) .nil)))) (.seq (.ret (.cst (.bl false))) .skip) (.skip)) .skip))) (.seq (.ret (.cmp .eq (.lc (.name 8) (.seq (.tup (.cons (.tup (.nil)) (.cons (.tup (.cons (.cst (.int 1)) .nil)) (.cons (.lst (.cons (.cst (.int 1)) (.cons (.tup (.nil)) .nil))) (.cons (.tup (.cons (.cst (.int 1)) (.cons (.tup (.nil)) (.cons (.tup (.nil)) .nil)))) (.cons (.cst .non) (.cons (.cst (.int 7)) .nil)))))))) [8] .none (.call 14 (.cons (.var 8) .nil))) (.op .mul (.lst (.cons (.tup (.nil)) .nil)) (.cst (.int 6))))) .skip))))))))))))))))))
def d16 : Df := ⟨("law" : Str), [("script" : Str)], [("script" : Str), ("pen" : Str), ("word" : Str), ("one" : Str), ("full" : Str), ("looks" : Str), ("names" : Str), ("last" : Str), ("value" : Str)], c16⟩
abbrev sI : Stmt := (clsBody (PySem.Challenge.pw_copyplaces_k02_sizes_of_programs.main.body.getD 1 (.Pass ⟨0, 0, 0, 0⟩))).getD 0 (.Pass ⟨0, 0, 0, 0⟩)
def defs : List Df := [d0, d1, d2, d3, d4, d5, d6, d7, d8, d9, d10, d11, d12, d13, d14, d15, d16]
def bl : List Str := [("len" : Str), ("isinstance" : Str), ("tuple" : Str), ("int" : Str), ("bool" : Str), ("enumerate" : Str), ("list" : Str), ("range" : Str)]
def gs : List (Str × D) := [(("MOST_NAMES" : Str), (.int 4)), (("MOST_LABEL" : Str), (.int 7)), (("MOST_MARK" : Str), (.int 9)), (("MOST_IN_BLOCK" : Str), (.int 8)), (("MOST_STATEMENTS" : Str), (.int 40)), (("MOST_SPOTS" : Str), (.int 12)), (("MOST_DEPTH" : Str), (.int 5)), (("LEAST_CHOICES" : Str), (.int 2)), (("MOST_CHOICES" : Str), (.int 3)), (("SPOT_WORDS" : Str), (.tup [.str "look", .str "choose", .str "loop"]))]
def ec : List Str := [("InvalidProgram" : Str)]
def fs : List (Str × Nat) := [(("require_program" : Str), 1), (("spot_paths" : Str), 1), (("is_number" : Str), 3), (("is_spot" : Str), 1), (("blocks_in" : Str), 1), (("statements_in" : Str), 2), (("_require_block" : Str), 3), (("is_statement" : Str), 2), (("_is_name" : Str), 2), (("_are_two_names" : Str), 3), (("_is_label" : Str), 1), (("_law_pen" : Str), 1), (("_law_fresh" : Str), 1), (("_law_draw" : Str), 2), (("_law_raised" : Str), 1), (("_law_nested" : Str), 3), (("law" : Str), 1)]
theorem sc0 : FnScope d0.N d0.ps (defScope s0) := ⟨rfl, rfl, rfl, by decide +kernel, rfl, by decide +kernel, by decide +kernel⟩
theorem ok0 : okSs ⟨d0.N, bl, gs, fs, ec⟩ (defScope s0) d0.body (defBody s0) = true := by decide +kernel
theorem sc1 : FnScope d1.N d1.ps (defScope s1) := ⟨rfl, rfl, rfl, by decide +kernel, rfl, by decide +kernel, by decide +kernel⟩
theorem ok1 : okSs ⟨d1.N, bl, gs, fs, ec⟩ (defScope s1) d1.body (defBody s1) = true := by decide +kernel
theorem sc2 : FnScope d2.N d2.ps (defScope s2) := ⟨rfl, rfl, rfl, by decide +kernel, rfl, by decide +kernel, by decide +kernel⟩
theorem ok2 : okSs ⟨d2.N, bl, gs, fs, ec⟩ (defScope s2) d2.body (defBody s2) = true := by decide +kernel
theorem sc3 : FnScope d3.N d3.ps (defScope s3) := ⟨rfl, rfl, rfl, by decide +kernel, rfl, by decide +kernel, by decide +kernel⟩
theorem ok3 : okSs ⟨d3.N, bl, gs, fs, ec⟩ (defScope s3) d3.body (defBody s3) = true := by decide +kernel
theorem sc4 : FnScope d4.N d4.ps (defScope s4) := ⟨rfl, rfl, rfl, by decide +kernel, rfl, by decide +kernel, by decide +kernel⟩
theorem ok4 : okSs ⟨d4.N, bl, gs, fs, ec⟩ (defScope s4) d4.body (defBody s4) = true := by decide +kernel
theorem sc5 : FnScope d5.N d5.ps (defScope s5) := ⟨rfl, rfl, rfl, by decide +kernel, rfl, by decide +kernel, by decide +kernel⟩
theorem ok5 : okSs ⟨d5.N, bl, gs, fs, ec⟩ (defScope s5) d5.body (defBody s5) = true := by decide +kernel
theorem sc6 : FnScope d6.N d6.ps (defScope s6) := ⟨rfl, rfl, rfl, by decide +kernel, rfl, by decide +kernel, by decide +kernel⟩
theorem ok6 : okSs ⟨d6.N, bl, gs, fs, ec⟩ (defScope s6) d6.body (defBody s6) = true := by decide +kernel
theorem sc7 : FnScope d7.N d7.ps (defScope s7) := ⟨rfl, rfl, rfl, by decide +kernel, rfl, by decide +kernel, by decide +kernel⟩
theorem ok7 : okSs ⟨d7.N, bl, gs, fs, ec⟩ (defScope s7) d7.body (defBody s7) = true := by decide +kernel
theorem sc8 : FnScope d8.N d8.ps (defScope s8) := ⟨rfl, rfl, rfl, by decide +kernel, rfl, by decide +kernel, by decide +kernel⟩
theorem ok8 : okSs ⟨d8.N, bl, gs, fs, ec⟩ (defScope s8) d8.body (defBody s8) = true := by decide +kernel
theorem sc9 : FnScope d9.N d9.ps (defScope s9) := ⟨rfl, rfl, rfl, by decide +kernel, rfl, by decide +kernel, by decide +kernel⟩
theorem ok9 : okSs ⟨d9.N, bl, gs, fs, ec⟩ (defScope s9) d9.body (defBody s9) = true := by decide +kernel
theorem sc10 : FnScope d10.N d10.ps (defScope s10) := ⟨rfl, rfl, rfl, by decide +kernel, rfl, by decide +kernel, by decide +kernel⟩
theorem ok10 : okSs ⟨d10.N, bl, gs, fs, ec⟩ (defScope s10) d10.body (defBody s10) = true := by decide +kernel
theorem sc11 : FnScope d11.N d11.ps (defScope s11) := ⟨rfl, rfl, rfl, by decide +kernel, rfl, by decide +kernel, by decide +kernel⟩
theorem ok11 : okSs ⟨d11.N, bl, gs, fs, ec⟩ (defScope s11) d11.body (defBody s11) = true := by decide +kernel
theorem sc12 : FnScope d12.N d12.ps (defScope s12) := ⟨rfl, rfl, rfl, by decide +kernel, rfl, by decide +kernel, by decide +kernel⟩
theorem ok12 : okSs ⟨d12.N, bl, gs, fs, ec⟩ (defScope s12) d12.body (defBody s12) = true := by decide +kernel
theorem sc13 : FnScope d13.N d13.ps (defScope s13) := ⟨rfl, rfl, rfl, by decide +kernel, rfl, by decide +kernel, by decide +kernel⟩
theorem ok13 : okSs ⟨d13.N, bl, gs, fs, ec⟩ (defScope s13) d13.body (defBody s13) = true := by decide +kernel
theorem sc14 : FnScope d14.N d14.ps (defScope s14) := ⟨rfl, rfl, rfl, by decide +kernel, rfl, by decide +kernel, by decide +kernel⟩
theorem ok14 : okSs ⟨d14.N, bl, gs, fs, ec⟩ (defScope s14) d14.body (defBody s14) = true := by decide +kernel
theorem sc15 : FnScope d15.N d15.ps (defScope s15) := ⟨rfl, rfl, rfl, by decide +kernel, rfl, by decide +kernel, by decide +kernel⟩
theorem ok15 : okSs ⟨d15.N, bl, gs, fs, ec⟩ (defScope s15) d15.body (defBody s15) = true := by decide +kernel
theorem sc16 : FnScope d16.N d16.ps (defScope s16) := ⟨rfl, rfl, rfl, by decide +kernel, rfl, by decide +kernel, by decide +kernel⟩
theorem ok16 : okSs ⟨d16.N, bl, gs, fs, ec⟩ (defScope s16) d16.body (defBody s16) = true := by decide +kernel
theorem exm_own {K : PySem.W.Frag} {C : Addr} (a : PySem.W.subIn K (.ref C) (.type "BaseException") = some true) (b : PySem.W.isClsIn K C = true) (c : PySem.W.typeIn K (.ref C) = some (.type "type")) (d : PySem.W.subIn K (.ref C) (.ref C) = some true) : PySem.W.exmOne K (.ref C) (.ref C) = some true := by
  have b : (PySem.W.clsIn K C).isSome = true := b
  simp [PySem.W.exmOne, PySem.W.kitCls, a, b, c, d]
theorem all_mk {K : PySem.W.Frag} {h : Heap} {mg : Str → Option Value} (X : K.In h) (G : h.Ns mainGlobals mg)
    {f0 : Addr} {cd0 oc0 kV0 dc0 pm0 ct0 : Value} {od0 an0 : Option Addr} {sl0 : Array (Option Value)}
    (a0 : PySem.W.nsIn K mainGlobals "require_program" = some (some (.ref f0))) (l0 : K.lookup f0 = some ⟨oc0, od0, .func (PySem.W.fnOf "require_program" "require_program" (defArgs s0) (defBody s0) (defScope s0) .none kV0 dc0 pm0 an0 cd0 ct0), sl0⟩) (e0 : PySem.W.codeIn K cd0 "require_program" = true) (k0 : PySem.W.keepIn K (.ref f0) = true)
    {f1 : Addr} {cd1 oc1 kV1 dc1 pm1 ct1 : Value} {od1 an1 : Option Addr} {sl1 : Array (Option Value)}
    (a1 : PySem.W.nsIn K mainGlobals "spot_paths" = some (some (.ref f1))) (l1 : K.lookup f1 = some ⟨oc1, od1, .func (PySem.W.fnOf "spot_paths" "spot_paths" (defArgs s1) (defBody s1) (defScope s1) .none kV1 dc1 pm1 an1 cd1 ct1), sl1⟩) (e1 : PySem.W.codeIn K cd1 "spot_paths" = true) (k1 : PySem.W.keepIn K (.ref f1) = true)
    {f2 : Addr} {cd2 oc2 kV2 dc2 pm2 ct2 : Value} {od2 an2 : Option Addr} {sl2 : Array (Option Value)}
    (a2 : PySem.W.nsIn K mainGlobals "is_number" = some (some (.ref f2))) (l2 : K.lookup f2 = some ⟨oc2, od2, .func (PySem.W.fnOf "is_number" "is_number" (defArgs s2) (defBody s2) (defScope s2) .none kV2 dc2 pm2 an2 cd2 ct2), sl2⟩) (e2 : PySem.W.codeIn K cd2 "is_number" = true) (k2 : PySem.W.keepIn K (.ref f2) = true)
    {f3 : Addr} {cd3 oc3 kV3 dc3 pm3 ct3 : Value} {od3 an3 : Option Addr} {sl3 : Array (Option Value)}
    (a3 : PySem.W.nsIn K mainGlobals "is_spot" = some (some (.ref f3))) (l3 : K.lookup f3 = some ⟨oc3, od3, .func (PySem.W.fnOf "is_spot" "is_spot" (defArgs s3) (defBody s3) (defScope s3) .none kV3 dc3 pm3 an3 cd3 ct3), sl3⟩) (e3 : PySem.W.codeIn K cd3 "is_spot" = true) (k3 : PySem.W.keepIn K (.ref f3) = true)
    {f4 : Addr} {cd4 oc4 kV4 dc4 pm4 ct4 : Value} {od4 an4 : Option Addr} {sl4 : Array (Option Value)}
    (a4 : PySem.W.nsIn K mainGlobals "blocks_in" = some (some (.ref f4))) (l4 : K.lookup f4 = some ⟨oc4, od4, .func (PySem.W.fnOf "blocks_in" "blocks_in" (defArgs s4) (defBody s4) (defScope s4) .none kV4 dc4 pm4 an4 cd4 ct4), sl4⟩) (e4 : PySem.W.codeIn K cd4 "blocks_in" = true) (k4 : PySem.W.keepIn K (.ref f4) = true)
    {f5 : Addr} {cd5 oc5 kV5 dc5 pm5 ct5 : Value} {od5 an5 : Option Addr} {sl5 : Array (Option Value)}
    (a5 : PySem.W.nsIn K mainGlobals "statements_in" = some (some (.ref f5))) (l5 : K.lookup f5 = some ⟨oc5, od5, .func (PySem.W.fnOf "statements_in" "statements_in" (defArgs s5) (defBody s5) (defScope s5) .none kV5 dc5 pm5 an5 cd5 ct5), sl5⟩) (e5 : PySem.W.codeIn K cd5 "statements_in" = true) (k5 : PySem.W.keepIn K (.ref f5) = true)
    {f6 : Addr} {cd6 oc6 kV6 dc6 pm6 ct6 : Value} {od6 an6 : Option Addr} {sl6 : Array (Option Value)}
    (a6 : PySem.W.nsIn K mainGlobals "_require_block" = some (some (.ref f6))) (l6 : K.lookup f6 = some ⟨oc6, od6, .func (PySem.W.fnOf "_require_block" "_require_block" (defArgs s6) (defBody s6) (defScope s6) .none kV6 dc6 pm6 an6 cd6 ct6), sl6⟩) (e6 : PySem.W.codeIn K cd6 "_require_block" = true) (k6 : PySem.W.keepIn K (.ref f6) = true)
    {f7 : Addr} {cd7 oc7 kV7 dc7 pm7 ct7 : Value} {od7 an7 : Option Addr} {sl7 : Array (Option Value)}
    (a7 : PySem.W.nsIn K mainGlobals "is_statement" = some (some (.ref f7))) (l7 : K.lookup f7 = some ⟨oc7, od7, .func (PySem.W.fnOf "is_statement" "is_statement" (defArgs s7) (defBody s7) (defScope s7) .none kV7 dc7 pm7 an7 cd7 ct7), sl7⟩) (e7 : PySem.W.codeIn K cd7 "is_statement" = true) (k7 : PySem.W.keepIn K (.ref f7) = true)
    {f8 : Addr} {cd8 oc8 kV8 dc8 pm8 ct8 : Value} {od8 an8 : Option Addr} {sl8 : Array (Option Value)}
    (a8 : PySem.W.nsIn K mainGlobals "_is_name" = some (some (.ref f8))) (l8 : K.lookup f8 = some ⟨oc8, od8, .func (PySem.W.fnOf "_is_name" "_is_name" (defArgs s8) (defBody s8) (defScope s8) .none kV8 dc8 pm8 an8 cd8 ct8), sl8⟩) (e8 : PySem.W.codeIn K cd8 "_is_name" = true) (k8 : PySem.W.keepIn K (.ref f8) = true)
    {f9 : Addr} {cd9 oc9 kV9 dc9 pm9 ct9 : Value} {od9 an9 : Option Addr} {sl9 : Array (Option Value)}
    (a9 : PySem.W.nsIn K mainGlobals "_are_two_names" = some (some (.ref f9))) (l9 : K.lookup f9 = some ⟨oc9, od9, .func (PySem.W.fnOf "_are_two_names" "_are_two_names" (defArgs s9) (defBody s9) (defScope s9) .none kV9 dc9 pm9 an9 cd9 ct9), sl9⟩) (e9 : PySem.W.codeIn K cd9 "_are_two_names" = true) (k9 : PySem.W.keepIn K (.ref f9) = true)
    {f10 : Addr} {cd10 oc10 kV10 dc10 pm10 ct10 : Value} {od10 an10 : Option Addr} {sl10 : Array (Option Value)}
    (a10 : PySem.W.nsIn K mainGlobals "_is_label" = some (some (.ref f10))) (l10 : K.lookup f10 = some ⟨oc10, od10, .func (PySem.W.fnOf "_is_label" "_is_label" (defArgs s10) (defBody s10) (defScope s10) .none kV10 dc10 pm10 an10 cd10 ct10), sl10⟩) (e10 : PySem.W.codeIn K cd10 "_is_label" = true) (k10 : PySem.W.keepIn K (.ref f10) = true)
    {f11 : Addr} {cd11 oc11 kV11 dc11 pm11 ct11 : Value} {od11 an11 : Option Addr} {sl11 : Array (Option Value)}
    (a11 : PySem.W.nsIn K mainGlobals "_law_pen" = some (some (.ref f11))) (l11 : K.lookup f11 = some ⟨oc11, od11, .func (PySem.W.fnOf "_law_pen" "_law_pen" (defArgs s11) (defBody s11) (defScope s11) .none kV11 dc11 pm11 an11 cd11 ct11), sl11⟩) (e11 : PySem.W.codeIn K cd11 "_law_pen" = true) (k11 : PySem.W.keepIn K (.ref f11) = true)
    {f12 : Addr} {cd12 oc12 kV12 dc12 pm12 ct12 : Value} {od12 an12 : Option Addr} {sl12 : Array (Option Value)}
    (a12 : PySem.W.nsIn K mainGlobals "_law_fresh" = some (some (.ref f12))) (l12 : K.lookup f12 = some ⟨oc12, od12, .func (PySem.W.fnOf "_law_fresh" "_law_fresh" (defArgs s12) (defBody s12) (defScope s12) .none kV12 dc12 pm12 an12 cd12 ct12), sl12⟩) (e12 : PySem.W.codeIn K cd12 "_law_fresh" = true) (k12 : PySem.W.keepIn K (.ref f12) = true)
    {f13 : Addr} {cd13 oc13 kV13 dc13 pm13 ct13 : Value} {od13 an13 : Option Addr} {sl13 : Array (Option Value)}
    (a13 : PySem.W.nsIn K mainGlobals "_law_draw" = some (some (.ref f13))) (l13 : K.lookup f13 = some ⟨oc13, od13, .func (PySem.W.fnOf "_law_draw" "_law_draw" (defArgs s13) (defBody s13) (defScope s13) .none kV13 dc13 pm13 an13 cd13 ct13), sl13⟩) (e13 : PySem.W.codeIn K cd13 "_law_draw" = true) (k13 : PySem.W.keepIn K (.ref f13) = true)
    {f14 : Addr} {cd14 oc14 kV14 dc14 pm14 ct14 : Value} {od14 an14 : Option Addr} {sl14 : Array (Option Value)}
    (a14 : PySem.W.nsIn K mainGlobals "_law_raised" = some (some (.ref f14))) (l14 : K.lookup f14 = some ⟨oc14, od14, .func (PySem.W.fnOf "_law_raised" "_law_raised" (defArgs s14) (defBody s14) (defScope s14) .none kV14 dc14 pm14 an14 cd14 ct14), sl14⟩) (e14 : PySem.W.codeIn K cd14 "_law_raised" = true) (k14 : PySem.W.keepIn K (.ref f14) = true)
    {f15 : Addr} {cd15 oc15 kV15 dc15 pm15 ct15 : Value} {od15 an15 : Option Addr} {sl15 : Array (Option Value)}
    (a15 : PySem.W.nsIn K mainGlobals "_law_nested" = some (some (.ref f15))) (l15 : K.lookup f15 = some ⟨oc15, od15, .func (PySem.W.fnOf "_law_nested" "_law_nested" (defArgs s15) (defBody s15) (defScope s15) .none kV15 dc15 pm15 an15 cd15 ct15), sl15⟩) (e15 : PySem.W.codeIn K cd15 "_law_nested" = true) (k15 : PySem.W.keepIn K (.ref f15) = true)
    {f16 : Addr} {cd16 oc16 kV16 dc16 pm16 ct16 : Value} {od16 an16 : Option Addr} {sl16 : Array (Option Value)}
    (a16 : PySem.W.nsIn K mainGlobals "law" = some (some (.ref f16))) (l16 : K.lookup f16 = some ⟨oc16, od16, .func (PySem.W.fnOf "law" "law" (defArgs s16) (defBody s16) (defScope s16) .none kV16 dc16 pm16 an16 cd16 ct16), sl16⟩) (e16 : PySem.W.codeIn K cd16 "law" = true) (k16 : PySem.W.keepIn K (.ref f16) = true)
    (z0 : PySem.W.nsIn K mainGlobals "len" = some none)
    (z1 : PySem.W.nsIn K mainGlobals "isinstance" = some none)
    (z2 : PySem.W.nsIn K mainGlobals "tuple" = some none)
    (z3 : PySem.W.nsIn K mainGlobals "int" = some none)
    (z4 : PySem.W.nsIn K mainGlobals "bool" = some none)
    (z5 : PySem.W.nsIn K mainGlobals "enumerate" = some none)
    (z6 : PySem.W.nsIn K mainGlobals "list" = some none)
    (z7 : PySem.W.nsIn K mainGlobals "range" = some none)
    {t0} (g0 : PySem.W.nsIn K mainGlobals "MOST_NAMES" = some (some (.int 4 t0)))
    {t1} (g1 : PySem.W.nsIn K mainGlobals "MOST_LABEL" = some (some (.int 7 t1)))
    {t2} (g2 : PySem.W.nsIn K mainGlobals "MOST_MARK" = some (some (.int 9 t2)))
    {t3} (g3 : PySem.W.nsIn K mainGlobals "MOST_IN_BLOCK" = some (some (.int 8 t3)))
    {t4} (g4 : PySem.W.nsIn K mainGlobals "MOST_STATEMENTS" = some (some (.int 40 t4)))
    {t5} (g5 : PySem.W.nsIn K mainGlobals "MOST_SPOTS" = some (some (.int 12 t5)))
    {t6} (g6 : PySem.W.nsIn K mainGlobals "MOST_DEPTH" = some (some (.int 5 t6)))
    {t7} (g7 : PySem.W.nsIn K mainGlobals "LEAST_CHOICES" = some (some (.int 2 t7)))
    {t8} (g8 : PySem.W.nsIn K mainGlobals "MOST_CHOICES" = some (some (.int 3 t8)))
    {C0 fI0 : Addr} {cq0 : Str} {cN0 : Addr} {bb0 : List Value} {sn0 : List Str} {sub0 : List Value} {ab0 : Bool} {col0 : Option Bool} {dd0 : Option Addr} {u00 u10 u20 u30 u50 : Option Value}
    {icd ioc ikV idc ipm ict : Value} {iod ian : Option Addr} {isl : Array (Option Value)}
    (xm : PySem.W.nsIn K mainGlobals "InvalidProgram" = some (some (.ref C0))) (xo : K.lookup C0 = some (excClassObj "InvalidProgram" cq0 C0 cN0 bb0 [.type "ValueError", .type "Exception", .type "BaseException", .type "object"] true sn0 sub0 ab0 col0 dd0 u00 u10 u20 u30 u50 "ValueError.__new__"))
    (xs : PySem.W.findIn K (.ref C0) "__setattr__" = some (some (.builtin "object.__setattr__"))) (xe : PySem.W.subIn K (.ref C0) (.type "BaseException") = some true) (xt : PySem.W.typeIn K (.ref C0) = some (.type "type")) (xk : PySem.W.keepIn K (.ref C0) = true)
    (xi : PySem.W.findIn K (.ref C0) "__init__" = some (some (.ref fI0))) (xj : PySem.W.typeIn K (.ref fI0) = some (.type "function")) (xp : PySem.W.findIn K (.ref C0) "path" = some none) (xv : PySem.W.findCls K (.type "ValueError") (.type "type") "__init__" = some (.val (.builtin "ValueError.__init__")))
    (xw : PySem.W.nsIn K mainGlobals "ValueError" = some none) (xg : PySem.W.findIn K (.ref C0) "__getattribute__" = some (some (.builtin "BaseException.__getattribute__"))) (xh : PySem.W.findIn K (.ref C0) "__getattr__" = some none) (xd : PySem.W.hasDictIn K C0 = true) (xu : PySem.W.isClsIn K C0 = true) (xy : PySem.W.subIn K (.ref C0) (.ref C0) = some true)
    (xl : K.lookup fI0 = some ⟨ioc, iod, .func (PySem.W.fnOf "__init__" "InvalidProgram.__init__" (defArgs sI) (defBody sI) (defScope sI) .none ikV idc ipm ian icd ict), isl⟩) (xc : PySem.W.codeIn K icd "InvalidProgram.__init__" = true) (xq : PySem.W.keepIn K (.ref fI0) = true)
    {gaS : Addr} {gnS : Nat} {gtS : Array (Option Value)} {tS0 tS1 tS2} (gS : PySem.W.nsIn K mainGlobals "SPOT_WORDS" = some (some (.ref gaS))) (glS : K.lookup gaS = some ⟨.type "tuple", none, .seq #[.str "look" tS0, .str "choose" tS1, .str "loop" tS2] gnS, gtS⟩)
    : (∀ x ∈ bl, mg x = none) ∧ (∀ x d, gs.lookup x = some d → GlIs K mg x d) ∧ (∀ (g : Nat) d', defs[g]? = some d' → ∃ a fd, DefIs K mg bl gs (defs.map fun d => (d.name, d.ps.length)) ec d' a fd) ∧ (∃ cs : Nat → Option Addr, ∀ (c : Nat) nm, ec[c]? = some nm → ∃ C, cs c = some C ∧ ErrIs K mg nm C) ∧
      ∃ a fd, DefIs K mg bl gs (defs.map fun d => (d.name, d.ps.length)) ec d16 a fd ∧ ∀ (s : Shared) (u : Value), BindsTo s fd ⟨[u], []⟩ [(("script" : Str), u)] := by
  have D0 : DefIs K mg bl gs fs ec d0 f0 _ := ⟨PySem.W.mg_of X G a0, k0, s0, _, fun_mk (st := s0) l0 e0 k0, sc0, (fun_mk (st := s0) l0 e0 k0).binds (ps := d0.ps) fun _ _ _ _ _ _ us hl => (match us, hl with | [_], _ => rfl), ok0⟩
  have D1 : DefIs K mg bl gs fs ec d1 f1 _ := ⟨PySem.W.mg_of X G a1, k1, s1, _, fun_mk (st := s1) l1 e1 k1, sc1, (fun_mk (st := s1) l1 e1 k1).binds (ps := d1.ps) fun _ _ _ _ _ _ us hl => (match us, hl with | [_], _ => rfl), ok1⟩
  have D2 : DefIs K mg bl gs fs ec d2 f2 _ := ⟨PySem.W.mg_of X G a2, k2, s2, _, fun_mk (st := s2) l2 e2 k2, sc2, (fun_mk (st := s2) l2 e2 k2).binds (ps := d2.ps) fun _ _ _ _ _ _ us hl => (match us, hl with | [_, _, _], _ => rfl), ok2⟩
  have D3 : DefIs K mg bl gs fs ec d3 f3 _ := ⟨PySem.W.mg_of X G a3, k3, s3, _, fun_mk (st := s3) l3 e3 k3, sc3, (fun_mk (st := s3) l3 e3 k3).binds (ps := d3.ps) fun _ _ _ _ _ _ us hl => (match us, hl with | [_], _ => rfl), ok3⟩
  have D4 : DefIs K mg bl gs fs ec d4 f4 _ := ⟨PySem.W.mg_of X G a4, k4, s4, _, fun_mk (st := s4) l4 e4 k4, sc4, (fun_mk (st := s4) l4 e4 k4).binds (ps := d4.ps) fun _ _ _ _ _ _ us hl => (match us, hl with | [_], _ => rfl), ok4⟩
  have D5 : DefIs K mg bl gs fs ec d5 f5 _ := ⟨PySem.W.mg_of X G a5, k5, s5, _, fun_mk (st := s5) l5 e5 k5, sc5, (fun_mk (st := s5) l5 e5 k5).binds (ps := d5.ps) fun _ _ _ _ _ _ us hl => (match us, hl with | [_, _], _ => rfl), ok5⟩
  have D6 : DefIs K mg bl gs fs ec d6 f6 _ := ⟨PySem.W.mg_of X G a6, k6, s6, _, fun_mk (st := s6) l6 e6 k6, sc6, (fun_mk (st := s6) l6 e6 k6).binds (ps := d6.ps) fun _ _ _ _ _ _ us hl => (match us, hl with | [_, _, _], _ => rfl), ok6⟩
  have D7 : DefIs K mg bl gs fs ec d7 f7 _ := ⟨PySem.W.mg_of X G a7, k7, s7, _, fun_mk (st := s7) l7 e7 k7, sc7, (fun_mk (st := s7) l7 e7 k7).binds (ps := d7.ps) fun _ _ _ _ _ _ us hl => (match us, hl with | [_, _], _ => rfl), ok7⟩
  have D8 : DefIs K mg bl gs fs ec d8 f8 _ := ⟨PySem.W.mg_of X G a8, k8, s8, _, fun_mk (st := s8) l8 e8 k8, sc8, (fun_mk (st := s8) l8 e8 k8).binds (ps := d8.ps) fun _ _ _ _ _ _ us hl => (match us, hl with | [_, _], _ => rfl), ok8⟩
  have D9 : DefIs K mg bl gs fs ec d9 f9 _ := ⟨PySem.W.mg_of X G a9, k9, s9, _, fun_mk (st := s9) l9 e9 k9, sc9, (fun_mk (st := s9) l9 e9 k9).binds (ps := d9.ps) fun _ _ _ _ _ _ us hl => (match us, hl with | [_, _, _], _ => rfl), ok9⟩
  have D10 : DefIs K mg bl gs fs ec d10 f10 _ := ⟨PySem.W.mg_of X G a10, k10, s10, _, fun_mk (st := s10) l10 e10 k10, sc10, (fun_mk (st := s10) l10 e10 k10).binds (ps := d10.ps) fun _ _ _ _ _ _ us hl => (match us, hl with | [_], _ => rfl), ok10⟩
  have D11 : DefIs K mg bl gs fs ec d11 f11 _ := ⟨PySem.W.mg_of X G a11, k11, s11, _, fun_mk (st := s11) l11 e11 k11, sc11, (fun_mk (st := s11) l11 e11 k11).binds (ps := d11.ps) fun _ _ _ _ _ _ us hl => (match us, hl with | [_], _ => rfl), ok11⟩
  have D12 : DefIs K mg bl gs fs ec d12 f12 _ := ⟨PySem.W.mg_of X G a12, k12, s12, _, fun_mk (st := s12) l12 e12 k12, sc12, (fun_mk (st := s12) l12 e12 k12).binds (ps := d12.ps) fun _ _ _ _ _ _ us hl => (match us, hl with | [_], _ => rfl), ok12⟩
  have D13 : DefIs K mg bl gs fs ec d13 f13 _ := ⟨PySem.W.mg_of X G a13, k13, s13, _, fun_mk (st := s13) l13 e13 k13, sc13, (fun_mk (st := s13) l13 e13 k13).binds (ps := d13.ps) fun _ _ _ _ _ _ us hl => (match us, hl with | [_, _], _ => rfl), ok13⟩
  have D14 : DefIs K mg bl gs fs ec d14 f14 _ := ⟨PySem.W.mg_of X G a14, k14, s14, _, fun_mk (st := s14) l14 e14 k14, sc14, (fun_mk (st := s14) l14 e14 k14).binds (ps := d14.ps) fun _ _ _ _ _ _ us hl => (match us, hl with | [_], _ => rfl), ok14⟩
  have D15 : DefIs K mg bl gs fs ec d15 f15 _ := ⟨PySem.W.mg_of X G a15, k15, s15, _, fun_mk (st := s15) l15 e15 k15, sc15, (fun_mk (st := s15) l15 e15 k15).binds (ps := d15.ps) fun _ _ _ _ _ _ us hl => (match us, hl with | [_, _, _], _ => rfl), ok15⟩
  have D16 : DefIs K mg bl gs fs ec d16 f16 _ := ⟨PySem.W.mg_of X G a16, k16, s16, _, fun_mk (st := s16) l16 e16 k16, sc16, (fun_mk (st := s16) l16 e16 k16).binds (ps := d16.ps) fun _ _ _ _ _ _ us hl => (match us, hl with | [_], _ => rfl), ok16⟩
  refine ⟨fun x hx => ?_, fun x i hx => ?_, fun g d' hg => ?_, ?_, f16, _, D16, fun s v => .of_eq rfl⟩
  · simp only [bl, List.mem_cons, List.not_mem_nil, or_false] at hx
    rcases hx with rfl | rfl | rfl | rfl | rfl | rfl | rfl | rfl
    · exact PySem.W.mg_none_of X G z0
    · exact PySem.W.mg_none_of X G z1
    · exact PySem.W.mg_none_of X G z2
    · exact PySem.W.mg_none_of X G z3
    · exact PySem.W.mg_none_of X G z4
    · exact PySem.W.mg_none_of X G z5
    · exact PySem.W.mg_none_of X G z6
    · exact PySem.W.mg_none_of X G z7
  · have key : ∀ (l : List (Str × D)), (∀ y j, (y, j) ∈ l → GlIs K mg y j) → ∀ x i, l.lookup x = some i → GlIs K mg x i := fun l => by
      induction l with
      | nil => intro _ x i h; cases h
      | cons p r ih =>
        intro hp x i h
        obtain ⟨y, j⟩ := p
        rw [List.lookup_cons] at h
        split at h
        · next e => cases h; rw [eq_of_beq e]; exact hp y _ (List.mem_cons_self ..)
        · exact ih (fun y j hy => hp y j (List.mem_cons_of_mem _ hy)) x i h
    refine key gs (fun y j hy => ?_) x i hx
    simp only [gs, List.mem_cons, List.not_mem_nil, or_false, Prod.mk.injEq] at hy
    rcases hy with ⟨rfl, rfl⟩ | ⟨rfl, rfl⟩ | ⟨rfl, rfl⟩ | ⟨rfl, rfl⟩ | ⟨rfl, rfl⟩ | ⟨rfl, rfl⟩ | ⟨rfl, rfl⟩ | ⟨rfl, rfl⟩ | ⟨rfl, rfl⟩ | ⟨rfl, rfl⟩
    · exact ⟨_, PySem.W.mg_of X G g0⟩
    · exact ⟨_, PySem.W.mg_of X G g1⟩
    · exact ⟨_, PySem.W.mg_of X G g2⟩
    · exact ⟨_, PySem.W.mg_of X G g3⟩
    · exact ⟨_, PySem.W.mg_of X G g4⟩
    · exact ⟨_, PySem.W.mg_of X G g5⟩
    · exact ⟨_, PySem.W.mg_of X G g6⟩
    · exact ⟨_, PySem.W.mg_of X G g7⟩
    · exact ⟨_, PySem.W.mg_of X G g8⟩
    · exact ⟨gaS, _, _, gnS, [.str "look", .str "choose", .str "loop"], PySem.W.mg_of X G gS, glS, rfl, rfl, rfl, by show 3 ≤ sizeLine; rw [sizeLine_eq]; decide, (.cons ⟨_, rfl⟩ (.cons ⟨_, rfl⟩ (.cons ⟨_, rfl⟩ .nil))), rfl⟩
  · match g, hg with
    | 0, hg => cases hg; exact ⟨_, _, D0⟩
    | 1, hg => cases hg; exact ⟨_, _, D1⟩
    | 2, hg => cases hg; exact ⟨_, _, D2⟩
    | 3, hg => cases hg; exact ⟨_, _, D3⟩
    | 4, hg => cases hg; exact ⟨_, _, D4⟩
    | 5, hg => cases hg; exact ⟨_, _, D5⟩
    | 6, hg => cases hg; exact ⟨_, _, D6⟩
    | 7, hg => cases hg; exact ⟨_, _, D7⟩
    | 8, hg => cases hg; exact ⟨_, _, D8⟩
    | 9, hg => cases hg; exact ⟨_, _, D9⟩
    | 10, hg => cases hg; exact ⟨_, _, D10⟩
    | 11, hg => cases hg; exact ⟨_, _, D11⟩
    | 12, hg => cases hg; exact ⟨_, _, D12⟩
    | 13, hg => cases hg; exact ⟨_, _, D13⟩
    | 14, hg => cases hg; exact ⟨_, _, D14⟩
    | 15, hg => cases hg; exact ⟨_, _, D15⟩
    | 16, hg => cases hg; exact ⟨_, _, D16⟩
    | _ + 17, hg => cases hg
  · refine ⟨fun _ => some C0, fun c nm h => ⟨C0, rfl, ?_⟩⟩
    have hn : nm = ("InvalidProgram" : Str) := by
      match c, h with
      | 0, h => cases h; rfl
      | _ + 1, h => cases h
    subst hn
    have FI := fun_mk (st := sI) xl xc xq
    have ER : ErrC K mg "InvalidProgram" C0 fI0 := ⟨PySem.W.mg_of X G xm, ⟨⟨_, _, _, _, _, _, _, _, _, _, _, _, _, _, _, xo, by decide +kernel⟩, xs, xe, xt, xk⟩, xi, xj, xp, xv, PySem.W.mg_none_of X G xw⟩
    exact ⟨fI0, _, ER, ⟨xg, xh, xe, xd⟩, exm_own xe xu xt xy, FI.binds (ps := NI) (fun _ _ _ _ _ _ us hl => (match us, hl with | [_, _], _ => rfl)), fun P w base => init_ok (n := 0) ER FI ⟨rfl, rfl, rfl, by decide +kernel, rfl, by decide +kernel, by decide +kernel⟩ rfl (by decide +kernel) (fun env => ⟨_, rfl⟩) rfl⟩
end L

set_option maxRecDepth 100000
namespace Mi
open PySem PySem.Spec PyProof.Rows L2
theorem call_of {defs : List Df} {F k f : Nat} {ds : List D} {S S1 : Sto} {d : Df} {v : D} {ε' : Sl} (hd : defs[f]? = some d) (hl : ds.length = d.ps.length) (h : xc (call defs F k) F d.body (ds.map some ++ List.replicate (d.N.length - ds.length) none) S = .ok (.rt v, ε') S1) : call defs F (k + 1) f ds S = .ok v S1 := by
  unfold call
  rw [hd]
  simp only [if_pos hl]
  rw [h]
  rfl
theorem draw_call {defs : List Df} {F k fr dr : Nat} {d1 d2 : Df} (hF : 8 ≤ F) (h1 : defs[fr]? = some d1) (e1 : d1.body = cFresh) (n1 : d1.N.length = 7) (p1 : d1.ps.length = 1) (h2 : defs[dr]? = some d2) (e2 : d2.body = cDraw fr) (n2 : d2.N.length = 3) (p2 : d2.ps.length = 2)
    {S : Sto} {p c : Nat} {ns : List Int} {a r many : Int} (h : Pen S p c ns a r) (m0 : 0 < many) (m1 : many < 1073741824) :
    ∃ (d a' r' : Int) (J : Sto), 0 ≤ d ∧ d < many ∧ call defs F (k + 2) dr [.ref p, .int many] S = .ok (.int d) (S.set p (.lst [.ref c, .int a', .int r']) ++ J) := by
  have hf : ∃ d : Int, call defs F (k + 1) fr [.ref p] S = .ok (.int d) (S.set p (.lst [.ref c, .int (a + 1), .int r]) ++ [.lst []]) := by
    obtain ⟨d, ε', q⟩ := fresh_run (cl := call defs F k) (F := F) h hF
    refine ⟨d, call_of h1 p1.symm (ε' := ε') ?_⟩
    rw [e1, n1]
    exact q
  obtain ⟨d, a', r', J, ε', q1, q2, q3⟩ := draw_run (F := F) h m0 m1 hf
  refine ⟨d, a', r', J, q1, q2, call_of h2 p2.symm (ε' := ε') ?_⟩
  rw [e2, n2]
  exact q3
theorem cut_ints (ns : List Int) (lo hi : Option Int) : ∃ ms : List Int, cutD (ns.map D.int) lo hi = ms.map D.int ∧ ms.length ≤ ns.length := by
  refine ⟨(ns.drop (HT.sIx ns.length 0 lo)).take (HT.sIx ns.length ns.length hi - HT.sIx ns.length 0 lo), ?_, ?_⟩
  · unfold cutD
    rw [List.length_map, List.map_take, List.map_drop]
  · rw [List.length_take, List.length_drop]
    omega
theorem pen_call {defs : List Df} {F k pe : Nat} {d1 : Df} (h1 : defs[pe]? = some d1) (e1 : d1.body = cPen) (n1 : d1.N.length = 1) (p1 : d1.ps.length = 1) {ns : List Int} (hn : ns.length ≤ 63) :
    ∃ ms : List Int, call defs F (k + 1) pe [.rol (ns.map .int)] [] = .ok (.ref 2) [.lst (ms.map .int), .lst (ms.map .int), .lst [.ref 1, .int 0, .int 0]] := by
  obtain ⟨ms, e, hl⟩ := cut_ints ns none (some 63)
  refine ⟨ms, call_of h1 p1.symm (ε' := [some (.rol (ns.map .int))]) ?_⟩
  rw [e1, n1]
  have hlim : (ms.map D.int).length ≤ lim := by rw [List.length_map]; exact Nat.le_trans (Nat.le_trans hl hn) (by decide)
  have a1 : ev (call defs F k) F (.sl (.var 0) .none (.some (.cst (.int 63)))) [some (.rol (ns.map .int))] [] = .ok (.ref 0) [.lst (ms.map .int)] := by
    show newL (cutD (ns.map D.int) none (some 63)) [] = _
    rw [e]
    unfold newL
    rw [if_pos hlim]
    rfl
  have a2 : ev (call defs F k) F (.bi .list (.cons (.sl (.var 0) .none (.some (.cst (.int 63)))) .nil)) [some (.rol (ns.map .int))] [] = .ok (.ref 1) [.lst (ms.map .int), .lst (ms.map .int)] := by
    show ((ev (call defs F k) F (.sl (.var 0) .none (.some (.cst (.int 63)))) [some (.rol (ns.map .int))] []).bind fun x S1 => (R.ok [] S1 : R (List D)).bind fun xs S2 => R.ok (x :: xs) S2).bind (fun xs S1 => biD .list xs S1) = _
    rw [a1]
    show newL (ms.map D.int) [.lst (ms.map .int)] = _
    unfold newL
    rw [if_pos hlim]
    rfl
  refine xc_rt (x_ret ?_)
  show ((ev (call defs F k) F (.bi .list (.cons (.sl (.var 0) .none (.some (.cst (.int 63)))) .nil)) [some (.rol (ns.map .int))] []).bind fun x S1 => _).bind _ = _
  rw [a2]
  rfl
end Mi
namespace L
open PySem PySem.Spec PyProof.Rows L2 Mi
def fuel : Nat := 1000
def cl : Nat → List D → Sto → R D := call defs fuel 62
def wd : Bool → D
  | false => .str "loop"
  | true => .str "choose"
def oneD : Fin 3 → D
  | 0 => .tup [.str "look", .int 0]
  | 1 => .tup [.str "fresh", .int 0]
  | 2 => .tup [.str "change", .int 7, .int 0, .int 9]
def body : C → List C
  | .seq a b => a :: body b
  | _ => []
def rest : C := app ((body c16).drop 3) .skip
def nN : Nat := d16.N.length
def εR (b : Bool) (o : Fin 3) : Sl := none :: none :: some (wd b) :: some (oneD o) :: List.replicate (nN - 4) none
def okR (b : Bool) (o : Fin 3) : Bool := match xc cl fuel rest (εR b o) [] with
  | .ok (.rt (.bl true), _) _ => true
  | _ => false
theorem draw {S : Sto} {p c : Nat} {ns : List Int} {a r many : Int} (h : Pen S p c ns a r) (m0 : 0 < many) (m1 : many < 1073741824) :
    ∃ (d a' r' : Int) (J : Sto), 0 ≤ d ∧ d < many ∧ cl 13 [.ref p, .int many] S = .ok (.int d) (S.set p (.lst [.ref c, .int a', .int r']) ++ J) :=
  draw_call (F := fuel) (k := 60) (fr := 12) (by decide) (d1 := d12) rfl rfl rfl rfl (d2 := d13) rfl rfl rfl rfl h m0 m1
theorem pick {es : EL} {ds : List D} {many : Int} {ε : Sl} {S : Sto} {p c : Nat} {ns : List Int} {a r : Int} (hes : ∀ S, evL cl fuel es ε S = .ok ds S) (hl : ds.length ≤ lim) (hm : many = (ds.length : Int)) (m0 : 0 < many) (m1 : many < 1073741824) (h : Pen S p c ns a r) (he : ε[1]? = some (some (.ref p))) :
    ∃ (k : Nat) (d : D) (a' r' : Int) (J : Sto), ds[k]? = some d ∧ ev cl fuel (.ix (.lst es) (.call 13 (.cons (.var 1) (.cons (.cst (.int many)) .nil)))) ε S = .ok d (S.set p (.lst [.ref c, .int a', .int r']) ++ J) := by
  have h' := h.app [.lst ds]
  obtain ⟨d, a', r', J, d0, d1, q⟩ := draw h' m0 m1
  have hs : (S ++ [MO.lst ds]).set p (.lst [.ref c, .int a', .int r']) = S.set p (.lst [.ref c, .int a', .int r']) ++ [MO.lst ds] := List.set_append_left _ _ h.lt
  rw [hs] at q
  have e1 : ev cl fuel (.call 13 (.cons (.var 1) (.cons (.cst (.int many)) .nil))) ε (S ++ [.lst ds]) = .ok (.int d) (S.set p (.lst [.ref c, .int a', .int r']) ++ [MO.lst ds] ++ J) := by
    show ((ev cl fuel (.var 1) ε (S ++ [.lst ds])).bind fun x S1 => (R.ok [.int many] S1 : R (List D)).bind fun xs S2 => R.ok (x :: xs) S2).bind (fun xs S1 => cl 13 xs S1) = _
    rw [ev_var he]
    exact q
  have e0 : ev cl fuel (.lst es) ε S = .ok (.ref S.length) (S ++ [.lst ds]) := by
    show (evL cl fuel es ε S).bind (fun xs S1 => newL xs S1) = _
    rw [hes S]
    show newL ds S = _
    unfold newL
    rw [if_pos hl]
  have hg : (S.set p (.lst [.ref c, .int a', .int r']) ++ [MO.lst ds] ++ J)[S.length]? = some (.lst ds) := by
    rw [List.append_assoc, List.getElem?_append_right (by rw [List.length_set]; exact Nat.le_refl _), List.length_set, Nat.sub_self]
    rfl
  have hk : d.toNat < ds.length := by omega
  refine ⟨d.toNat, ds[d.toNat], a', r', [MO.lst ds] ++ J, List.getElem?_eq_getElem hk, ?_⟩
  rw [← List.append_assoc]
  refine ev_ix e0 e1 ?_
  show (moL (_ : Sto)[S.length]?).bind _ = _
  rw [hg]
  show atI ds d = _
  unfold atI ixN
  rw [if_pos d0, if_pos (by omega)]
  exact List.getElem?_eq_getElem hk
theorem split : c16 = .seq (.asg (.name 1) (.call 11 (.cons (.var 0) .nil))) (.seq (.asg (.name 2) (.ix (.lst (.cons (.cst (.str "loop")) (.cons (.cst (.str "choose")) .nil))) (.call 13 (.cons (.var 1) (.cons (.cst (.int 2)) .nil))))) (.seq (.asg (.name 3) (.ix (.lst (.cons (.tup (.cons (.cst (.str "look")) (.cons (.cst (.int 0)) .nil))) (.cons (.tup (.cons (.cst (.str "fresh")) (.cons (.cst (.int 0)) .nil))) (.cons (.tup (.cons (.cst (.str "change")) (.cons (.cst (.int 7)) (.cons (.cst (.int 0)) (.cons (.cst (.int 9)) .nil))))) .nil)))) (.call 13 (.cons (.var 1) (.cons (.cst (.int 3)) .nil))))) rest)) := rfl
theorem up_w (b : Bool) : Up [] (wd b) (wd b) := by cases b <;> exact .str _
theorem up_o : ∀ o : Fin 3, Up [] (oneD o) (oneD o)
  | 0 => .tup (.cons (.str _) (.cons (.int _) .nil))
  | 1 => .tup (.cons (.str _) (.cons (.int _) .nil))
  | 2 => .tup (.cons (.str _) (.cons (.int _) (.cons (.int _) (.cons (.int _) .nil))))
theorem law_good (hA : ∀ b o, okR b o = true) : LawGood defs fuel 62 d16 := by
  intro ns hn
  show Good cl fuel c16 (some (.rol (ns.map .int)) :: List.replicate (nN - 1) none) []
  rw [split]
  obtain ⟨ms, e1⟩ := pen_call (defs := defs) (F := fuel) (k := 61) (pe := 11) (d1 := d11) rfl rfl rfl rfl hn
  have P0 : Pen [MO.lst (ms.map .int), .lst (ms.map .int), .lst [.ref 1, .int 0, .int 0]] 2 1 ms 0 0 := ⟨rfl, rfl, by decide⟩
  refine .inr ⟨some (.rol (ns.map .int)) :: some (.ref 2) :: List.replicate (nN - 2) none, [MO.lst (ms.map .int), .lst (ms.map .int), .lst [.ref 1, .int 0, .int 0]], x_asg (d := .ref 2) e1, .inl ?_⟩
  generalize [MO.lst (ms.map .int), .lst (ms.map .int), .lst [.ref 1, .int 0, .int 0]] = S at P0 ⊢
  obtain ⟨k1, w, a1, r1, J1, hw, q1⟩ := pick (ε := some (.rol (ns.map .int)) :: some (.ref 2) :: List.replicate (nN - 2) none) (es := .cons (.cst (.str "loop")) (.cons (.cst (.str "choose")) .nil)) (ds := [.str "loop", .str "choose"]) (many := 2) (fun _ => rfl) (by decide) rfl (by decide) (by decide) P0 rfl
  have P1 := (P0.set a1 r1).app J1
  refine .inr ⟨some (.rol (ns.map .int)) :: some (.ref 2) :: some w :: List.replicate (nN - 3) none, _, x_asg q1, .inl ?_⟩
  generalize S.set 2 (.lst [.ref 1, .int a1, .int r1]) ++ J1 = S1 at P1 ⊢
  obtain ⟨k2, o, a2, r2, J2, ho, q2⟩ := pick (ε := some (.rol (ns.map .int)) :: some (.ref 2) :: some w :: List.replicate (nN - 3) none) (es := (.cons (.tup (.cons (.cst (.str "look")) (.cons (.cst (.int 0)) .nil))) (.cons (.tup (.cons (.cst (.str "fresh")) (.cons (.cst (.int 0)) .nil))) (.cons (.tup (.cons (.cst (.str "change")) (.cons (.cst (.int 7)) (.cons (.cst (.int 0)) (.cons (.cst (.int 9)) .nil))))) .nil))))
    (ds := [.tup [.str "look", .int 0], .tup [.str "fresh", .int 0], .tup [.str "change", .int 7, .int 0, .int 9]]) (many := 3) (fun _ => rfl) (by decide) rfl (by decide) (by decide) P1 rfl
  have hw2 : ∃ b, w = wd b := by
    match k1, hw with
    | 0, hw => cases hw; exact ⟨false, rfl⟩
    | 1, hw => cases hw; exact ⟨true, rfl⟩
    | _ + 2, hw => cases hw
  have ho2 : ∃ k, o = oneD k := by
    match k2, ho with
    | 0, ho => cases ho; exact ⟨0, rfl⟩
    | 1, ho => cases ho; exact ⟨1, rfl⟩
    | 2, ho => cases ho; exact ⟨2, rfl⟩
    | _ + 3, ho => cases ho
  obtain ⟨b, rfl⟩ := hw2
  obtain ⟨k, rfl⟩ := ho2
  have g : Good cl fuel rest (εR b k) [] := by
    have h := hA b k
    unfold okR at h
    split at h
    · next e => exact Good.run rfl e
    · cases h
  refine .inr ⟨some (.rol (ns.map .int)) :: some (.ref 2) :: some (wd b) :: some (oneD k) :: List.replicate (nN - 4) none, _, x_asg q2, .inr ⟨[], εR b k, [], ?_, g⟩⟩
  refine ⟨List.nodup_nil, rfl, fun n m h => (nomatch h), rfl, fun i d hd => ?_⟩
  match i, hd with
  | 0, hd => cases hd
  | 1, hd => cases hd
  | 2, hd => cases hd; exact ⟨_, rfl, up_w b⟩
  | 3, hd => cases hd; exact ⟨_, rfl, up_o k⟩
  | i + 4, hd =>
    have hd : (List.replicate (nN - 4) none)[i]? = some (some d) := hd
    rw [List.getElem?_replicate] at hd
    split at hd <;> cases hd
end L

set_option maxRecDepth 100000
namespace L
theorem kfalse0 : okR false 0 = true := by decide +kernel
theorem kfalse1 : okR false 1 = true := by decide +kernel
theorem kfalse2 : okR false 2 = true := by decide +kernel
theorem ktrue0 : okR true 0 = true := by decide +kernel
theorem ktrue1 : okR true 1 = true := by decide +kernel
theorem ktrue2 : okR true 2 = true := by decide +kernel
theorem allR : ∀ b o, okR b o = true
  | false, 0 => kfalse0
  | false, 1 => kfalse1
  | false, 2 => kfalse2
  | true, 0 => ktrue0
  | true, 1 => ktrue1
  | true, 2 => ktrue2
theorem law_true : Mi.LawGood defs fuel 62 d16 := law_good allR
end L

set_option maxRecDepth 100000
open PySem PySem.W PyProof.Rows
set_option maxRecDepth 100000 in
set_option maxHeartbeats 0 in
theorem PySem.Challenge.cw_copyplaces_k02_sizes_of_programs_holds : PySem.Challenge.rw_copyplaces_k02_sizes_of_programs.Holds := by
  w_on; o_law; k_head; (case hw => w_witness2)
  k_fill
  refine Mi.law_walk2 (l := PySem.Challenge.rw_copyplaces_k02_sizes_of_programs) (bl := L.bl) (gs := L.gs) (ec := L.ec) (F := L.fuel) (lv := 62) (dl := L.d16) L.law_true rfl rfl rfl rfl ⟨rfl, by decide, by decide⟩ (fun w h Y => PySem.W.kIn_of Y) ?F
  case F =>
    intro w mg h KX G
    refine' L.all_mk KX G ?a0 ?l0 ?e0 ?k0 ?a1 ?l1 ?e1 ?k1 ?a2 ?l2 ?e2 ?k2 ?a3 ?l3 ?e3 ?k3 ?a4 ?l4 ?e4 ?k4 ?a5 ?l5 ?e5 ?k5 ?a6 ?l6 ?e6 ?k6 ?a7 ?l7 ?e7 ?k7 ?a8 ?l8 ?e8 ?k8 ?a9 ?l9 ?e9 ?k9 ?a10 ?l10 ?e10 ?k10 ?a11 ?l11 ?e11 ?k11 ?a12 ?l12 ?e12 ?k12 ?a13 ?l13 ?e13 ?k13 ?a14 ?l14 ?e14 ?k14 ?a15 ?l15 ?e15 ?k15 ?a16 ?l16 ?e16 ?k16 ?z0 ?z1 ?z2 ?z3 ?z4 ?z5 ?z6 ?z7 ?mc0 ?mc1 ?mc2 ?mc3 ?mc4 ?mc5 ?mc6 ?mc7 ?mc8 ?nxm ?nxo ?nxs ?nxe ?nxt ?nxk ?nxi ?nxj ?nxp ?nxv ?nxw ?nxg ?nxh ?nxd ?nxu ?nxy ?nxl ?nxc ?nxq ?mcS ?mlS
    (case a0 => k_is); (case l0 => k_is); (case e0 => k_is); (case k0 => k_is)
    (case a1 => k_is); (case l1 => k_is); (case e1 => k_is); (case k1 => k_is)
    (case a2 => k_is); (case l2 => k_is); (case e2 => k_is); (case k2 => k_is)
    (case a3 => k_is); (case l3 => k_is); (case e3 => k_is); (case k3 => k_is)
    (case a4 => k_is); (case l4 => k_is); (case e4 => k_is); (case k4 => k_is)
    (case a5 => k_is); (case l5 => k_is); (case e5 => k_is); (case k5 => k_is)
    (case a6 => k_is); (case l6 => k_is); (case e6 => k_is); (case k6 => k_is)
    (case a7 => k_is); (case l7 => k_is); (case e7 => k_is); (case k7 => k_is)
    (case a8 => k_is); (case l8 => k_is); (case e8 => k_is); (case k8 => k_is)
    (case a9 => k_is); (case l9 => k_is); (case e9 => k_is); (case k9 => k_is)
    (case a10 => k_is); (case l10 => k_is); (case e10 => k_is); (case k10 => k_is)
    (case a11 => k_is); (case l11 => k_is); (case e11 => k_is); (case k11 => k_is)
    (case a12 => k_is); (case l12 => k_is); (case e12 => k_is); (case k12 => k_is)
    (case a13 => k_is); (case l13 => k_is); (case e13 => k_is); (case k13 => k_is)
    (case a14 => k_is); (case l14 => k_is); (case e14 => k_is); (case k14 => k_is)
    (case a15 => k_is); (case l15 => k_is); (case e15 => k_is); (case k15 => k_is)
    (case a16 => k_is); (case l16 => k_is); (case e16 => k_is); (case k16 => k_is)
    (case z0 => k_is)
    (case z1 => k_is)
    (case z2 => k_is)
    (case z3 => k_is)
    (case z4 => k_is)
    (case z5 => k_is)
    (case z6 => k_is)
    (case z7 => k_is)
    (case mc0 => k_is)
    (case mc1 => k_is)
    (case mc2 => k_is)
    (case mc3 => k_is)
    (case mc4 => k_is)
    (case mc5 => k_is)
    (case mc6 => k_is)
    (case mc7 => k_is)
    (case mc8 => k_is)
    (case nxm => k_is)
    (case nxo => k_is)
    (case nxs => k_is)
    (case nxe => k_is)
    (case nxt => k_is)
    (case nxk => k_is)
    (case nxi => k_is)
    (case nxj => k_is)
    (case nxp => k_is)
    (case nxv => k_is)
    (case nxw => k_is)
    (case nxg => k_is)
    (case nxh => k_is)
    (case nxd => k_is)
    (case nxu => k_is)
    (case nxy => k_is)
    (case nxl => k_is)
    (case nxc => k_is)
    (case nxq => k_is)
    (case mcS => k_is); (case mlS => k_is)
#print axioms PySem.Challenge.cw_copyplaces_k02_sizes_of_programs_holds

