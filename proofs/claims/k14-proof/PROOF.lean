import PyProof.Rows.All
import Wide.All
import OpenK.AllK
import Wide.FinOn
import HandS.ForMost
import HandS.Walk
import KE.GoesEnum
import HandS.Exc
import HandS.ExcOwn
import HandS.ExcInit
import HandS.ExcField
import HandS.TryOnly
import HandS.WordsExc
import HandS.IsInst
import HandS.Wide
import HandS.TupAny
import HandS.Flow
import HandS.Evl
import PySem.Challenge.RW_deedstand_k14_whole_rounds
set_option Elab.async false
set_option linter.all false
set_option maxRecDepth 100000
set_option maxHeartbeats 4000000
/-! enumerate over a tuple and over a text, one argument -/
namespace Dk
open PySem PySem.Spec PyProof.Rows L2
/-- the object that enumerate(v) makes -/
abbrev enObj (it : Addr) : Obj := { cls := .type "enumerate", data := .fields #[.none, .bool false, .ref it, rawInt 0, .none, .none] }
theorem enum_new1 {v : Value} {o : Obj} {G : Heap → Prop} (B : Begins v o G) :
    Meets (Builtin.«enumerate.__new__» ⟨[.type "enumerate", v], []⟩) fun _ R s =>
      G s.heap ∧ R (.ok (.ret (.ref (s.heap.push o).objs.size))) { s with heap := (s.heap.push o).push (enObj s.heap.objs.size) } := by
  refine .of_wp fun prog w A R s hh => ?_
  rcases s with ⟨hp, gs, dr, tk, os⟩
  obtain ⟨hG, hR⟩ := hh
  have hs := sub_enumerate
  have go : ∀ {A' : Around} {E : Value → Shared → Prop} {Q : Value → Shared → Prop},
      Q (.ref hp.objs.size) ⟨hp.push o, gs, dr, tk, os⟩ → wpAny (model prog w) A' (pyIter v) Q E ⟨hp, gs, dr, tk, os⟩ :=
    fun q => B.iter prog w _ _ ⟨hp, gs, dr, tk, os⟩ _ hG q
  wp_walk using go
  refine wpAny_stack_any fun st => ?_
  refine wpAny_pure ?_
  split
  · rename_i c _ _ _ _ _
    cases (c == Value.type "enumerate") <;> (wp_walk using go; exact ⟨_, rfl, hR⟩)
  · wp_walk using go
    exact ⟨_, rfl, hR⟩
section
variable {prog : Program} {w : World} {A : Around} {E : Value → Shared → Prop} {s : Shared}
theorem enum_call1 {v : Value} {o : Obj} {G : Heap → Prop} {Q : Value → Shared → Prop} (B : Begins v o G) (hG : G s.heap)
    (q : ∀ h', IsEnum h' (s.heap.objs.size + 1) s.heap.objs.size 0 .none → h'.get? s.heap.objs.size = some o →
      (∀ b u, s.heap.get? b = some u → h'.get? b = some u) → Q (.ref (s.heap.objs.size + 1)) { s with heap := h' }) :
    wpAny (model prog w) A (call (.type "enumerate") [v]) Q E s := by
  have sz : (s.heap.push o).objs.size = s.heap.objs.size + 1 := Heap.size_push ..
  have he : IsEnum ((s.heap.push o).push (enObj s.heap.objs.size)) (s.heap.objs.size + 1) s.heap.objs.size 0 .none := by
    have z := Heap.get?_push_size (s.heap.push o) (o := enObj s.heap.objs.size) rfl
    rw [sz] at z
    exact z
  refine callType_new F.called_enumerate (by decide) (F.typeCall_enumerate_1 _) (F.newCall_enumerate_1 _)
    (fun obj => F.args_object_init_2 obj _) F.entry_enumerate_new (enum_new1 B) ⟨hG, ?_⟩
  show _ ∧ _
  rw [sz]
  exact ⟨⟨_, he, rfl⟩, q _ he (Heap.get?_push_of_some _ (Heap.get?_push_size _ B.free))
    fun b u z => Heap.get?_push_of_some _ (Heap.get?_push_of_some _ z)⟩
end
/-- a new pair of the turn's number and f i -/
def ItE (G : Hp → Prop) (n : Nat) (Y : Nat → Hp → V → Prop) : It :=
  ⟨fun i H => G H ∧ i < n, fun i H v H' => ∃ T x, v = .ref T ∧ H T = none ∧ H' = upd H T (.tup [.int (i : Nat), x]) ∧ Y i H x, fun i H => G H ∧ i = n⟩
/-- what the source's own iterator does while the heap is so -/
structure Src (P : Program) (w : World) (K : PySem.W.Frag) (it : Addr) (G : Hp → Prop) (n : Nat) (Y : Nat → Hp → V → Prop) (Tn : Nat → Heap → Prop) : Prop where
  live : ∀ i h, Tn i h → ∃ o, h.get? it = some o ∧ ∀ v, o.data ≠ .cell v
  keep : ∀ i h h', Tn i h → (∀ o, h.get? it = some o → h'.get? it = some o) → Tn i h'
  draw : ∀ (X : Cx), X.prog = P → X.w = w → X.K = K → ∀ (pins : List (Addr × Obj)) (σ : L2.St) (H : Hp) (s : Shared) (i : Nat), Inv X pins σ H s → H it = none → G H → Tn i s.heap → X.A.handled = none →
    ∃ (fp : List Addr) (Pv : Nat → Value → Prop) (St' : Nat → Heap → Prop), Draws P w X.A.in1 it fp n Pv St' ∧ St' i s.heap ∧ (∀ e, H e = none → (∃ old j, IsEnum s.heap e it j old) → e ∉ fp) ∧
      (∀ j u, Pv j u → ∃ x, RelV x u ∧ Y j H x) ∧ ∀ j h, St' j h → Tn j h
theorem turn_E {P : Program} {w : World} {K : PySem.W.Frag} {elts : List Expr} {kk : Nat} {tpos : Pos} {e it : Addr} {G : Hp → Prop} {n : Nat} {Y : Nat → Hp → V → Prop} {Tn : Nat → Heap → Prop} (S : Src P w K it G n Y Tn) :
    Turn P w K (.Tuple elts kk tpos) (ItE G n Y) [e, it] e (fun i h => (∃ old, IsEnum h e it ((i : Nat) : Int) old) ∧ Tn i h ∧ e ≠ it) where
  mem := List.mem_cons_self ..
  obj := fun i h st b hb => by
    obtain ⟨⟨old, he⟩, hs, _⟩ := st
    rcases List.mem_cons.mp hb with z | z
    · subst z
      exact ⟨_, he, fun v q => nomatch q⟩
    · have z' := List.mem_singleton.mp z
      subst z'
      exact S.live i h hs
  keep := fun i h h' st k =>
    ⟨⟨st.1.choose, k e (List.mem_cons_self ..) _ st.1.choose_spec⟩, S.keep i h h' st.2.1 fun o q => k it (List.mem_cons_of_mem _ (List.mem_singleton.mpr rfl)) o q, st.2.2⟩
  item := by
    intro X hP hw hK hc i pins s σ H E I hf st hg
    obtain ⟨⟨old, he⟩, hs, hne⟩ := st
    have fe := hf e (by simp)
    have fi := hf it (by simp)
    obtain ⟨fp, Pv, St', D, hs', hef, hy, back⟩ := S.draw X hP hw hK pins σ H s i I fi.1 hg.1 hs (I.ok.hd hc)
    subst hP hw hK
    have hel : e < s.heap.objs.size := Heap.lt_size he
    obtain ⟨oi, hoi, _⟩ := S.live i _ hs
    have hil : it < s.heap.objs.size := Heap.lt_size hoi
    refine wpAny_pyNext_enum_itemC D he hs' hg.2 hne (hef e fe.1 ⟨_, _, he⟩) fun u h' tk hu ho hst hT hsz hk => ?_
    refine ⟨_, rfl, wpAny_letOwnedTupleGo_enum (s := { s with heap := h', toks := tk + 1 }) ho fun h2 he2 sb => ?_⟩
    obtain ⟨x, rx, yx⟩ := hy i u hu
    have hT2 : h2.get? s.heap.objs.size = some { cls := .type "tuple", data := .seq #[.int i tk, u] } := (sb.2 _ (Nat.ne_of_gt hel)).trans hT
    have new : ObjOk X.prog X.w (upd H s.heap.objs.size (.tup [.int (i : Nat), x])) h2 s.heap.objs.size (.tup [.int (i : Nat), x]) :=
      ⟨by show 2 ≤ sizeLine; decide, [.int i tk, u], .cons ⟨_, rfl⟩ (.cons rx .nil), _, hT2, rfl, _, rfl⟩
    have I1 : Inv X pins σ (upd H s.heap.objs.size (.tup [.int (i : Nat), x])) { s with heap := h2, toks := tk + 1 } := by
      refine I.turnedNew (ch := [e, it]) (fun b o hb q => ?_) hf (Nat.le_refl _) new
      have n1 : b ≠ e := fun z => hb (by simp [z])
      have n2 : b ≠ it := fun z => hb (by simp [z])
      exact (sb.2 b n1).trans (hk b o n1 n2 q)
    refine ⟨.ref s.heap.objs.size, _, I1, rfl, ⟨_, x, rfl, I.hok.fresh (Nat.le_refl _), rfl, yx⟩, ⟨⟨u, ?_⟩, ?_, hne⟩, fun b hb => ?_⟩
    · have e1 : ((i + 1 : Nat) : Int) = (i : Int) + 1 := by omega
      rw [e1]
      exact he2
    · exact S.keep _ _ _ (back _ _ hst) fun o q => (sb.2 it (Ne.symm hne)).trans q
    · have hb' : b < s.heap.objs.size := by
        rcases List.mem_cons.mp hb with z | z
        · exact z ▸ hel
        · exact (List.mem_singleton.mp z) ▸ hil
      rw [upd_ne (Nat.ne_of_lt hb')]
      exact (hf b hb).1
  done := by
    intro X hP hw hK hc i pins s σ H E I hf st hg
    obtain ⟨⟨old, he⟩, hs, hne⟩ := st
    obtain ⟨f0, f1, f2, f3, f4, f5⟩ := hf it (by simp)
    obtain ⟨fp, Pv, St', D, hs', hef, hy, back⟩ := S.draw X hP hw hK pins σ H s i I f0 hg.1 hs (I.ok.hd hc)
    subst hP hw hK
    rw [hg.2] at hs'
    exact wpAny_pyNext_enum_endD D he hs' fun h' eb => ⟨rfl, I.turned (t' := s.toks) (fun b o hb q => eb b o hb q) f0 f1 f3 f4 f5⟩
  self := fun A i s Q E st h => wpAny_pyIter_enum st.1.choose_spec h
theorem src_tup {P : Program} {w : World} {K : PySem.W.Frag} {a it : Addr} {xs : List V} :
    Src P w K it (fun H => SqT K H a xs) xs.length (fun i _ x => xs[i]? = some x) (fun i h => h.IsTupleIter it a i) where
  live := fun i h st => by
    obtain ⟨o, e, c, d⟩ := st
    exact ⟨o, e, fun v z => by rw [d] at z; cases z⟩
  keep := fun i h h' st k => st.at fun o e => k o e
  draw := by
    intro X hP hw hK pins σ H s i I hn hG st hh
    subst hP hw hK
    obtain ⟨its, rv, p, hz⟩ := I.tuple hG
    have pt : s.heap.IsTuple a its.toArray := p
    have hne : a ≠ it := by
      rintro rfl
      obtain ⟨o, e, c, _⟩ := pt
      obtain ⟨o', e', c', _⟩ := id st
      rw [e] at e'
      cases e'
      rw [c] at c'
      injection c' with q
      exact absurd q (by decide)
    have hl := rv.length
    refine ⟨[it, a], fun i v => its.toArray[i]? = some v, fun i h => h.IsTupleIter it a i ∧ h.IsTuple a its.toArray, ?_, ⟨st, pt⟩, fun e he hq => ?_, fun j u hu => ?_, fun j h z => z.1⟩
    · have D := Draws.tuple (prog := X.prog) (w := X.w) (A := X.A.in1) hh it a hne its.toArray
      rw [show its.toArray.size = xs.length by simp; omega] at D
      exact D
    · obtain ⟨old, j, hq⟩ := hq
      intro hm
      rcases List.mem_cons.mp hm with z | z
      · subst z
        obtain ⟨o, e', c, _⟩ := id st
        have hq' : s.heap.get? e = _ := hq
        rw [e'] at hq'
        cases hq'
        injection c with q
        exact absurd q (by decide)
      · have z' := List.mem_singleton.mp z
        subst z'
        obtain ⟨o, e', c, _⟩ := pt
        have hq' : s.heap.get? e = _ := hq
        rw [e'] at hq'
        cases hq'
        injection c with q
        exact absurd q (by decide)
    · have hu' : its[j]? = some u := by simpa using hu
      have hj : j < its.length := (List.getElem?_eq_some_iff.mp hu').1
      have hx : xs[j]? = some (xs[j]'(by omega)) := List.getElem?_eq_getElem (by omega)
      obtain ⟨u', h1, h2⟩ := rv.get hx
      rw [hu'] at h1
      cases h1
      exact ⟨_, h2, hx⟩
theorem src_str {P : Program} {w : World} {K : PySem.W.Frag} {it : Addr} {z : Str} {t : Tok} :
    Src P w K it (fun _ => True) z.cps.size (fun i _ x => ∃ c, z.cps[i]? = some c ∧ x = .str ⟨#[c]⟩) (fun i h => h.IsStrIter it (strIterType z) z t i) where
  live := fun i h st => by
    obtain ⟨o, e, c, d⟩ := st
    exact ⟨o, e, fun v z => by rw [d] at z; cases z⟩
  keep := fun i h h' st k => by
    obtain ⟨o, e, r⟩ := st
    exact ⟨o, k o e, r⟩
  draw := by
    intro X hP hw hK pins σ H s i I hn hG st hh
    subst hP hw hK
    refine ⟨[it], _, _, Draws.text (prog := X.prog) (w := X.w) (A := X.A.in1) hh it z t, st, fun e he hq hm => ?_, fun j u hu => ?_, fun j h z => z⟩
    · obtain ⟨old, j, hq⟩ := hq
      have z' := List.mem_singleton.mp hm
      subst z'
      obtain ⟨o, e', c, _⟩ := id st
      have hq' : s.heap.get? e = _ := hq
      rw [e'] at hq'
      cases hq'
      have c' : strIterType z = "enumerate" := by injection c with q; exact q.symm
      unfold strIterType at c'
      split at c' <;> exact absurd c' (by decide)
    · obtain ⟨c, u', h1, h2⟩ := hu
      exact ⟨.str ⟨#[c]⟩, ⟨u', h2⟩, c, h1, rfl⟩
def iEnumT (K : PySem.W.Frag) (ta : TA) : TI := fun σ H R => ta σ H fun vs H1 => ∃ a xs, vs = [.ref a] ∧ SqT K H1 a xs ∧ R (ItE (fun H => SqT K H a xs) xs.length fun i _ x => xs[i]? = some x) H1
def iEnumS (ta : TA) : TI := fun σ H R => ta σ H fun vs H1 => ∃ z, vs = [.str z] ∧ R (ItE (fun _ => True) z.cps.size fun i _ x => ∃ c, z.cps[i]? = some c ∧ x = .str ⟨#[c]⟩) H1
section
variable {X : Cx} {e : Expr} {ta : TA} {p pos tpos : Pos} {elts : List Expr} {kk : Nat}
theorem pi_enumT (hg : Gl X "enumerate") (hm : X.mg "enumerate" = none) (ha : PA X [e] ta) (hs : starEach [e] X.env = [(false, eval e X.env)] := by rfl) :
    PI X (.Tuple elts kk tpos) (.Call (.Name "enumerate" p) [e] [] pos) (iEnumT X.K ta) := by
  refine ⟨fun pins s σ H R I h => Call_ (ld_blt I hg hm boot_enumerate (PyProof.Rows.callWith_type1 (thn (ha.run pos pins s σ H _ I h) fun us s1 hh => ?_) hs rfl))⟩
  obtain ⟨vs, H1, I1, r1, a, xs, rfl, hq, q⟩ := hh
  obtain ⟨u, rfl, rx⟩ := vals1 r1
  cases rx
  obtain ⟨its, rv, pt, hz⟩ := I1.tuple hq
  refine enum_call1 (begins_tuple a its.toArray) pt fun h' he hit hk => wpAny_pyIter_enum he ?_
  have I2 : Inv X pins σ H1 { s1 with heap := h' } := I1.kept (t' := s1.toks) hk
  refine ⟨s1.heap.objs.size + 1, [s1.heap.objs.size + 1, s1.heap.objs.size], _, _, H1, rfl, I2, turn_E src_tup, ⟨⟨.none, he⟩, ⟨_, hit, rfl, rfl⟩, Nat.succ_ne_self _⟩, fun b hb => ?_, q⟩
  have hle : s1.heap.objs.size ≤ b := by
    rcases List.mem_cons.mp hb with z | z
    · exact z ▸ Nat.le_add_right _ _
    · exact (List.mem_singleton.mp z) ▸ Nat.le_refl _
  exact I1.fpOk hle (I1.hok.fresh hle)
theorem pi_enumS (hg : Gl X "enumerate") (hm : X.mg "enumerate" = none) (ha : PA X [e] ta) (hs : starEach [e] X.env = [(false, eval e X.env)] := by rfl) :
    PI X (.Tuple elts kk tpos) (.Call (.Name "enumerate" p) [e] [] pos) (iEnumS ta) := by
  refine ⟨fun pins s σ H R I h => Call_ (ld_blt I hg hm boot_enumerate (PyProof.Rows.callWith_type1 (thn (ha.run pos pins s σ H _ I h) fun us s1 hh => ?_) hs rfl))⟩
  obtain ⟨vs, H1, I1, r1, z, rfl, q⟩ := hh
  obtain ⟨u, rfl, rx⟩ := vals1 r1
  obtain ⟨t, rfl⟩ := rx
  refine enum_call1 (begins_text z t) trivial fun h' he hit hk => wpAny_pyIter_enum he ?_
  have I2 : Inv X pins σ H1 { s1 with heap := h' } := I1.kept (t' := s1.toks) hk
  refine ⟨s1.heap.objs.size + 1, [s1.heap.objs.size + 1, s1.heap.objs.size], _, _, H1, rfl, I2, turn_E src_str, ⟨⟨.none, he⟩, ⟨_, hit, rfl, rfl⟩, Nat.succ_ne_self _⟩, fun b hb => ?_, q⟩
  have hle : s1.heap.objs.size ≤ b := by
    rcases List.mem_cons.mp hb with z | z
    · exact z ▸ Nat.le_add_right _ _
    · exact (List.mem_singleton.mp z) ▸ Nat.le_refl _
  exact I1.fpOk hle (I1.hok.fresh hle)
end
end Dk
/-! the layer: what grows, steps of readings -/
namespace Dk
open PySem PySem.Spec PyProof.Rows L2

/-! ### what is known grows -/
abbrev A0 : Addr → Prop := fun _ => False
abbrev Ex := Same
/-- G: what is known for good; H: the heap; A: what may change -/
structure Gr (A : Addr → Prop) (G H G' H' : Hp) : Prop where
  gg : Ex G G'
  gh : Ex G' H'
  hh : ∀ b o, ¬ A b → H b = some o → H' b = some o
  th : ∀ b o, H b = some o → ∃ o', H' b = some o'
  nw : ∀ b o, H b = some o → G b = none → G' b = none
section
variable {A : Addr → Prop} {G H G1 H1 G2 H2 : Hp} {p q m : Addr} {o o' u : HO}
theorem Gr.refl (g : Ex G H) : Gr A G H G H := ⟨Same.refl G, g, fun _ _ _ h => h, fun _ o h => ⟨o, h⟩, fun _ _ _ h => h⟩
theorem Gr.trans (a : Gr A G H G1 H1) (b : Gr A G1 H1 G2 H2) : Gr A G H G2 H2 :=
  ⟨a.gg.trans b.gg, b.gh, fun x o n h => b.hh x o n (a.hh x o n h), fun x o h => by
    obtain ⟨o1, h1⟩ := a.th x o h
    exact b.th x o1 h1, fun x o h n => by
    obtain ⟨o1, h1⟩ := a.th x o h
    exact b.nw x o1 h1 (a.nw x o h n)⟩
theorem Gr.wide {B : Addr → Prop} (a : Gr A G H G1 H1) (h : ∀ x, A x → B x) : Gr B G H G1 H1 :=
  ⟨a.gg, a.gh, fun x o n => a.hh x o fun z => n (h x z), a.th, a.nw⟩
theorem Gr.of0 (a : Gr A0 G H G1 H1) : Gr A G H G1 H1 := a.wide fun _ z => z.elim
theorem Gr.same (a : Gr A0 G H G1 H1) : Ex H H1 := fun b o h => a.hh b o (fun z => z) h
/-- a new object, known for good -/
theorem Gr.new (g : Ex G H) (hp : H p = none) : Gr A G H (upd G p o) (upd H p o) where
  gg := fun b x e => by
    rw [upd_ne (ne_of_none e (g.free hp))]
    exact e
  gh := fun b x e => by
    by_cases hb : b = p
    · subst hb
      rw [upd_same] at e ⊢
      exact e
    · rw [upd_ne hb] at e ⊢
      exact g b x e
  hh := fun b x _ e => by
    rw [upd_ne (ne_of_none e hp)]
    exact e
  th := fun b x e => ⟨x, by
    rw [upd_ne (ne_of_none e hp)]
    exact e⟩
  nw := fun b x e n => by
    rw [upd_ne (ne_of_none e hp)]
    exact n
/-- a new object of our own -/
theorem Gr.own (g : Ex G H) (hp : H p = none) : Gr A G H G (upd H p o) where
  gg := Same.refl G
  gh := fun b x e => by
    rw [upd_ne (ne_of_none e (g.free hp))]
    exact g b x e
  hh := fun b x _ e => by
    rw [upd_ne (ne_of_none e hp)]
    exact e
  th := fun b x e => ⟨x, by
    rw [upd_ne (ne_of_none e hp)]
    exact e⟩
  nw := fun b x e n => n
/-- an object of our own is written -/
theorem Gr.mut (t : Gr A G H G1 H1) (h0 : A p ∨ H p = none) (hp : G1 p = none) : Gr A G H G1 (upd H1 p o) where
  gg := t.gg
  gh := fun b x e => by
    rw [upd_ne (ne_of_none e hp)]
    exact t.gh b x e
  hh := fun b x n e => by
    have hb : b ≠ p := fun z => by
      subst z
      rcases h0 with h0 | h0
      · exact n h0
      · rw [h0] at e
        cases e
    rw [upd_ne hb]
    exact t.hh b x n e
  th := fun b x e => by
    by_cases hb : b = p
    · exact ⟨o, by rw [hb, upd_same]⟩
    · rw [upd_ne hb]
      exact t.th b x e
  nw := t.nw
/-- an object of our own is known for good from here on -/
theorem Gr.give (t : Gr A G H G1 H1) (h0 : H p = none) (hp : H1 p = some o) (hn : G1 p = none) : Gr A G H (upd G1 p o) H1 where
  gg := fun b x e => by
    have z := t.gg b x e
    rw [upd_ne (ne_of_none z hn)]
    exact z
  gh := fun b x e => by
    by_cases hb : b = p
    · subst hb
      rw [upd_same] at e
      cases e
      exact hp
    · rw [upd_ne hb] at e
      exact t.gh b x e
  hh := t.hh
  th := t.th
  nw := fun b x e n => by
    have hb : b ≠ p := ne_of_none e h0
    rw [upd_ne hb]
    exact t.nw b x e n
theorem Gr.g0 (t : Gr A G H G1 H1) : Ex G H1 := t.gg.trans t.gh
theorem ne_g (h : G p = some o) (n : G q = none) : p ≠ q := ne_of_none h n
end

/-! ### what is read at an address -/
theorem SqL.up {K : PySem.W.Frag} {G G' : Hp} {a : Addr} {xs : List V} (e : Ex G G') (h : SqL K G a xs) : SqL K G' a xs := e.seq h
theorem SqT.up {K : PySem.W.Frag} {G G' : Hp} {a : Addr} {xs : List V} (e : Ex G G') (h : SqT K G a xs) : SqT K G' a xs := by
  rcases h with (h | ⟨o, h⟩) | h
  · exact .inl (.inl (e _ _ h))
  · exact .inl (.inr ⟨o, e _ _ h⟩)
  · exact .inr h
theorem sqL {K : PySem.W.Frag} {H : Hp} {a : Addr} {xs : List V} (h : H a = some (.lst xs)) : SqL K H a xs := .inl (.inl h)
theorem sqT {K : PySem.W.Frag} {H : Hp} {a : Addr} {xs : List V} (h : H a = some (.tup xs)) : SqT K H a xs := .inl (.inl h)

/-! ### unions of rules -/
def rStr2 : R2 := fun x y H Q => ∃ i j, x = .str i ∧ y = .str j ∧ i.length + j.length ≤ sizeLine ∧ Q (.str (i ++ j)) H
def rAddU (K : PySem.W.Frag) : R2 := fun x y H Q => rI0 (fun i j => .int (i + j)) x y H Q ∨ (rStr2 x y H Q ∨ (rCat x y H Q ∨ rCatA K x y H Q))
def rInS1 : R2 := fun x y H Q => ∃ (c : Nat) (z : Str), x = .str ⟨#[c]⟩ ∧ y = .str z ∧ Q (.bl (decide (c ∈ z.cps.toList))) H
def rNotInS1 : R2 := fun x y H Q => ∃ (c : Nat) (z : Str), x = .str ⟨#[c]⟩ ∧ y = .str z ∧ Q (.bl (!decide (c ∈ z.cps.toList))) H
def rInU (K : PySem.W.Frag) : R2 := fun x y H Q => rInS1 x y H Q ∨ rIn K false x y H Q
def rNotInU (K : PySem.W.Frag) : R2 := fun x y H Q => rNotInS1 x y H Q ∨ rIn K true x y H Q
def rEqU (K : PySem.W.Frag) : R2 := fun x y H Q => rEq x y H Q ∨ rEqD K x y H Q
def rNeU (K : PySem.W.Frag) : R2 := fun x y H Q => rNe x y H Q ∨ rNeD K x y H Q
def rSlU (K : PySem.W.Frag) : V → Option Int → Option Int → Hp → VK → Prop := fun x lo hi H Q => rSlS x lo hi H Q ∨ (rSlL K x lo hi H Q ∨ rSlA K x lo hi H Q)
def rLenU (K : PySem.W.Frag) : List V → Hp → VK → Prop := fun xs H Q => ∃ x n, xs = [x] ∧ LenV K x H n ∧ Q (.int (n : Nat)) H
def rInt1 : List V → Hp → VK → Prop := fun xs H Q => (∃ i, xs = [.int i] ∧ Q (.int i) H) ∨ ∃ k, xs = [.bl k] ∧ Q (.int (if k then 1 else 0)) H
def rMax : List V → Hp → VK → Prop := fun xs H Q => ∃ i j, xs = [.int i, .int j] ∧ Q (.int (if j > i then j else i)) H
def rMin : List V → Hp → VK → Prop := fun xs H Q => ∃ i j, xs = [.int i, .int j] ∧ Q (.int (if j < i then j else i)) H
def rListU (K : PySem.W.Frag) : List V → Hp → VK → Prop := fun xs H Q => ∃ p ys, xs = [.ref p] ∧ (SqL K H p ys ∨ SqT K H p ys) ∧ ∀ l, H l = none → Q (.ref l) (upd H l (.lst ys))
def rTupU (K : PySem.W.Frag) : List V → Hp → VK → Prop := fun xs H Q => ∃ p ys, xs = [.ref p] ∧ ((SqL K H p ys ∧ ∀ l, H l = none → Q (.ref l) (upd H l (.tup ys))) ∨ (SqT K H p ys ∧ Q (.ref p) H))
def rJoin (K : PySem.W.Frag) : V → List V → Hp → VK → Prop := fun x xs H Q => ∃ a p, ∃ ys : List Str, x = .str a ∧ xs = [.ref p] ∧ (SqL K H p (ys.map V.str) ∨ SqT K H p (ys.map V.str)) ∧
  (ys.map (·.length)).sum + ys.length * a.length ≤ 16777216 ∧ Q (.str (Txt.join a ys)) H
def rIsN1 : R2 := fun x y H Q => y = .non ∧ Q (.bl (decide (x = .non))) H
def rNotN1 : R2 := fun x y H Q => y = .non ∧ Q (.bl (!decide (x = .non))) H
def rDivW : R2 := rI CDivW fun i j => .int (i / j)
def rModP : R2 := rI (fun _ j => 0 < j) fun i j => .int (i % j)
def rMulW : R2 := rI CMulW fun i j => .int (i * j)
section
variable {X : Cx}
theorem op_addU : OpR X (binaryOp .Add) (rAddU X.K) := op_add.or (op_add_str.or (op_cat.or op_catA))
theorem op_inU : OpR X (compareOp .In) (rInU X.K) := op_in_sign.or op_in_seq
theorem op_notInU : OpR X (compareOp .NotIn) (rNotInU X.K) := op_notIn_sign.or op_notIn_seq
theorem op_eqU (hu : X.A.units + 64 < cLine) : OpR X (compareOp .Eq) (rEqU X.K) := op_eq.or (op_eqD hu)
theorem op_neU (hu : X.A.units + 64 < cLine) : OpR X (compareOp .NotEq) (rNeU X.K) := op_ne.or (op_neD hu)
theorem sl_U : SlR X (rSlU X.K) := sl_str.or (sl_list.or sl_tupA)
theorem call_lenU : CallR X (.builtin "len") (rLenU X.K) := call_len
theorem call_intU : CallR X (.type "int") rInt1 := call_int1
theorem call_maxU (hc : X.calm = true) : CallR X (.builtin "max") rMax := call_max2 hc
theorem call_minU (hc : X.calm = true) : CallR X (.builtin "min") rMin := call_min2 hc
theorem call_listU : CallR X (.type "list") (rListU X.K) := call_list_of
theorem call_tupU : CallR X (.type "tuple") (rTupU X.K) := call_tuple_of
theorem op_isU : OpR X (compareOp .Is) rIsN1 := op_isN
theorem op_isnotU : OpR X (compareOp .IsNot) rNotN1 := op_notN
theorem op_divW : OpR X (binaryOp .FloorDiv) rDivW := op_fdivW
theorem op_modP : OpR X (binaryOp .Mod) rModP := op_mod
theorem op_mulWW : OpR X (binaryOp .Mult) rMulW := op_mulW
end

/-! within a comprehension -/
section
variable {X : Cx} {K : PySem.W.Frag}
theorem k_add (h : X.K = K) : OpR X (binaryOp .Add) (rAddU K) := h ▸ op_addU
theorem k_in (h : X.K = K) : OpR X (compareOp .In) (rInU K) := h ▸ op_inU
theorem k_notIn (h : X.K = K) : OpR X (compareOp .NotIn) (rNotInU K) := h ▸ op_notInU
theorem k_ix (h : X.K = K) : IxR X (rIx K) := h ▸ ix_seq
theorem k_sl (h : X.K = K) : SlR X (rSlU K) := h ▸ sl_U
theorem k_len (h : X.K = K) : CallR X (.builtin "len") (rLenU K) := h ▸ call_lenU
theorem k_list (h : X.K = K) : CallR X (.type "list") (rListU K) := h ▸ call_listU
theorem k_tup (h : X.K = K) : CallR X (.type "tuple") (rTupU K) := h ▸ call_tupU
theorem k_isi (h : X.K = K) : CallR X (.builtin "isinstance") (rIsi K) := h ▸ call_isi
end
/-! ### steps -/
section
variable {K : PySem.W.Frag} {σ : L2.St} {H H' : Hp} {Q : VK} {v x y : V} {ta tb te : TE} {i j : Int} {D : Ends} {t u : TS} {tt tu : TT} {QB : Bool → Hp → Prop} {ar : TA} {QL : List V → Hp → Prop}
theorem r_var {n : Nat} (h : σ[n]? = some (some v)) (q : Q v H) : tVar n σ H Q := ⟨v, h, q⟩
theorem r_c (q : Q v H) : tC v σ H Q := q
theorem r_op {r : R2} (h : ta σ H fun x H1 => tb σ H1 fun y H2 => r x y H2 Q) : tOp r ta tb σ H Q := h
theorem r_un {r : V → Hp → VK → Prop} (h : ta σ H fun x H1 => r x H1 Q) : tUn r ta σ H Q := h
theorem r_I0 {g : Int → Int → V} (q : Q (g i j) H) : rI0 g (.int i) (.int j) H Q := ⟨i, j, rfl, rfl, q⟩
theorem r_I {C : Int → Int → Prop} {g : Int → Int → V} (c : C i j) (q : Q (g i j) H) : rI C g (.int i) (.int j) H Q := ⟨i, j, rfl, rfl, c, q⟩
theorem r_mulW (c : CMulW i j) (q : Q (.int (i * j)) H) : rMulW (.int i) (.int j) H Q := ⟨i, j, rfl, rfl, c, q⟩
theorem r_divW (c : CDivW i j) (q : Q (.int (i / j)) H) : rDivW (.int i) (.int j) H Q := ⟨i, j, rfl, rfl, c, q⟩
theorem r_modP (c : 0 < j) (q : Q (.int (i % j)) H) : rModP (.int i) (.int j) H Q := ⟨i, j, rfl, rfl, c, q⟩
theorem r_U {g : Int → V} (q : Q (g i) H) : rU g (.int i) H Q := ⟨i, rfl, q⟩
theorem r_addI (q : Q (.int (i + j)) H) : rAddU K (.int i) (.int j) H Q := .inl ⟨i, j, rfl, rfl, q⟩
theorem r_addS {a b : Str} (h : a.length + b.length ≤ sizeLine) (q : Q (.str (a ++ b)) H) : rAddU K (.str a) (.str b) H Q := .inr (.inl ⟨a, b, rfl, rfl, h, q⟩)
theorem r_addL {p q : Addr} {xs ys : List V} (hp : H p = some (.lst xs)) (hq : H q = some (.lst ys)) (hz : xs.length + ys.length ≤ sizeLine) (k : ∀ l, H l = none → Q (.ref l) (upd H l (.lst (xs ++ ys)))) : rAddU K (.ref p) (.ref q) H Q :=
  .inr (.inr (.inl ⟨p, q, xs, ys, rfl, rfl, hp, hq, hz, k⟩))
theorem r_sub (q : Q (.int (i - j)) H) : rI0 (fun i j => .int (i - j)) (.int i) (.int j) H Q := ⟨i, j, rfl, rfl, q⟩
theorem r_inS {c : Nat} {z : Str} (q : Q (.bl (decide (c ∈ z.cps.toList))) H) : rInU K (.str ⟨#[c]⟩) (.str z) H Q := .inl ⟨c, z, rfl, rfl, q⟩
theorem r_niS {c : Nat} {z : Str} (q : Q (.bl (!decide (c ∈ z.cps.toList))) H) : rNotInU K (.str ⟨#[c]⟩) (.str z) H Q := .inl ⟨c, z, rfl, rfl, q⟩
theorem r_eq (h : scal x y = true) (q : Q (.bl (decide (x = y))) H) : rEqU K x y H Q := .inl ⟨h, q⟩
theorem r_ne (h : scal x y = true) (q : Q (.bl (!decide (x = y))) H) : rNeU K x y H Q := .inl ⟨h, q⟩
theorem r_isN (q : Q (.bl (decide (x = .non))) H) : rIsN1 x .non H Q := ⟨rfl, q⟩
theorem r_notN (q : Q (.bl (!decide (x = .non))) H) : rNotN1 x .non H Q := ⟨rfl, q⟩
theorem r_ixL {p : Addr} {xs : List V} (h : SqL K H p xs) (a : atI xs i = some v) (q : Q v H) : rIx K (.ref p) (.int i) H Q := .inl ⟨p, xs, i, v, rfl, rfl, h, a, q⟩
theorem r_ixT {p : Addr} {xs : List V} (h : SqT K H p xs) (a : atI xs i = some v) (q : Q v H) : rIx K (.ref p) (.int i) H Q := .inr (.inl ⟨p, xs, i, v, rfl, rfl, h, a, q⟩)
theorem r_ixS {z : Str} {c : Nat} (h : z.length ≤ sizeLine) (a : atI z.cps.toList i = some c) (q : Q (.str ⟨#[c]⟩) H) : rIx K (.str z) (.int i) H Q := .inr (.inr ⟨z, i, c, rfl, rfl, h, a, q⟩)
theorem r_slS {z : Str} {lo hi : Option Int} (h : z.length ≤ sizeLine) (q : Q (.str (cutS z lo hi)) H) : rSlU K (.str z) lo hi H Q := .inl ⟨z, rfl, h, q⟩
theorem r_slL {p : Addr} {xs : List V} {lo hi : Option Int} (h : SqL K H p xs) (q : ∀ l, H l = none → Q (.ref l) (upd H l (.lst (cutV xs lo hi)))) : rSlU K (.ref p) lo hi H Q := .inr (.inl ⟨p, xs, rfl, h, q⟩)
theorem r_lenS {z : Str} (h : z.length ≤ sizeLine) (q : Q (.int (z.length : Nat)) H) : rLenU K [.str z] H Q := ⟨_, _, rfl, ⟨h, rfl⟩, q⟩
theorem r_lenL {p : Addr} {xs : List V} (h : SqL K H p xs) (q : Q (.int (xs.length : Nat)) H) : rLenU K [.ref p] H Q := ⟨_, _, rfl, .inl ⟨xs, h, rfl⟩, q⟩
theorem r_lenT {p : Addr} {xs : List V} (h : SqT K H p xs) (q : Q (.int (xs.length : Nat)) H) : rLenU K [.ref p] H Q := ⟨_, _, rfl, .inr ⟨xs, h, rfl⟩, q⟩
theorem r_int (q : Q (.int i) H) : rInt1 [.int i] H Q := .inl ⟨i, rfl, q⟩
theorem r_max (q : Q (.int (max i j)) H) : rMax [.int i, .int j] H Q := ⟨i, j, rfl, by
  have e : (if j > i then j else i) = max i j := by omega
  rw [e]
  exact q⟩
theorem r_min (q : Q (.int (min i j)) H) : rMin [.int i, .int j] H Q := ⟨i, j, rfl, by
  have e : (if j < i then j else i) = min i j := by omega
  rw [e]
  exact q⟩
theorem r_listL {p : Addr} {xs : List V} (h : SqL K H p xs) (q : ∀ l, H l = none → Q (.ref l) (upd H l (.lst xs))) : rListU K [.ref p] H Q := ⟨p, xs, rfl, .inl h, q⟩
theorem r_listT {p : Addr} {xs : List V} (h : SqT K H p xs) (q : ∀ l, H l = none → Q (.ref l) (upd H l (.lst xs))) : rListU K [.ref p] H Q := ⟨p, xs, rfl, .inr h, q⟩
theorem r_tupL {p : Addr} {xs : List V} (h : SqL K H p xs) (q : ∀ l, H l = none → Q (.ref l) (upd H l (.tup xs))) : rTupU K [.ref p] H Q := ⟨p, xs, rfl, .inl ⟨h, q⟩⟩
theorem r_tupT {p : Addr} {xs : List V} (h : SqT K H p xs) (q : Q (.ref p) H) : rTupU K [.ref p] H Q := ⟨p, xs, rfl, .inr ⟨h, q⟩⟩
theorem r_isi {n a : String} {b : Bool} (ty : TyX K H x (.type a)) (e : kitB a n = some b) (q : Q (.bl b) H) : rIsi K [x, .ty n] H Q := ⟨x, .ty n, .type a, .type n, b, rfl, .ty n, ty, kit_ty e, q⟩
theorem r_nil (q : QL [] H) : tNil σ H QL := q
theorem r_cons (h : ta σ H fun x H1 => ar σ H1 fun xs H2 => QL (x :: xs) H2) : tCons ta ar σ H QL := h
theorem r_tup (h : ar σ H fun xs H1 => xs.length ≤ sizeLine ∧ ∀ p, H1 p = none → Q (.ref p) (upd H1 p (.tup xs))) : tTup ar σ H Q := h
theorem r_lst (h : ar σ H fun xs H1 => xs.length ≤ sizeLine ∧ ∀ p, H1 p = none → Q (.ref p) (upd H1 p (.lst xs))) : tLst ar σ H Q := h
theorem r_small {xs : List V} {P : Prop} (h : xs.length ≤ 1000) (k : P) : xs.length ≤ sizeLine ∧ P := ⟨Nat.le_of_lt (small1000 h), k⟩
theorem r_CB {r : List V → Hp → VK → Prop} (h : ar σ H fun vs H1 => r vs H1 Q) : tCB r ar σ H Q := h
theorem r_call {sp : Sp} {dvs : List V} {E : XK} (h : ar σ H fun vs H1 => sp (vs ++ dvs) H1 Q E) : tCall sp dvs E ar σ H Q := h
theorem r_callS {sp : Sp} {E : L2.St → XK} (h : ar σ H fun vs H1 => sp vs H1 Q (E σ)) : tCallS sp E ar σ H Q := h
theorem r_bl {b : Bool} (q : QB b H) : ∃ k, V.bl b = .bl k ∧ QB k H := ⟨b, rfl, q⟩
theorem r_test (h : te σ H fun x H1 => ∃ k, x = .bl k ∧ QB k H1) : tTest te σ H QB := h
theorem r_B (h : te σ H fun x H1 => ∃ k, x = .bl k ∧ QB k H1) : tB te σ H QB := h
theorem r_and (h : tt σ H fun c H1 => if c = true then tu σ H1 QB else QB false H1) : tAnd tt tu σ H QB := h
theorem r_andB {b1 b2 : Bool} (h1 : ∀ QB : Bool → Hp → Prop, QB b1 H → tt σ H QB) (h2 : b1 = true → ∀ QB : Bool → Hp → Prop, QB b2 H → tu σ H QB) (k : QB (b1 && b2) H) : tAnd tt tu σ H QB := by
  refine h1 _ ?_
  cases b1 with
  | true => exact h2 rfl _ k
  | false => exact k
theorem r_orB {b1 b2 : Bool} (h1 : ∀ QB : Bool → Hp → Prop, QB b1 H → tt σ H QB) (h2 : b1 = false → ∀ QB : Bool → Hp → Prop, QB b2 H → tu σ H QB) (k : QB (b1 || b2) H) : tOr tt tu σ H QB := by
  refine h1 _ ?_
  cases b1 with
  | true => exact k
  | false => exact h2 rfl _ k
theorem r_or (h : tt σ H fun c H1 => if c = true then QB true H1 else tu σ H1 QB) : tOr tt tu σ H QB := h
theorem r_not (h : tt σ H fun c H1 => QB (!c) H1) : tNot tt σ H QB := h
theorem r_andV (h : ta σ H fun x H1 => ∃ c, x = .bl c ∧ if c = true then tb σ H1 Q else Q (.bl false) H1) : tAndV ta tb σ H Q := h
theorem r_orV (h : ta σ H fun x H1 => ∃ c, x = .bl c ∧ if c = true then Q (.bl true) H1 else tb σ H1 Q) : tOrV ta tb σ H Q := h
theorem r_notV (h : ta σ H fun x H1 => ∃ c, x = .bl c ∧ Q (.bl (!c)) H1) : tNotV ta σ H Q := h
theorem r_ifE (h : tt σ H fun c H1 => if c = true then ta σ H1 Q else tb σ H1 Q) : tIf tt ta tb σ H Q := h
theorem r_blv {b : Bool} {P : Bool → Prop} (q : P b) : ∃ c, V.bl b = .bl c ∧ P c := ⟨b, rfl, q⟩
theorem r_sl {r : V → Option Int → Option Int → Hp → VK → Prop} {tl th : TO} (h : te σ H fun x H1 => tl σ H1 fun l H2 => th σ H2 fun u H3 => r x l u H3 Q) : tSl r te tl th σ H Q := h
theorem r_seq (h : t { D with nx := u D } σ H) : tSeq t u D σ H := h
theorem r_next (q : D.nx σ H) : tNext D σ H := q
theorem r_asg {g : TG} (h : te σ H fun x H1 => g x σ H1 D.nx) : tAsg te g D σ H := h
theorem r_gname {n : Nat} {N : L2.St → Hp → Prop} (q : N (σ.set n (some v)) H) : gName n v σ H N := q
theorem r_ret (h : te σ H D.rt) : tRet te D σ H := h
theorem r_retN (h : D.rt .non H) : tRetN D σ H := h
theorem r_drop (h : te σ H fun _ H1 => D.nx σ H1) : tDrop te D σ H := h
theorem r_ifS (h : tt σ H fun b H1 => if b = true then t D σ H1 else u D σ H1) : tIfS tt t u D σ H := h
theorem r_app {p : Addr} {xs : List V} (h : H p = some (.lst xs)) (z : xs.length < sizeLine) (q : Q .non (upd H p (.lst (xs ++ [v])))) : rAppend (.ref p) [v] H Q := ⟨p, xs, v, rfl, rfl, h, z, q⟩
theorem r_bm {T : String} {r : V → List V → Hp → VK → Prop} (h : te σ H fun x H1 => tyV K T x H1 ∧ ar σ H1 fun xs H2 => r x xs H2 Q) : tBM K T r te ar σ H Q := h
theorem r_tyL {p : Addr} {xs : List V} {P : Prop} (h : SqL K H p xs) (k : P) : tyV K "list" (.ref p) H ∧ P := ⟨.inl ⟨rfl, xs, h⟩, k⟩
theorem r_setL {p : Addr} {xs : List V} {n : Nat} {N : Hp → Prop} (h : H p = some (.lst xs)) (a : ixN xs.length i = some n) (q : N (upd H p (.lst (xs.set n v)))) : rSetL (.ref p) (.int i) v H N := ⟨p, xs, i, n, rfl, rfl, h, a, q⟩
theorem r_gsub {ti : TE} {to : TE} {ts : TSet} {N : L2.St → Hp → Prop} (h : to σ H fun o H1 => ti σ H1 fun i H2 => ts o i v H2 fun H3 => N σ H3) : gSub to ti ts v σ H N := h
theorem r_ite {c A B : Prop} [Decidable c] (h1 : c → A) (h2 : ¬ c → B) : if decide c = true then A else B := by
  by_cases h : c
  · rw [if_pos (decide_eq_true h)]
    exact h1 h
  · rw [if_neg (by rw [decide_eq_false h]; decide)]
    exact h2 h
theorem r_iteN {c A B : Prop} [Decidable c] (h1 : ¬ c → A) (h2 : c → B) : if (!decide c) = true then A else B := by
  by_cases h : c
  · rw [if_neg (by rw [decide_eq_true h]; decide)]
    exact h2 h
  · rw [if_pos (by rw [decide_eq_false h]; rfl)]
    exact h1 h
theorem r_iteB {b : Bool} {A B : Prop} (h1 : b = true → A) (h2 : b = false → B) : if b = true then A else B := by
  cases b with
  | true => exact h1 rfl
  | false => exact h2 rfl
theorem r_itt {A B : Prop} (h : A) : if true = true then A else B := by
  rw [if_pos rfl]
  exact h
theorem r_iff {A B : Prop} (h : B) : if false = true then A else B := by
  rw [if_neg Bool.false_ne_true]
  exact h
theorem r_ittD {b : Bool} {A B : Prop} (e : b = true) (h : A) : if b = true then A else B := by
  rw [if_pos e]
  exact h
theorem r_iffD {b : Bool} {A B : Prop} (e : b = false) (h : B) : if b = true then A else B := by
  rw [e]
  exact r_iff h
theorem r_ittN {A B : Prop} (h : A) : if (!false) = true then A else B := r_itt h
theorem r_iffN {A B : Prop} (h : B) : if (!true) = true then A else B := r_iff h
end

/-! ### growth, further -/
section
variable {A : Addr → Prop} {G H G1 H1 G2 H2 : Hp} {p q m : Addr} {o o' u : HO} {K : PySem.W.Frag} {xs : List V} {Q : VK}
theorem Gr.ex (g : Ex G H) (e : Ex H H1) : Gr A G H G H1 := ⟨Same.refl G, g.trans e, fun b o _ h => e b o h, fun b o h => ⟨o, e b o h⟩, fun _ _ _ n => n⟩
/-- a step of one that leaves everything as it was -/
theorem Gr.then (t : Gr A G H G1 H1) (e : Ex H1 H2) : Gr A G H G1 H2 := t.trans (.ex t.gh e)
theorem Gr.none_of (t : Gr A G H G1 H1) (h : H p = some o) (n : G p = none) : G1 p = none := t.nw p o h n
/-- a new tuple, known for good -/
theorem a_tup (g : Ex G H) (hl : xs.length ≤ 1000) (k : ∀ p G' H', Gr A0 G H G' H' → G' p = some (.tup xs) → H p = none → Q (.ref p) H') :
    xs.length ≤ sizeLine ∧ ∀ p, H p = none → Q (.ref p) (upd H p (.tup xs)) :=
  ⟨Nat.le_of_lt (small1000 hl), fun p hp => k p _ _ (Gr.new g hp) upd_same hp⟩
theorem a_lst (g : Ex G H) (hl : xs.length ≤ 1000) (k : ∀ p G' H', Gr A0 G H G' H' → G' p = some (.lst xs) → H p = none → Q (.ref p) H') :
    xs.length ≤ sizeLine ∧ ∀ p, H p = none → Q (.ref p) (upd H p (.lst xs)) :=
  ⟨Nat.le_of_lt (small1000 hl), fun p hp => k p _ _ (Gr.new g hp) upd_same hp⟩
/-- a new list of our own -/
theorem a_own (g : Ex G H) (hl : xs.length ≤ 1000) (k : ∀ p H', Gr A0 G H G H' → H' p = some (.lst xs) → H p = none → G p = none → Q (.ref p) H') :
    xs.length ≤ sizeLine ∧ ∀ p, H p = none → Q (.ref p) (upd H p (.lst xs)) :=
  ⟨Nat.le_of_lt (small1000 hl), fun p hp => k p _ (Gr.own g hp) upd_same hp (g.free hp)⟩
theorem n_tup (g : Ex G H) (k : ∀ p G' H', Gr A0 G H G' H' → G' p = some (.tup xs) → H p = none → Q (.ref p) H') :
    ∀ p, H p = none → Q (.ref p) (upd H p (.tup xs)) := fun p hp => k p _ _ (Gr.new g hp) upd_same hp
theorem n_lst (g : Ex G H) (k : ∀ p G' H', Gr A0 G H G' H' → G' p = some (.lst xs) → H p = none → Q (.ref p) H') :
    ∀ p, H p = none → Q (.ref p) (upd H p (.lst xs)) := fun p hp => k p _ _ (Gr.new g hp) upd_same hp
theorem n_own (g : Ex G H) (k : ∀ p H', Gr A0 G H G H' → H' p = some (.lst xs) → H p = none → G p = none → Q (.ref p) H') :
    ∀ p, H p = none → Q (.ref p) (upd H p (.lst xs)) := fun p hp => k p _ (Gr.own g hp) upd_same hp (g.free hp)
end
/-! ### raising a class of one field -/
section
variable {K : PySem.W.Frag} {σ : L2.St} {H : Hp} {C : Addr} {f : Str} {v : V} {W : XK}
/-- the promise of its __init__ -/
def spInit1 (C : Addr) (f : Str) : Sp := fun vs H Q _ => ∃ (a : Addr) (v : V), vs = [.ref a, v] ∧ H a = some (exo a C none) ∧
  ∀ dx, H dx = none → dx ≠ a → Q .non (upd (upd H dx (exd dx [(f, v)])) a (exo a C (some dx)))
theorem r_raise1 (q : ∀ d, H d = none → W (.ref C) (some d) (upd H d (.xd [(f, v)]))) :
    ([v] : List V).length ≤ 1000 ∧ ∀ a, H a = none → spInit1 C f (.ref a :: ([v] ++ [])) (upd H a (exo a C none))
      (fun v H2 => v = .non ∧ ∃ (d : Addr) (fs : List (Str × V)), H2 a = some (exo a C (some d)) ∧ H2 d = some (exd d fs) ∧ H d = none ∧ W (.ref C) (some d) (upd (del H2 a) d (.xd fs))) (fun _ _ _ => False) := by
  refine ⟨by show 1 ≤ 1000; decide, fun a ha => ⟨a, v, rfl, upd_same, fun dx hdx hne => ⟨rfl, dx, [(f, v)], upd_same, ?_, ?_, ?_⟩⟩⟩
  · rw [upd_ne hne]
    exact upd_same
  · rw [upd_ne hne] at hdx
    exact hdx
  · rw [upd_ne hne] at hdx
    have e : upd (del (upd (upd (upd H a (exo a C none)) dx (exd dx [(f, v)])) a (exo a C (some dx))) a) dx (.xd [(f, v)]) = upd H dx (.xd [(f, v)]) := by
      funext b
      by_cases h1 : b = dx
      · rw [h1, upd_same, upd_same]
      · rw [upd_ne h1, upd_ne h1]
        by_cases h2 : b = a
        · rw [h2, del_same, ha]
        · rw [del_ne h2, upd_ne h2, upd_ne h1, upd_ne h2]
    rw [e]
    exact q dx hdx
end
theorem Same.mut {H H' : Hp} {p : Addr} {o : HO} (e : Ex H H') (h : H p = none) : Ex H (upd H' p o) := fun a u ha => by
  rw [upd_ne (ne_of_none ha h)]
  exact e a u ha
theorem Same.new {H H' : Hp} {p : Addr} {o : HO} (e : Ex H H') (h : H' p = none) : Ex H (upd H' p o) := fun a u ha => by
  rw [upd_ne (ne_of_none (e a u ha) h)]
  exact e a u ha
/-! ### texts by their codes -/
abbrev cs (z : Str) : List Nat := z.cps.toList
theorem cs_ext {a b : Str} (h : cs a = cs b) : a = b := by
  cases a
  cases b
  exact congrArg Str.mk (Array.toList_inj.mp h)
theorem cs_len (z : Str) : (cs z).length = z.length := Array.length_toList
theorem cs_app (a b : Str) : cs (a ++ b) = cs a ++ cs b := Array.toList_append
theorem cs_join : ∀ ys : List Str, cs (Txt.join "" ys) = (ys.map cs).flatten := fun ys => by
  rw [TL.join_eq]
  induction ys with
  | nil => rfl
  | cons y r ih =>
    cases r with
    | nil => simp [PySem.Str.join, cs]
    | cons x r' =>
      have e : PySem.Str.join "" (y :: x :: r') = y ++ "" ++ PySem.Str.join "" (x :: r') := rfl
      rw [e, cs_app, cs_app, ih]
      have e0 : cs ("" : Str) = [] := by decide
      rw [e0, List.append_nil]
      rfl
theorem cut_list (l : List Nat) (a b : Nat) : (l.drop (min a l.length)).take (min b l.length - min a l.length) = (l.drop a).take (b - a) := by
  by_cases h : a ≤ l.length
  · rw [Nat.min_eq_left h]
    by_cases hb : b ≤ l.length
    · rw [Nat.min_eq_left hb]
    · have hb' : l.length ≤ b := by omega
      rw [Nat.min_eq_right hb', List.take_of_length_le (by rw [List.length_drop]; omega), List.take_of_length_le (by rw [List.length_drop]; omega)]
  · have ha' : l.length ≤ a := by omega
    rw [Nat.min_eq_right ha', List.drop_of_length_le (Nat.le_refl _), List.drop_of_length_le ha', List.take_nil, List.take_nil]
theorem cs_cut (z : Str) (a b : Nat) : cs (cutS z (some (a : Int)) (some (b : Int))) = ((cs z).drop a).take (b - a) := by
  show ((z.cps.toList.drop (HT.sIx z.length 0 (some (a : Int)))).take (HT.sIx z.length z.length (some (b : Int)) - HT.sIx z.length 0 (some (a : Int)))) = _
  rw [HT.sIx_nat, HT.sIx_nat, ← cs_len z]
  exact cut_list _ a b
theorem cs_from (z : Str) (a : Nat) : cs (cutS z (some (a : Int)) none) = (cs z).drop a := by
  show ((z.cps.toList.drop (HT.sIx z.length 0 (some (a : Int)))).take (HT.sIx z.length z.length none - HT.sIx z.length 0 (some (a : Int)))) = _
  rw [HT.sIx_nat, HT.sIx_none, ← cs_len z]
  have h := cut_list (cs z) a (cs z).length
  rw [Nat.min_self] at h
  rw [h, List.take_of_length_le (by rw [List.length_drop]; omega)]
theorem cs_to (z : Str) (b : Nat) : cs (cutS z none (some (b : Int))) = (cs z).take b := by
  show ((z.cps.toList.drop (HT.sIx z.length 0 none)).take (HT.sIx z.length z.length (some (b : Int)) - HT.sIx z.length 0 none)) = _
  rw [HT.sIx_nat, HT.sIx_none, ← cs_len z]
  have h := cut_list (cs z) 0 b
  rw [Nat.zero_min] at h
  exact h
theorem cut_len (z : Str) (lo hi : Option Int) : (cutS z lo hi).length ≤ z.length := cutS_length z lo hi
theorem int_nat {i : Int} (h : 0 ≤ i) : i = ((i.toNat : Nat) : Int) := by omega
theorem at_g {α : Type} {xs : List α} {z : Int} {j : Nat} {v : α} (e : z = (j : Int)) (h : xs[j]? = some v) : atI xs z = some v := by
  rw [e]
  exact atI_nat h
theorem sum_ones {α : Type} : ∀ l : List α, (l.map fun _ => 1).sum = l.length
  | [] => rfl
  | _ :: r => by rw [List.map_cons, List.sum_cons, sum_ones r, List.length_cons, Nat.add_comm]
theorem nsz {xs : List V} (h : Nat.ble xs.length 1000 = true := by rfl) : xs.length ≤ 1000 := Nat.le_of_ble_eq_true h
/-! ### loops -/
section
variable {K : PySem.W.Frag} {σ : L2.St} {H : Hp} {tl : TE} {ta : TA} {g : TG} {tb : TS} {D : Ends}
theorem r_forT (h : tl σ H fun x H1 => ∃ (a : Addr) (xs : List V), x = .ref a ∧ SqT K H1 a xs ∧ ∃ Pv : Nat → L2.St → Hp → Prop, Pv 0 σ H1 ∧ (∀ i σ H, Pv i σ H → SqT K H a xs) ∧
    (∀ i x σ H, xs[i]? = some x → Pv i σ H → g x σ H fun σ2 H2 => tb { D with nx := Pv (i + 1), ct := Pv (i + 1), bk := D.nx } σ2 H2) ∧ ∀ σ H, Pv xs.length σ H → D.nx σ H)
    (mono : ∀ Q Q' : VK, (∀ v H, Q v H → Q' v H) → tl σ H Q → tl σ H Q') : tFor (iTup K tl) g tb D σ H := by
  refine mono _ _ (fun v H1 hh => ?_) h
  obtain ⟨a, xs, rfl, hs, Pv, p0, hl, ht, hd⟩ := hh
  exact ⟨a, rfl, ⟨xs, hs⟩, for_it walk_tup Pv p0 (fun i σ H _ p => hl i σ H p) (fun i x σ H H' hi p y => by
    obtain ⟨rfl, hx⟩ := y
    exact ht i x σ _ hx p) hd⟩
theorem r_forL (h : tl σ H fun x H1 => ∃ (a : Addr) (xs : List V), x = .ref a ∧ SqL K H1 a xs ∧ ∃ Pv : Nat → L2.St → Hp → Prop, Pv 0 σ H1 ∧ (∀ i σ H, Pv i σ H → SqL K H a xs) ∧
    (∀ i x σ H, xs[i]? = some x → Pv i σ H → g x σ H fun σ2 H2 => tb { D with nx := Pv (i + 1), ct := Pv (i + 1), bk := D.nx } σ2 H2) ∧ ∀ σ H, Pv xs.length σ H → D.nx σ H)
    (mono : ∀ Q Q' : VK, (∀ v H, Q v H → Q' v H) → tl σ H Q → tl σ H Q') : tFor (iList K tl) g tb D σ H := by
  refine mono _ _ (fun v H1 hh => ?_) h
  obtain ⟨a, xs, rfl, hs, Pv, p0, hl, ht, hd⟩ := hh
  exact ⟨a, rfl, ⟨xs, hs⟩, for_it walk_list Pv p0 (fun i σ H _ p => hl i σ H p) (fun i x σ H H' hi p y => by
    obtain ⟨rfl, hx⟩ := y
    exact ht i x σ _ hx p) hd⟩
theorem m_var {n : Nat} : ∀ Q Q' : VK, (∀ v H, Q v H → Q' v H) → tVar n σ H Q → tVar n σ H Q' := fun Q Q' h t => by
  obtain ⟨v, e, q⟩ := t
  exact ⟨v, e, h v _ q⟩
/-- over a name's list, tuple, text -/
theorem r_forTv {n : Nat} {a : Addr} {xs : List V} (e : σ[n]? = some (some (.ref a))) (hs : SqT K H a xs) (Pv : Nat → L2.St → Hp → Prop) (p0 : Pv 0 σ H) (hl : ∀ i σ H, Pv i σ H → SqT K H a xs)
    (ht : ∀ i x σ H, xs[i]? = some x → Pv i σ H → g x σ H fun σ2 H2 => tb { D with nx := Pv (i + 1), ct := Pv (i + 1), bk := D.nx } σ2 H2) (hd : ∀ σ H, Pv xs.length σ H → D.nx σ H) : tFor (iTup K (tVar n)) g tb D σ H :=
  r_forT ⟨_, e, a, xs, rfl, hs, Pv, p0, hl, ht, hd⟩ m_var
theorem r_forLv {n : Nat} {a : Addr} {xs : List V} (e : σ[n]? = some (some (.ref a))) (hs : SqL K H a xs) (Pv : Nat → L2.St → Hp → Prop) (p0 : Pv 0 σ H) (hl : ∀ i σ H, Pv i σ H → SqL K H a xs)
    (ht : ∀ i x σ H, xs[i]? = some x → Pv i σ H → g x σ H fun σ2 H2 => tb { D with nx := Pv (i + 1), ct := Pv (i + 1), bk := D.nx } σ2 H2) (hd : ∀ σ H, Pv xs.length σ H → D.nx σ H) : tFor (iList K (tVar n)) g tb D σ H :=
  r_forL ⟨_, e, a, xs, rfl, hs, Pv, p0, hl, ht, hd⟩ m_var
theorem r_forSv {n : Nat} {z : Str} (e : σ[n]? = some (some (.str z))) (Pv : Nat → L2.St → Hp → Prop) (p0 : Pv 0 σ H)
    (ht : ∀ i c σ H, (cs z)[i]? = some c → Pv i σ H → g (.str ⟨#[c]⟩) σ H fun σ2 H2 => tb { D with nx := Pv (i + 1), ct := Pv (i + 1), bk := D.nx } σ2 H2) (hd : ∀ σ H, Pv z.length σ H → D.nx σ H) : tFor (iStr (tVar n)) g tb D σ H := by
  refine ⟨_, e, z, rfl, for_it walk_str Pv p0 (fun _ _ _ _ _ => trivial) (fun i x σ H H' hi p y => ?_) hd⟩
  obtain ⟨rfl, c, hc, rfl⟩ := y
  exact ht i c σ _ (by rw [Array.getElem?_toList]; exact hc) p
theorem walk_E {G : Hp → Prop} {n : Nat} {Y : Nat → Hp → V → Prop} : Walk (ItE G n Y) n G (fun i H v H' => ∃ T x, v = .ref T ∧ H T = none ∧ H' = upd H T (.tup [.int (i : Nat), x]) ∧ Y i H x) :=
  ⟨fun i H hi g => ⟨g, hi⟩, fun H g => ⟨g, rfl⟩, fun i H x H' hi g y => y⟩
theorem r_forETv {n : Nat} {a : Addr} {xs : List V} (e : σ[n]? = some (some (.ref a))) (hs : SqT K H a xs) (Pv : Nat → L2.St → Hp → Prop) (p0 : Pv 0 σ H) (hl : ∀ i σ H, Pv i σ H → SqT K H a xs)
    (ht : ∀ i x σ H p, xs[i]? = some x → Pv i σ H → H p = none → g (.ref p) σ (upd H p (.tup [.int (i : Nat), x])) fun σ2 H2 => tb { D with nx := Pv (i + 1), ct := Pv (i + 1), bk := D.nx } σ2 H2)
    (hd : ∀ σ H, Pv xs.length σ H → D.nx σ H) : tFor (Dk.iEnumT K (tCons (tVar n) tNil)) g tb D σ H := by
  refine ⟨_, e, a, xs, rfl, hs, for_it walk_E Pv p0 (fun i σ H _ p => hl i σ H p) (fun i x σ H H' hi p y => ?_) hd⟩
  obtain ⟨T, x', rfl, hT, rfl, hx⟩ := y
  exact ht i x' σ H T hx p hT
theorem r_forESv {n : Nat} {z : Str} (e : σ[n]? = some (some (.str z))) (Pv : Nat → L2.St → Hp → Prop) (p0 : Pv 0 σ H)
    (ht : ∀ i c σ H p, (cs z)[i]? = some c → Pv i σ H → H p = none → g (.ref p) σ (upd H p (.tup [.int (i : Nat), .str ⟨#[c]⟩])) fun σ2 H2 => tb { D with nx := Pv (i + 1), ct := Pv (i + 1), bk := D.nx } σ2 H2)
    (hd : ∀ σ H, Pv z.length σ H → D.nx σ H) : tFor (Dk.iEnumS (tCons (tVar n) tNil)) g tb D σ H := by
  refine ⟨_, e, z, rfl, for_it walk_E Pv p0 (fun _ _ _ _ _ => trivial) (fun i x σ H H' hi p y => ?_) hd⟩
  obtain ⟨T, x', rfl, hT, rfl, c, hc, rfl⟩ := y
  exact ht i c σ H T (by rw [Array.getElem?_toList]; exact hc) p hT
/-- over range(n) -/
theorem r_forR1 (h : ta σ H fun vs H1 => ∃ n : Int, vs = [.int n] ∧ -1000000 ≤ n ∧ n ≤ 1000000 ∧ ∃ Pv : Nat → L2.St → Hp → Prop, Pv 0 σ H1 ∧
    (∀ (i : Nat) σ H, (i : Int) < n → Pv i σ H → g (.int (i : Nat)) σ H fun σ2 H2 => tb { D with nx := Pv (i + 1), ct := Pv (i + 1), bk := D.nx } σ2 H2) ∧ ∀ σ H, Pv n.toNat σ H → D.nx σ H)
    (mono : ∀ Q Q' : List V → Hp → Prop, (∀ v H, Q v H → Q' v H) → ta σ H Q → ta σ H Q') : tFor (iRng1 ta) g tb D σ H := by
  refine mono _ _ (fun v H1 hh => ?_) h
  obtain ⟨n, rfl, h1, h2, Pv, p0, ht, hd⟩ := hh
  refine ⟨n, rfl, by omega, by omega, for_range Pv p0 (fun i σ H hi p => ?_) hd⟩
  have z := ht i σ H (by omega) p
  rw [Int.zero_add]
  exact z
end
section
variable {K : PySem.W.Frag} {σ : L2.St} {H : Hp} {N : L2.St → Hp → Prop} {v : V} {vs : List V} {t : TG} {u : TGs}
theorem r_gtup {n : Nat} {a : Addr} (h : SqT K H a vs) (hl : vs.length = n) (k : u vs σ H N) : gTup K n u (.ref a) σ H N := ⟨a, vs, rfl, h, hl, k⟩
theorem r_gcons (k : t v σ H fun σ' H' => u vs σ' H' N) : gCons t u (v :: vs) σ H N := ⟨v, vs, rfl, k⟩
theorem r_gnil (k : N σ H) : gNil [] σ H N := ⟨rfl, k⟩
theorem r_mkO {C : Addr} {sp : Sp} {dvs : List V} {ta : TA} {Q : XK} (h : ta σ H fun vs H1 => vs.length ≤ 1000 ∧ ∀ a, H1 a = none → sp (.ref a :: (vs ++ dvs)) (upd H1 a (exo a C none))
  (fun v H2 => v = .non ∧ ∃ (d : Addr) (fs : List (Str × V)), H2 a = some (exo a C (some d)) ∧ H2 d = some (exd d fs) ∧ H1 d = none ∧ Q (.ref C) (some d) (upd (del H2 a) d (.xd fs))) (fun _ _ _ => False)) : tMkO C sp dvs ta σ H Q := h
theorem r_xfo {a C : Addr} {cls : Value} {d : Option Addr} {f : Str} {te : TE} {Q : VK} (h : te σ H fun x H1 => x = .ref a ∧ cls = .ref C ∧ ∃ (dd : Addr) (fs : List (Str × V)) (v : V), d = some dd ∧ H1 dd = some (.xd fs) ∧ fs.lookup f = some v ∧ Q v H1) : tXf a cls d C f te σ H Q := h
theorem r_noP {QO : Option Int → Hp → Prop} (q : QO none H) : tNoPart σ H QO := q
theorem r_part {te : TE} {QO : Option Int → Hp → Prop} (h : te σ H fun x H1 => ∃ i, x = .int i ∧ QO (some i) H1) : tPart te σ H QO := h
theorem r_pI {i : Int} {PO : Int → Prop} (q : PO i) : ∃ j, V.int i = .int j ∧ PO j := ⟨i, rfl, q⟩
end
/-! ### draws -/
def M61 : Int := 2305843009213693951
/-- the state of the draws stands at a -/
def Stt (H : Hp) (a : Addr) : Prop := ∃ z : Int, H a = some (.lst [.int z]) ∧ 0 ≤ z ∧ z < M61
theorem nat61 {z : Int} (h0 : 0 ≤ z) (h : z < M61) : z.natAbs < 2 ^ 61 := by
  unfold M61 at h
  have e : (2 : Nat) ^ 61 = 2305843009213693952 := by decide
  omega
/-- draws were made: the state at a turned, all else is as it was -/
structure Dr (a : Addr) (H H' : Hp) : Prop where
  hh : ∀ b o, b ≠ a → H b = some o → H' b = some o
  st : Stt H' a
section
variable {A : Addr → Prop} {a p : Addr} {G H G1 H1 H2 : Hp} {o : HO}
theorem Stt.up (s : Stt H a) (e : Ex H H1) : Stt H1 a := s.imp fun _ z => ⟨e _ _ z.1, z.2⟩
theorem Stt.ne (s : Stt H a) (h : H p = none) : p ≠ a := fun z => by
  obtain ⟨v, e, _⟩ := s
  rw [← z, h] at e
  cases e
theorem Stt.put (s : Stt H a) (h : p ≠ a) : Stt (upd H p o) a := s.imp fun _ z => ⟨by rw [upd_ne (Ne.symm h)]; exact z.1, z.2⟩
theorem Dr.refl (s : Stt H a) : Dr a H H := ⟨fun _ _ _ h => h, s⟩
theorem Dr.trans (x : Dr a H H1) (y : Dr a H1 H2) : Dr a H H2 := ⟨fun b o n h => y.hh b o n (x.hh b o n h), y.st⟩
theorem Dr.ex (s : Stt H a) (e : Ex H H1) : Dr a H H1 := ⟨fun b o _ h => e b o h, s.up e⟩
theorem Dr.then (x : Dr a H H1) (e : Ex H1 H2) : Dr a H H2 := x.trans (.ex x.st e)
theorem Dr.set {z : Int} (h0 : 0 ≤ z) (h : z < M61) : Dr a H (upd H a (.lst [.int z])) := ⟨fun b o n e => by rw [upd_ne n]; exact e, z, upd_same, h0, h⟩
theorem Dr.mut (x : Dr a H H1) (hp : H p = none) (ne : p ≠ a) : Dr a H (upd H1 p o) :=
  ⟨fun b u n e => by rw [upd_ne (ne_of_none e hp)]; exact x.hh b u n e, x.st.put ne⟩
theorem Dr.new (x : Dr a H H1) (hp : H1 p = none) : Dr a H (upd H1 p o) := x.then (Same.new (Same.refl H1) hp)
theorem Dr.gr (g : Ex G H) (n : G a = none) (s : Stt H a) (d : Dr a H H1) : Gr (· = a) G H G H1 where
  gg := Same.refl G
  gh := fun b x e => d.hh b x (ne_of_none e n) (g b x e)
  hh := fun b x z e => d.hh b x z e
  th := fun b x e => by
    by_cases h : b = a
    · obtain ⟨v, z, _⟩ := d.st
      exact ⟨_, by rw [h]; exact z⟩
    · exact ⟨x, d.hh b x h e⟩
  nw := fun b x e z => z
theorem Gr.na (t : Gr A G H G1 H1) (n : G a = none) (s : Stt H a) : G1 a = none := by
  obtain ⟨z, e, _⟩ := s
  exact t.nw a _ e n
theorem Gr.dr (t : Gr (· = a) G H G1 H1) (n : G a = none) (s : Stt H a) (s1 : Stt H1 a) (d : Dr a H1 H2) : Gr (· = a) G H G1 H2 :=
  t.trans (Dr.gr t.gh (t.na n s) s1 d)
end
/-! ### the laws' own draws -/
def AL : Str := "\n !\"#$&'()*+,-./0123456789:;<=>?@ABCDEFGHIJKLMNOPQRSTUVWXYZ[\\]^_`abcdefghijklmnopqrstuvwxyz{|}~"
def InAL (z : Str) : Prop := ∀ c ∈ cs z, c ∈ cs AL
theorem AL_len : AL.length = 95 := by decide +kernel
def spDraw : Sp := fun vs H Q _ => ∃ (a : Addr) (n : Int), vs = [.ref a, .int n] ∧ Stt H a ∧ 0 < n ∧ ∀ (d : Int) H', 0 ≤ d → d < n → Dr a H H' → Q (.int d) H'
def spStart (K : PySem.W.Frag) : Sp := fun vs H Q _ => ∃ (s : Addr) (ns : List Int), vs = [.ref s] ∧ SqL K H s (ns.map V.int) ∧ ∀ p H', Ex H H' → H p = none → Stt H' p → Q (.ref p) H'
def spSigns : Sp := fun vs H Q _ => vs = [] ∧ Q (.str AL) H
def spText : Sp := fun vs H Q _ => ∃ (a : Addr) (n : Int), vs = [.ref a, .int n] ∧ Stt H a ∧ 0 ≤ n ∧ n ≤ 8000 ∧ ∀ o H', Dr a H H' → (o.length : Int) = n → InAL o → Q (.str o) H'
theorem mix_next {z : Int} (e : Int) : 0 ≤ e % M61 ∧ e % M61 < M61 := ⟨Int.emod_nonneg _ (by decide), Int.emod_lt_of_pos _ (by decide)⟩
/-! ### what is known at a place of a drawing def -/
structure Wd (a : Addr) (G H : Hp) : Prop where
  g : Ex G H
  na : G a = none
  st : Stt H a
section
variable {a p : Addr} {G H G1 H1 G2 H2 : Hp} {o : HO} {xs : List V} {Q : VK}
theorem Wd.step (x : Wd a G H) (t : Gr (· = a) G H G1 H1) (s : Stt H1 a) : Wd a G1 H1 := ⟨t.gh, t.na x.na x.st, s⟩
theorem Wd.pure (x : Wd a G H) (t : Gr A0 G H G1 H1) : Wd a G1 H1 := ⟨t.gh, t.na x.na x.st, x.st.up t.same⟩
theorem Wd.ex (x : Wd a G H) (e : Ex H H1) : Wd a G H1 := ⟨x.g.trans e, x.na, x.st.up e⟩
theorem Wd.dr (x : Wd a G H) (d : Dr a H H1) : Wd a G H1 := ⟨(Dr.gr x.g x.na x.st d).gh, x.na, d.st⟩
theorem Wd.gdr (x : Wd a G H) (d : Dr a H H1) : Gr (· = a) G H G H1 := Dr.gr x.g x.na x.st d
/-- a new list, known for good -/
theorem w_lst (x : Wd a G H) (k : ∀ p G' H', Gr A0 G H G' H' → Wd a G' H' → G' p = some (.lst xs) → Q (.ref p) H') :
    ∀ p, H p = none → Q (.ref p) (upd H p (.lst xs)) := fun p hp => k p _ _ (Gr.new x.g hp) (x.pure (Gr.new x.g hp)) upd_same
theorem w_tup (x : Wd a G H) (k : ∀ p G' H', Gr A0 G H G' H' → Wd a G' H' → G' p = some (.tup xs) → Q (.ref p) H') :
    ∀ p, H p = none → Q (.ref p) (upd H p (.tup xs)) := fun p hp => k p _ _ (Gr.new x.g hp) (x.pure (Gr.new x.g hp)) upd_same
end
theorem new_ex {G H : Hp} {p : Addr} (g : Ex G H) (hp : H p = none) (o : HO) : ∃ G' H', H' = upd H p o ∧ Gr A0 G H G' H' ∧ G' p = some o :=
  ⟨_, _, rfl, Gr.new g hp, upd_same⟩
theorem w_new {a p : Addr} {G H : Hp} (x : Wd a G H) (hp : H p = none) (o : HO) : ∃ G' H', H' = upd H p o ∧ Gr A0 G H G' H' ∧ Wd a G' H' ∧ G' p = some o :=
  ⟨_, _, rfl, Gr.new x.g hp, x.pure (Gr.new x.g hp), upd_same⟩
theorem atI_m1 {xs : List V} (h : xs ≠ []) : ∃ x, atI xs (-1) = some x ∧ x ∈ xs := by
  obtain ⟨l, y, rfl⟩ : ∃ l y, xs = l ++ [y] := ⟨_, _, (List.dropLast_concat_getLast h).symm⟩
  exact ⟨y, atI_last _ _, by simp⟩
theorem own_ex {G H : Hp} {p : Addr} (g : Ex G H) (hp : H p = none) (o : HO) : ∃ H', H' = upd H p o ∧ Gr A0 G H G H' ∧ H' p = some o ∧ G p = none :=
  ⟨_, rfl, Gr.own g hp, upd_same, g.free hp⟩
theorem Gr.fresh {A : Addr → Prop} {G H G1 H1 : Hp} {p : Addr} (t : Gr A G H G1 H1) (h : H1 p = none) : H p = none := by
  cases e : H p with
  | none => rfl
  | some o =>
    obtain ⟨o', z⟩ := t.th p o e
    rw [h] at z
    cases z
theorem ixN_nat {n : Nat} {i : Int} (h0 : 0 ≤ i) (h : i < (n : Int)) : ixN n i = some i.toNat := by
  unfold ixN
  rw [if_pos h0, if_pos h]
/-! loops whose source is reckoned -/
section
variable {K : PySem.W.Frag} {σ : L2.St} {H : Hp} {tl : TE} {ta : TA} {g : TG} {tb : TS} {D : Ends}
def LoopW (J : It) (g : TG) (tb : TS) (D : Ends) (σ : L2.St) (H1 : Hp) : Prop := ∃ W : Nat → Nat → L2.St → Hp → Prop, (∃ m, W 0 m σ H1) ∧ ∀ i m σ H, W i m σ H →
  (J.stop i H ∧ D.nx σ H) ∨ (J.go i H ∧ ∃ N : L2.St → Hp → Prop, (∀ σ' H', N σ' H' → ∃ m', m' < m ∧ W (i + 1) m' σ' H') ∧ ∀ x H', J.yld i H x H' → g x σ H' fun σ2 H2 => tb { D with nx := N, ct := N, bk := D.nx } σ2 H2)
theorem r_forLo (h : tl σ H fun x H1 => ∃ a, x = .ref a ∧ (∃ xs, SqL K H1 a xs) ∧ LoopW (Itl K a) g tb D σ H1) : tFor (iList K tl) g tb D σ H := h
theorem r_forTo (h : tl σ H fun x H1 => ∃ a, x = .ref a ∧ (∃ xs, SqT K H1 a xs) ∧ LoopW (Itt K a) g tb D σ H1) : tFor (iTup K tl) g tb D σ H := h
theorem r_forSo (h : tl σ H fun x H1 => ∃ z, x = .str z ∧ LoopW (Its z) g tb D σ H1) : tFor (iStr tl) g tb D σ H := h
theorem r_forRo (h : ta σ H fun vs H1 => ∃ j : Int, vs = [.int j] ∧ -(2 ^ 62) ≤ j ∧ j < 2 ^ 62 ∧ LoopW (Itr 0 j.toNat) g tb D σ H1) : tFor (iRng1 ta) g tb D σ H := h
theorem r_forR2o (h : ta σ H fun vs H1 => ∃ i j : Int, vs = [.int i, .int j] ∧ (-(2 ^ 62) ≤ i ∧ i < 2 ^ 62 ∧ -(2 ^ 62) ≤ j ∧ j < 2 ^ 62) ∧ LoopW (Itr i (j - i).toNat) g tb D σ H1) : tFor (iRng2 ta) g tb D σ H := h
theorem r_forEo (h : ta σ H fun vs H1 => ∃ a xs, vs = [.ref a] ∧ SqT K H1 a xs ∧ LoopW (ItE (fun H => SqT K H a xs) xs.length fun i _ x => xs[i]? = some x) g tb D σ H1) : tFor (Dk.iEnumT K ta) g tb D σ H := h
theorem r_forESo (h : ta σ H fun vs H1 => ∃ z, vs = [.str z] ∧ LoopW (ItE (fun _ => True) z.cps.size fun i _ x => ∃ c, z.cps[i]? = some c ∧ x = .str ⟨#[c]⟩) g tb D σ H1) : tFor (Dk.iEnumS ta) g tb D σ H := h
theorem l_L {a : Addr} {xs : List V} (hs : SqL K H a xs) (Pv : Nat → L2.St → Hp → Prop) (p0 : Pv 0 σ H) (hl : ∀ i σ H, Pv i σ H → SqL K H a xs)
    (ht : ∀ i x σ H, xs[i]? = some x → Pv i σ H → g x σ H fun σ2 H2 => tb { D with nx := Pv (i + 1), ct := Pv (i + 1), bk := D.nx } σ2 H2) (hd : ∀ σ H, Pv xs.length σ H → D.nx σ H) :
    ∃ b, V.ref a = .ref b ∧ (∃ xs, SqL K H b xs) ∧ LoopW (Itl K b) g tb D σ H :=
  ⟨a, rfl, ⟨xs, hs⟩, for_it walk_list Pv p0 (fun i σ H _ p => hl i σ H p) (fun i x σ H H' hi p y => by
    obtain ⟨rfl, hx⟩ := y
    exact ht i x σ _ hx p) hd⟩
theorem l_T {a : Addr} {xs : List V} (hs : SqT K H a xs) (Pv : Nat → L2.St → Hp → Prop) (p0 : Pv 0 σ H) (hl : ∀ i σ H, Pv i σ H → SqT K H a xs)
    (ht : ∀ i x σ H, xs[i]? = some x → Pv i σ H → g x σ H fun σ2 H2 => tb { D with nx := Pv (i + 1), ct := Pv (i + 1), bk := D.nx } σ2 H2) (hd : ∀ σ H, Pv xs.length σ H → D.nx σ H) :
    ∃ b, V.ref a = .ref b ∧ (∃ xs, SqT K H b xs) ∧ LoopW (Itt K b) g tb D σ H :=
  ⟨a, rfl, ⟨xs, hs⟩, for_it walk_tup Pv p0 (fun i σ H _ p => hl i σ H p) (fun i x σ H H' hi p y => by
    obtain ⟨rfl, hx⟩ := y
    exact ht i x σ _ hx p) hd⟩
theorem l_S {z : Str} (Pv : Nat → L2.St → Hp → Prop) (p0 : Pv 0 σ H)
    (ht : ∀ i c σ H, (cs z)[i]? = some c → Pv i σ H → g (.str ⟨#[c]⟩) σ H fun σ2 H2 => tb { D with nx := Pv (i + 1), ct := Pv (i + 1), bk := D.nx } σ2 H2) (hd : ∀ σ H, Pv z.length σ H → D.nx σ H) :
    ∃ y, V.str z = .str y ∧ LoopW (Its y) g tb D σ H := by
  refine ⟨z, rfl, for_it walk_str Pv p0 (fun _ _ _ _ _ => trivial) (fun i x σ H H' hi p y => ?_) hd⟩
  obtain ⟨rfl, c, hc, rfl⟩ := y
  exact ht i c σ _ (by rw [Array.getElem?_toList]; exact hc) p
theorem l_R {n : Int} (h1 : -1000000 ≤ n) (h2 : n ≤ 1000000) (Pv : Nat → L2.St → Hp → Prop) (p0 : Pv 0 σ H)
    (ht : ∀ (i : Nat) σ H, (i : Int) < n → Pv i σ H → g (.int (i : Nat)) σ H fun σ2 H2 => tb { D with nx := Pv (i + 1), ct := Pv (i + 1), bk := D.nx } σ2 H2) (hd : ∀ σ H, Pv n.toNat σ H → D.nx σ H) :
    ∃ j : Int, [V.int n] = [.int j] ∧ -(2 ^ 62) ≤ j ∧ j < 2 ^ 62 ∧ LoopW (Itr 0 j.toNat) g tb D σ H := by
  refine ⟨n, rfl, by omega, by omega, for_range Pv p0 (fun i σ H hi p => ?_) hd⟩
  have z := ht i σ H (by omega) p
  rw [Int.zero_add]
  exact z
theorem l_E {a : Addr} {xs : List V} (hs : SqT K H a xs) (Pv : Nat → L2.St → Hp → Prop) (p0 : Pv 0 σ H) (hl : ∀ i σ H, Pv i σ H → SqT K H a xs)
    (ht : ∀ i x σ H p, xs[i]? = some x → Pv i σ H → H p = none → g (.ref p) σ (upd H p (.tup [.int (i : Nat), x])) fun σ2 H2 => tb { D with nx := Pv (i + 1), ct := Pv (i + 1), bk := D.nx } σ2 H2)
    (hd : ∀ σ H, Pv xs.length σ H → D.nx σ H) : ∃ b ys, [V.ref a] = [.ref b] ∧ SqT K H b ys ∧ LoopW (ItE (fun H => SqT K H b ys) ys.length fun i _ x => ys[i]? = some x) g tb D σ H := by
  refine ⟨a, xs, rfl, hs, for_it walk_E Pv p0 (fun i σ H _ p => hl i σ H p) (fun i x σ H H' hi p y => ?_) hd⟩
  obtain ⟨T, x', rfl, hT, rfl, hx⟩ := y
  exact ht i x' σ H T hx p hT
end
theorem cutV_mem {xs : List V} {lo hi : Option Int} {x : V} (h : x ∈ cutV xs lo hi) : x ∈ xs := List.mem_of_mem_drop (List.mem_of_mem_take h)
theorem cutV_len {xs : List V} {lo hi : Option Int} : (cutV xs lo hi).length ≤ xs.length := by
  unfold cutV
  rw [List.length_take, List.length_drop]
  omega
theorem cutV_to (xs : List V) (n : Nat) : cutV xs none (some (n : Int)) = xs.take n := by
  unfold cutV
  rw [HT.sIx_nat, HT.sIx_none, List.drop_zero, Nat.sub_zero]
  by_cases h : n ≤ xs.length
  · rw [Nat.min_eq_left h]
  · rw [Nat.min_eq_right (by omega), List.take_of_length_le (Nat.le_refl _), List.take_of_length_le (by omega)]
theorem atI_lt {xs : List V} {i : Int} (h0 : 0 ≤ i) (h : i < (xs.length : Int)) : ∃ x, atI xs i = some x ∧ x ∈ xs := by
  have hi : i.toNat < xs.length := by omega
  exact ⟨xs[i.toNat], at_g (by omega) (List.getElem?_eq_getElem hi), List.getElem_mem _⟩
end Dk
namespace K14
open PySem PySem.Spec PyProof.Rows L2 Dk
/-- one step of a reading -/
local macro_rules | `(tactic| walk_at "rd1") => `(tactic| first
  | ((with_reducible refine r_var (v := ?rv) ?rh ?_); (case rh => rfl))
  | with_reducible refine r_c ?_
  | with_reducible refine r_seq ?_
  | with_reducible refine r_asg ?_
  | with_reducible refine r_gname ?_
  | with_reducible refine r_op ?_
  | with_reducible refine r_xfo ?_
  | with_reducible refine r_noP ?_
  | with_reducible refine r_part ?_
  | with_reducible refine r_pI ?_
  | with_reducible refine r_gcons ?_
  | with_reducible refine r_gnil ?_
  | with_reducible refine r_mkO ?_
  | with_reducible refine r_un ?_
  | with_reducible refine r_addI ?_
  | with_reducible refine r_I0 ?_
  | with_reducible refine r_U ?_
  | with_reducible refine r_cons ?_
  | with_reducible refine r_nil ?_
  | with_reducible refine r_CB ?_
  | with_reducible refine r_call ?_
  | with_reducible refine r_callS ?_
  | with_reducible refine r_int ?_
  | with_reducible refine r_max ?_
  | with_reducible refine r_min ?_
  | with_reducible refine r_test ?_
  | with_reducible refine r_B ?_
  | with_reducible refine r_blv ?_
  | with_reducible refine r_and ?_
  | with_reducible refine r_or ?_
  | with_reducible refine r_not ?_
  | with_reducible refine r_andV ?_
  | with_reducible refine r_orV ?_
  | with_reducible refine r_notV ?_
  | with_reducible refine r_ifE ?_
  | with_reducible refine r_ifS ?_
  | with_reducible refine r_ret ?_
  | with_reducible refine r_retN ?_
  | with_reducible refine r_drop ?_
  | with_reducible refine r_next ?_
  | with_reducible refine r_sl ?_
  | with_reducible refine r_gsub ?_
  | with_reducible refine r_bm ?_
  | with_reducible refine r_tup ?_
  | with_reducible refine r_lst ?_
  | with_reducible refine r_isN ?_
  | with_reducible refine r_notN ?_
  | with_reducible refine r_itt ?_
  | with_reducible refine r_iff ?_
  | with_reducible refine r_ittN ?_
  | with_reducible refine r_iffN ?_
  | ((with_reducible refine r_ittD ?rh ?_); (case rh => rfl))
  | ((with_reducible refine r_iffD ?rh ?_); (case rh => rfl))
  | ((with_reducible refine r_modP ?rh ?_); (case rh => decide))
  | ((with_reducible refine r_eq ?rh ?_); (case rh => rfl))
  | ((with_reducible refine r_ne ?rh ?_); (case rh => rfl)))
local macro_rules | `(tactic| walk_at "rd") => `(tactic| repeat walk_at "rd1")
local macro_rules | `(tactic| walk_at "isi") => `(tactic| first | refine r_isi (b := true) (by assumption) (by decide +kernel) ?_ | refine r_isi (b := false) (by assumption) (by decide +kernel) ?_)
local macro_rules | `(tactic| walk_at "rs1") => `(tactic| first
  | with_reducible refine r_seq ?_
  | with_reducible refine r_asg ?_
  | with_reducible refine r_gname ?_
  | with_reducible refine r_ret ?_)
local macro_rules | `(tactic| walk_at "rs") => `(tactic| repeat walk_at "rs1")

def topS (i : Nat) : Stmt := PySem.Challenge.pw_deedstand_k14_whole_rounds.main.body.getD i (.Pass ⟨0, 0, 0, 0⟩)
abbrev s_first_strange : Stmt := topS 6
abbrev N_first_strange : List Str := ["text", "at", "sign"]
theorem sc_first_strange : FnScope ["text", "at", "sign"] ["text"] (defScope s_first_strange) := ⟨rfl, rfl, rfl, by decide +kernel, rfl, by decide +kernel, by decide +kernel⟩
abbrev s_is_text : Stmt := topS 7
abbrev N_is_text : List Str := ["thing"]
theorem sc_is_text : FnScope ["thing"] ["thing"] (defScope s_is_text) := ⟨rfl, rfl, rfl, by decide +kernel, rfl, by decide +kernel, by decide +kernel⟩
abbrev s_is_number : Stmt := topS 9
abbrev N_is_number : List Str := ["thing"]
theorem sc_is_number : FnScope ["thing"] ["thing"] (defScope s_is_number) := ⟨rfl, rfl, rfl, by decide +kernel, rfl, by decide +kernel, by decide +kernel⟩
abbrev s_is_splice : Stmt := topS 11
abbrev N_is_splice : List Str := ["thing", "at", "cut", "text"]
theorem sc_is_splice : FnScope ["thing", "at", "cut", "text"] ["thing"] (defScope s_is_splice) := ⟨rfl, rfl, rfl, by decide +kernel, rfl, by decide +kernel, by decide +kernel⟩
abbrev s_follows : Stmt := topS 12
abbrev N_follows : List Str := ["before", "splice"]
theorem sc_follows : FnScope ["before", "splice"] ["before", "splice"] (defScope s_follows) := ⟨rfl, rfl, rfl, by decide +kernel, rfl, by decide +kernel, by decide +kernel⟩
abbrev s_check_round : Stmt := topS 13
abbrev N_check_round : List Str := ["size", "splices", "k", "splice"]
theorem sc_check_round : FnScope ["size", "splices", "k", "splice"] ["size", "splices"] (defScope s_check_round) := ⟨rfl, rfl, rfl, by decide +kernel, rfl, by decide +kernel, by decide +kernel⟩
abbrev s_spliced : Stmt := topS 14
abbrev N_spliced : List Str := ["text", "splices", "parts", "done", "at", "cut", "put"]
theorem sc_spliced : FnScope ["text", "splices", "parts", "done", "at", "cut", "put"] ["text", "splices"] (defScope s_spliced) := ⟨rfl, rfl, rfl, by decide +kernel, rfl, by decide +kernel, by decide +kernel⟩
abbrev s_law_start : Stmt := topS 16
abbrev N_law_start : List Str := ["_law_script", "_law_mix", "_law_cell"]
theorem sc_law_start : FnScope ["_law_script", "_law_mix", "_law_cell"] ["_law_script"] (defScope s_law_start) := ⟨rfl, rfl, rfl, by decide +kernel, rfl, by decide +kernel, by decide +kernel⟩
abbrev s_law_draw : Stmt := topS 17
abbrev N_law_draw : List Str := ["_law_state", "_law_many"]
theorem sc_law_draw : FnScope ["_law_state", "_law_many"] ["_law_state", "_law_many"] (defScope s_law_draw) := ⟨rfl, rfl, rfl, by decide +kernel, rfl, by decide +kernel, by decide +kernel⟩
abbrev s_law_signs : Stmt := topS 18
abbrev N_law_signs : List Str := ["_law_signs_here"]
theorem sc_law_signs : FnScope ["_law_signs_here"] [] (defScope s_law_signs) := ⟨rfl, rfl, rfl, by decide +kernel, rfl, by decide +kernel, by decide +kernel⟩
abbrev s_law_text : Stmt := topS 19
abbrev N_law_text : List Str := ["_law_state", "_law_size", "_law_signs_here", "_law_few", "_law_made", "_law_k", "_law_pick"]
theorem sc_law_text : FnScope ["_law_state", "_law_size", "_law_signs_here", "_law_few", "_law_made", "_law_k", "_law_pick"] ["_law_state", "_law_size"] (defScope s_law_text) := ⟨rfl, rfl, rfl, by decide +kernel, rfl, by decide +kernel, by decide +kernel⟩
abbrev s_law_round : Stmt := topS 20
abbrev N_law_round : List Str := ["_law_state", "_law_size", "_law_most", "_law_made", "_law_at", "_law_cut", "_law_put"]
theorem sc_law_round : FnScope ["_law_state", "_law_size", "_law_most", "_law_made", "_law_at", "_law_cut", "_law_put"] ["_law_state", "_law_size", "_law_most"] (defScope s_law_round) := ⟨rfl, rfl, rfl, by decide +kernel, rfl, by decide +kernel, by decide +kernel⟩
abbrev s_law_is_number : Stmt := topS 21
abbrev N_law_is_number : List Str := ["_law_thing"]
theorem sc_law_is_number : FnScope ["_law_thing"] ["_law_thing"] (defScope s_law_is_number) := ⟨rfl, rfl, rfl, by decide +kernel, rfl, by decide +kernel, by decide +kernel⟩
abbrev s_law_is_text : Stmt := topS 22
abbrev N_law_is_text : List Str := ["_law_thing", "_law_signs_here", "_law_c"]
theorem sc_law_is_text : FnScope ["_law_thing", "_law_signs_here", "_law_c"] ["_law_thing"] (defScope s_law_is_text) := ⟨rfl, rfl, rfl, by decide +kernel, rfl, by decide +kernel, by decide +kernel⟩
abbrev s_law_is_splice : Stmt := topS 23
abbrev N_law_is_splice : List Str := ["_law_thing"]
theorem sc_law_is_splice : FnScope ["_law_thing"] ["_law_thing"] (defScope s_law_is_splice) := ⟨rfl, rfl, rfl, by decide +kernel, rfl, by decide +kernel, by decide +kernel⟩
abbrev s_law_judged : Stmt := topS 24
abbrev N_law_judged : List Str := ["_law_size", "_law_row", "_law_floor", "_law_edge", "_law_k"]
theorem sc_law_judged : FnScope ["_law_size", "_law_row", "_law_floor", "_law_edge", "_law_k"] ["_law_size", "_law_row"] (defScope s_law_judged) := ⟨rfl, rfl, rfl, by decide +kernel, rfl, by decide +kernel, by decide +kernel⟩
abbrev s_law_done : Stmt := topS 25
abbrev N_law_done : List Str := ["_law_text_here", "_law_row", "_law_k", "_law_splice"]
theorem sc_law_done : FnScope ["_law_text_here", "_law_row", "_law_k", "_law_splice"] ["_law_text_here", "_law_row"] (defScope s_law_done) := ⟨rfl, rfl, rfl, by decide +kernel, rfl, by decide +kernel, by decide +kernel⟩
abbrev s_law_led : Stmt := topS 26
abbrev N_law_led : List Str := ["_law_text_here", "_law_row", "_law_made", "_law_stood", "_law_splice"]
theorem sc_law_led : FnScope ["_law_text_here", "_law_row", "_law_made", "_law_stood", "_law_splice"] ["_law_text_here", "_law_row"] (defScope s_law_led) := ⟨rfl, rfl, rfl, by decide +kernel, rfl, by decide +kernel, by decide +kernel⟩
abbrev s_law_same : Stmt := topS 27
abbrev N_law_same : List Str := ["_law_due", "_law_told"]
theorem sc_law_same : FnScope ["_law_due", "_law_told"] ["_law_due", "_law_told"] (defScope s_law_same) := ⟨rfl, rfl, rfl, by decide +kernel, rfl, by decide +kernel, by decide +kernel⟩
abbrev s_law_asked : Stmt := topS 28
abbrev N_law_asked : List Str := ["_law_size", "_law_row", "_law_told", "e"]
theorem sc_law_asked : FnScope ["_law_size", "_law_row", "_law_told", "e"] ["_law_size", "_law_row"] (defScope s_law_asked) := ⟨rfl, rfl, rfl, by decide +kernel, rfl, by decide +kernel, by decide +kernel⟩
abbrev s_law_spliced : Stmt := topS 29
abbrev N_law_spliced : List Str := ["_law_text_here", "_law_row", "_law_told", "e"]
theorem sc_law_spliced : FnScope ["_law_text_here", "_law_row", "_law_told", "e"] ["_law_text_here", "_law_row"] (defScope s_law_spliced) := ⟨rfl, rfl, rfl, by decide +kernel, rfl, by decide +kernel, by decide +kernel⟩
abbrev s_law_holds : Stmt := topS 30
abbrev N_law_holds : List Str := ["_law_text_here", "_law_row", "_law_asked_here", "_law_told", "_law_due", "_law_behind"]
theorem sc_law_holds : FnScope ["_law_text_here", "_law_row", "_law_asked_here", "_law_told", "_law_due", "_law_behind"] ["_law_text_here", "_law_row"] (defScope s_law_holds) := ⟨rfl, rfl, rfl, by decide +kernel, rfl, by decide +kernel, by decide +kernel⟩
abbrev s_law_stranges : Stmt := topS 31
abbrev N_law_stranges : List Str := ["_law_state", "_law_splice", "_law_size", "_law_at", "_law_cut", "_law_put", "_law_plain", "_law_inner", "_law_turned", "_law_below", "_law_wide", "_law_near", "_law_rows"]
theorem sc_law_stranges : FnScope ["_law_state", "_law_splice", "_law_size", "_law_at", "_law_cut", "_law_put", "_law_plain", "_law_inner", "_law_turned", "_law_below", "_law_wide", "_law_near", "_law_rows"] ["_law_state", "_law_splice", "_law_size"] (defScope s_law_stranges) := ⟨rfl, rfl, rfl, by decide +kernel, rfl, by decide +kernel, by decide +kernel⟩
abbrev s_law_strange : Stmt := topS 32
abbrev N_law_strange : List Str := ["_law_state", "_law_splice", "_law_size", "_law_row"]
theorem sc_law_strange : FnScope ["_law_state", "_law_splice", "_law_size", "_law_row"] ["_law_state", "_law_splice", "_law_size"] (defScope s_law_strange) := ⟨rfl, rfl, rfl, by decide +kernel, rfl, by decide +kernel, by decide +kernel⟩
abbrev s_law_bent : Stmt := topS 33
abbrev N_law_bent : List Str := ["_law_state", "_law_good", "_law_size", "_law_row", "_law_k", "_law_way", "_law_other"]
theorem sc_law_bent : FnScope ["_law_state", "_law_good", "_law_size", "_law_row", "_law_k", "_law_way", "_law_other"] ["_law_state", "_law_good", "_law_size"] (defScope s_law_bent) := ⟨rfl, rfl, rfl, by decide +kernel, rfl, by decide +kernel, by decide +kernel⟩
abbrev s_law : Stmt := topS 34
abbrev N_law : List Str := ["_law_script", "_law_state", "_law_size", "_law_most", "_law_text_here", "_law_first", "_law_lap", "_law_spot", "_law_thing", "_law_shown", "_law_row", "_law_reach", "_law_other", "_law_asked_here", "_law_due"]
theorem sc_law : FnScope ["_law_script", "_law_state", "_law_size", "_law_most", "_law_text_here", "_law_first", "_law_lap", "_law_spot", "_law_thing", "_law_shown", "_law_row", "_law_reach", "_law_other", "_law_asked_here", "_law_due"] ["_law_script"] (defScope s_law) := ⟨rfl, rfl, rfl, by decide +kernel, rfl, by decide +kernel, by decide +kernel⟩
abbrev s_init_BadSplice : Stmt := inClass (topS 3) 0
theorem sc_init_BadSplice : FnScope ["self", "at"] ["self", "at"] (defScope s_init_BadSplice) := ⟨rfl, rfl, rfl, by decide +kernel, rfl, by decide +kernel, by decide +kernel⟩
structure Txt (K : PySem.W.Frag) (mg : Str → Option Value) where
  a_first_strange : Addr
  d_first_strange : FuncData
  F_first_strange : Fun K "first_strange" "first_strange" s_first_strange a_first_strange d_first_strange
  b_first_strange : Binds K d_first_strange ["text"] []
  g_first_strange : mg "first_strange" = some (.ref a_first_strange)
  a_is_text : Addr
  d_is_text : FuncData
  F_is_text : Fun K "is_text" "is_text" s_is_text a_is_text d_is_text
  b_is_text : Binds K d_is_text ["thing"] []
  g_is_text : mg "is_text" = some (.ref a_is_text)
  a_is_number : Addr
  d_is_number : FuncData
  F_is_number : Fun K "is_number" "is_number" s_is_number a_is_number d_is_number
  b_is_number : Binds K d_is_number ["thing"] []
  g_is_number : mg "is_number" = some (.ref a_is_number)
  a_is_splice : Addr
  d_is_splice : FuncData
  F_is_splice : Fun K "is_splice" "is_splice" s_is_splice a_is_splice d_is_splice
  b_is_splice : Binds K d_is_splice ["thing"] []
  g_is_splice : mg "is_splice" = some (.ref a_is_splice)
  a_follows : Addr
  d_follows : FuncData
  F_follows : Fun K "follows" "follows" s_follows a_follows d_follows
  b_follows : Binds K d_follows ["before", "splice"] []
  g_follows : mg "follows" = some (.ref a_follows)
  a_check_round : Addr
  d_check_round : FuncData
  F_check_round : Fun K "check_round" "check_round" s_check_round a_check_round d_check_round
  b_check_round : Binds K d_check_round ["size", "splices"] []
  g_check_round : mg "check_round" = some (.ref a_check_round)
  a_spliced : Addr
  d_spliced : FuncData
  F_spliced : Fun K "spliced" "spliced" s_spliced a_spliced d_spliced
  b_spliced : Binds K d_spliced ["text", "splices"] []
  g_spliced : mg "spliced" = some (.ref a_spliced)
  a_law_start : Addr
  d_law_start : FuncData
  F_law_start : Fun K "_law_start" "_law_start" s_law_start a_law_start d_law_start
  b_law_start : Binds K d_law_start ["_law_script"] []
  g_law_start : mg "_law_start" = some (.ref a_law_start)
  a_law_draw : Addr
  d_law_draw : FuncData
  F_law_draw : Fun K "_law_draw" "_law_draw" s_law_draw a_law_draw d_law_draw
  b_law_draw : Binds K d_law_draw ["_law_state", "_law_many"] []
  g_law_draw : mg "_law_draw" = some (.ref a_law_draw)
  a_law_signs : Addr
  d_law_signs : FuncData
  F_law_signs : Fun K "_law_signs" "_law_signs" s_law_signs a_law_signs d_law_signs
  b_law_signs : Binds K d_law_signs [] []
  g_law_signs : mg "_law_signs" = some (.ref a_law_signs)
  a_law_text : Addr
  d_law_text : FuncData
  F_law_text : Fun K "_law_text" "_law_text" s_law_text a_law_text d_law_text
  b_law_text : Binds K d_law_text ["_law_state", "_law_size"] []
  g_law_text : mg "_law_text" = some (.ref a_law_text)
  a_law_round : Addr
  d_law_round : FuncData
  F_law_round : Fun K "_law_round" "_law_round" s_law_round a_law_round d_law_round
  b_law_round : Binds K d_law_round ["_law_state", "_law_size", "_law_most"] []
  g_law_round : mg "_law_round" = some (.ref a_law_round)
  a_law_is_number : Addr
  d_law_is_number : FuncData
  F_law_is_number : Fun K "_law_is_number" "_law_is_number" s_law_is_number a_law_is_number d_law_is_number
  b_law_is_number : Binds K d_law_is_number ["_law_thing"] []
  g_law_is_number : mg "_law_is_number" = some (.ref a_law_is_number)
  a_law_is_text : Addr
  d_law_is_text : FuncData
  F_law_is_text : Fun K "_law_is_text" "_law_is_text" s_law_is_text a_law_is_text d_law_is_text
  b_law_is_text : Binds K d_law_is_text ["_law_thing"] []
  g_law_is_text : mg "_law_is_text" = some (.ref a_law_is_text)
  a_law_is_splice : Addr
  d_law_is_splice : FuncData
  F_law_is_splice : Fun K "_law_is_splice" "_law_is_splice" s_law_is_splice a_law_is_splice d_law_is_splice
  b_law_is_splice : Binds K d_law_is_splice ["_law_thing"] []
  g_law_is_splice : mg "_law_is_splice" = some (.ref a_law_is_splice)
  a_law_judged : Addr
  d_law_judged : FuncData
  F_law_judged : Fun K "_law_judged" "_law_judged" s_law_judged a_law_judged d_law_judged
  b_law_judged : Binds K d_law_judged ["_law_size", "_law_row"] []
  g_law_judged : mg "_law_judged" = some (.ref a_law_judged)
  a_law_done : Addr
  d_law_done : FuncData
  F_law_done : Fun K "_law_done" "_law_done" s_law_done a_law_done d_law_done
  b_law_done : Binds K d_law_done ["_law_text_here", "_law_row"] []
  g_law_done : mg "_law_done" = some (.ref a_law_done)
  a_law_led : Addr
  d_law_led : FuncData
  F_law_led : Fun K "_law_led" "_law_led" s_law_led a_law_led d_law_led
  b_law_led : Binds K d_law_led ["_law_text_here", "_law_row"] []
  g_law_led : mg "_law_led" = some (.ref a_law_led)
  a_law_same : Addr
  d_law_same : FuncData
  F_law_same : Fun K "_law_same" "_law_same" s_law_same a_law_same d_law_same
  b_law_same : Binds K d_law_same ["_law_due", "_law_told"] []
  g_law_same : mg "_law_same" = some (.ref a_law_same)
  a_law_asked : Addr
  d_law_asked : FuncData
  F_law_asked : Fun K "_law_asked" "_law_asked" s_law_asked a_law_asked d_law_asked
  b_law_asked : Binds K d_law_asked ["_law_size", "_law_row"] []
  g_law_asked : mg "_law_asked" = some (.ref a_law_asked)
  a_law_spliced : Addr
  d_law_spliced : FuncData
  F_law_spliced : Fun K "_law_spliced" "_law_spliced" s_law_spliced a_law_spliced d_law_spliced
  b_law_spliced : Binds K d_law_spliced ["_law_text_here", "_law_row"] []
  g_law_spliced : mg "_law_spliced" = some (.ref a_law_spliced)
  a_law_holds : Addr
  d_law_holds : FuncData
  F_law_holds : Fun K "_law_holds" "_law_holds" s_law_holds a_law_holds d_law_holds
  b_law_holds : Binds K d_law_holds ["_law_text_here", "_law_row"] []
  g_law_holds : mg "_law_holds" = some (.ref a_law_holds)
  a_law_stranges : Addr
  d_law_stranges : FuncData
  F_law_stranges : Fun K "_law_stranges" "_law_stranges" s_law_stranges a_law_stranges d_law_stranges
  b_law_stranges : Binds K d_law_stranges ["_law_state", "_law_splice", "_law_size"] []
  g_law_stranges : mg "_law_stranges" = some (.ref a_law_stranges)
  a_law_strange : Addr
  d_law_strange : FuncData
  F_law_strange : Fun K "_law_strange" "_law_strange" s_law_strange a_law_strange d_law_strange
  b_law_strange : Binds K d_law_strange ["_law_state", "_law_splice", "_law_size"] []
  g_law_strange : mg "_law_strange" = some (.ref a_law_strange)
  a_law_bent : Addr
  d_law_bent : FuncData
  F_law_bent : Fun K "_law_bent" "_law_bent" s_law_bent a_law_bent d_law_bent
  b_law_bent : Binds K d_law_bent ["_law_state", "_law_good", "_law_size"] []
  g_law_bent : mg "_law_bent" = some (.ref a_law_bent)
  a_law : Addr
  d_law : FuncData
  F_law : Fun K "law" "law" s_law a_law d_law
  b_law : Binds K d_law ["_law_script"] []
  g_law : mg "law" = some (.ref a_law)
  c_BadSplice : Addr
  ai_BadSplice : Addr
  d_BadSplice : FuncData
  F_BadSplice : Fun K "__init__" "BadSplice.__init__" s_init_BadSplice ai_BadSplice d_BadSplice
  b_BadSplice : Binds K d_BadSplice ["self", "at"] []
  g_BadSplice : mg "BadSplice" = some (.ref c_BadSplice)
  o_BadSplice : OexC K c_BadSplice
  x_BadSplice : XfC K c_BadSplice
  i_BadSplice : PySem.W.findIn K (.ref c_BadSplice) "__init__" = some (some (.ref ai_BadSplice))
  ti_BadSplice : PySem.W.typeIn K (.ref ai_BadSplice) = some (.type "function")
  e_BadSplice : PySem.W.exmOne K (.ref c_BadSplice) (.ref c_BadSplice) = some true
  na_BadSplice_at : PySem.W.findIn K (.ref c_BadSplice) "at" = some none
  t_ALPHABET : Tok
  g_ALPHABET : mg "ALPHABET" = some (.str "\n !\"#$&'()*+,-./0123456789:;<=>?@ABCDEFGHIJKLMNOPQRSTUVWXYZ[\\]^_`abcdefghijklmnopqrstuvwxyz{|}~" t_ALPHABET)
  n_bool : mg "bool" = none
  n_enumerate : mg "enumerate" = none
  n_int : mg "int" = none
  n_isinstance : mg "isinstance" = none
  n_len : mg "len" = none
  n_list : mg "list" = none
  n_max : mg "max" = none
  n_min : mg "min" = none
  n_range : mg "range" = none
  n_str : mg "str" = none
  n_tuple : mg "tuple" = none
/-! ### values by their kind -/
inductive Ok (G : Hp) : V → String → Prop where
  | non : Ok G .non "NoneType"
  | bl (b : Bool) : Ok G (.bl b) "bool"
  | int (i : Int) : Ok G (.int i) "int"
  | str (z : Str) (h : z.length ≤ 8000) : Ok G (.str z) "str"
  | lst {a : Addr} {xs : List V} (h : G a = some (.lst xs)) : Ok G (.ref a) "list"
  | tup {a : Addr} {xs : List V} (h : G a = some (.tup xs)) : Ok G (.ref a) "tuple"
  | dK {a : Addr} {kvs : List (Key × V)} (h : G a = some (.dK kvs)) : Ok G (.ref a) "dict"
theorem Ok.up {G G' : Hp} {v : V} {n : String} (e : Ex G G') (h : Ok G v n) : Ok G' v n := by
  cases h with
  | non => exact .non
  | bl b => exact .bl b
  | int i => exact .int i
  | str z h => exact .str z h
  | lst h => exact .lst (e _ _ h)
  | tup h => exact .tup (e _ _ h)
  | dK h => exact .dK (e _ _ h)
theorem Ok.ty {K : PySem.W.Frag} {G : Hp} {v : V} {n : String} (h : Ok G v n) : TyX K G v (.type n) := by
  cases h with
  | non => exact .base .non
  | bl b => exact .base (.bl b)
  | int i => exact .base (.int i)
  | str z h => exact .base (.str z)
  | lst h => exact .base (.lst h)
  | tup h => exact .base (.tup h)
  | dK h => exact .base (.dK h)
def Okc (G : Hp) (v : V) : Prop := ∃ n, Ok G v n
theorem Okc.up {G G' : Hp} {v : V} (e : Ex G G') (h : Okc G v) : Okc G' v := h.imp fun _ z => z.up e
/-- a thing: of a known kind; if it is a tuple, so are its items -/
def Thg (G : Hp) (v : V) : Prop := Okc G v ∧ ∀ a xs, v = .ref a → G a = some (.tup xs) → xs.length ≤ 1000 ∧ ∀ x ∈ xs, Okc G x
theorem Thg.up {G G' : Hp} {v : V} (e : Ex G G') (h : Thg G v) : Thg G' v := by
  refine ⟨h.1.up e, fun a xs ev ht => ?_⟩
  obtain ⟨n, o⟩ := h.1
  subst ev
  cases o with
  | lst q => rw [e _ _ q] at ht; cases ht
  | dK q => rw [e _ _ q] at ht; cases ht
  | tup q =>
    have z := e _ _ q
    rw [ht] at z
    cases z
    obtain ⟨h1, h2⟩ := h.2 _ _ rfl q
    exact ⟨h1, fun x hx => (h2 x hx).up e⟩
/-! ### the mirror -/
def isTx (z : Str) : Bool := z.cps.toList.all fun c => decide (c ∈ AL.cps.toList)
def numV : V → Bool
  | .int i => decide (0 ≤ i)
  | _ => false
def txtV : V → Bool
  | .str z => isTx z
  | _ => false
abbrev Spl := Int × Int × Str
def sp3o : Option HO → Option Spl
  | some (.tup [.int a, .int c, .str t]) => if 0 ≤ a ∧ 0 ≤ c ∧ isTx t = true ∧ (0 < c ∨ t ≠ "") then some (a, c, t) else none
  | _ => none
def sp3 (G : Hp) : V → Option Spl
  | .ref p => sp3o (G p)
  | _ => none
theorem sp3_up {G G' : Hp} {v : V} (e : Ex G G') (h : Thg G v) : sp3 G' v = sp3 G v := by
  obtain ⟨⟨n, o⟩, _⟩ := h
  cases o with
  | non => rfl
  | bl b => rfl
  | int i => rfl
  | str z h => rfl
  | lst q => show sp3o (G' _) = sp3o (G _); rw [q, e _ _ q]
  | tup q => show sp3o (G' _) = sp3o (G _); rw [q, e _ _ q]
  | dK q => show sp3o (G' _) = sp3o (G _); rw [q, e _ _ q]
def jd (size : Int) : Int → Int → Nat → List (Option Spl) → Option Int
  | _, _, _, [] => none
  | _, _, k, none :: _ => some k
  | fl, ed, k, some (a, c, _) :: r => if a ≤ fl ∨ a < ed ∨ a + c > size then some k else jd size a (a + c) (k + 1) r
def judge (size : Int) (l : List (Option Spl)) : Option Int := if l.isEmpty then some (-1) else jd size (-1) 0 0 l
section
variable {P : Program} {w : World} {K : PySem.W.Frag} {mg : Str → Option Value} {base : Heap}
/-! ### the program's defs -/
theorem ok_init_BadSplice (T : Txt K mg) : FnOk P w K mg base CX0 1 T.ai_BadSplice T.d_BadSplice ["self", "at"] (spInit1 T.c_BadSplice "at") := by
  refine T.F_BadSplice.ok sc_init_BadSplice (fun vs H Q E h => ?_) (fun cdv A outer s H vs Q E hr h => ?_)
  · obtain ⟨a, v, rfl, _⟩ := h
    rfl
  · obtain ⟨a, v, rfl, ha, q⟩ := h
    refine ⟨_, pss_one (ps_ost (pv 0) (pv 1)), ?_⟩
    exact ⟨v, rfl, .ref a, rfl, a, T.c_BadSplice, rfl, T.o_BadSplice, T.na_BadSplice_at, .inl ⟨ha, fun dx n1 n2 => q dx n1 n2⟩⟩
def sp_first_strange : Sp := fun vs H Q _ => ∃ z : Str, vs = [.str z] ∧ ∀ v H', Ex H H' → (v = .non ↔ isTx z = true) → (v = .non ∨ ∃ i, v = .int i) → Q v H'
theorem ok_first_strange (T : Txt K mg) : FnOk P w K mg base CX0 1 T.a_first_strange T.d_first_strange ["text"] sp_first_strange := by
  refine T.F_first_strange.ok sc_first_strange (fun vs H Q E h => ?_) (fun cdv A outer s H vs Q E hr h => ?_)
  · obtain ⟨z, rfl, _⟩ := h
    rfl
  · obtain ⟨z, rfl, q⟩ := h
    refine ⟨_, (pss_cons (ps_for PassesOwn.never rfl (pi_enumS (by rfl) T.n_enumerate (pa_cons (pv 0) pa_nil)) (pg_tup rfl (pgs_cons (pg_name (i := 1) sc_first_strange.nd rfl (Or.inl rfl)) (pgs_cons (pg_name (i := 2) sc_first_strange.nd rfl (Or.inl rfl)) pgs_nil))) (pss_one (ps_if (pt_cmpR op_notInU (pv 2) (pe_glob (v := .str "\n !\"#$&'()*+,-./0123456789:;<=>?@ABCDEFGHIJKLMNOPQRSTUVWXYZ[\\]^_`abcdefghijklmnopqrstuvwxyz{|}~") rfl T.g_ALPHABET ⟨_, rfl⟩) (by rfl)) (pss_one (ps_ret (pv 1))) pss_nil)))
        (pss_one (ps_ret pe_non))), ?_⟩
    walk_at "rd"
    refine ⟨.str z, rfl, z, rfl, ?_⟩
    refine ⟨fun i m σ H' => ∃ y1 y2, σ = [some (.str z), y1, y2] ∧ Ex H H' ∧ i + m = z.cps.size ∧ ∀ c ∈ z.cps.toList.take i, c ∈ AL.cps.toList, ⟨z.cps.size, none, none, rfl, Same.refl H, by omega, fun c hc => by simp at hc⟩, fun i m σ H' hW => ?_⟩
    obtain ⟨y1, y2, rfl, e, em, ha⟩ := hW
    by_cases hi : i < z.cps.size
    · refine .inr ⟨⟨trivial, hi⟩, fun σ' H2 => ∃ y1 y2, σ' = [some (.str z), y1, y2] ∧ Ex H H2 ∧ ∀ c ∈ z.cps.toList.take (i + 1), c ∈ AL.cps.toList, fun σ' H2 hN => ?_, fun x H2 hy => ?_⟩
      · obtain ⟨y1, y2, h1, h2, h3⟩ := hN
        exact ⟨m - 1, by omega, y1, y2, h1, h2, by omega, h3⟩
      · obtain ⟨p, x', rfl, hp, rfl, c, hc, rfl⟩ := hy
        refine ⟨p, _, rfl, sqT upd_same, rfl, _, _, rfl, _, _, rfl, rfl, ?_⟩
        walk_at "rd"
        have e2 : Ex H (upd H' p (.tup [.int (i : Nat), .str ⟨#[c]⟩])) := e.trans (Gr.new (A := A0) (Same.refl H') hp).same
        have hcz : z.cps.toList[i]? = some c := by rw [Array.getElem?_toList]; exact hc
        refine r_niS ?_
        walk_at "rd"
        refine r_iteN (fun hn => ?_) (fun hm => ?_)
        · walk_at "rd"
          refine q _ _ e2 ⟨(fun z => nomatch z), fun ht => ?_⟩ (.inr ⟨_, rfl⟩)
          exfalso
          have h1 := List.all_eq_true.mp ht c (List.mem_of_getElem? hcz)
          exact hn (of_decide_eq_true h1)
        · walk_at "rd"
          refine ⟨_, _, rfl, e2, fun d hd => ?_⟩
          rw [List.take_add_one, hcz] at hd
          rcases List.mem_append.mp hd with h | h
          · exact ha d h
          · have z' : d = c := by simpa using h
            rw [z']
            exact hm
    · refine .inl ⟨⟨trivial, by omega⟩, ?_⟩
      walk_at "rd"
      refine q _ _ e ⟨fun _ => List.all_eq_true.mpr fun d hd => decide_eq_true (ha d ?_), fun _ => rfl⟩ (.inl rfl)
      rw [List.take_of_length_le (by rw [Array.length_toList]; omega)]
      exact hd
/-- a function of a value whose kind is known -/
def spV (f : V → Bool) : Sp := fun vs H Q _ => ∃ v, vs = [v] ∧ Okc H v ∧ ∀ H', Ex H H' → Q (.bl (f v)) H'
theorem ok_is_number (T : Txt K mg) : FnOk P w K mg base CX0 1 T.a_is_number T.d_is_number ["thing"] (spV numV) := by
  refine T.F_is_number.ok sc_is_number (fun vs H Q E h => ?_) (fun cdv A outer s H vs Q E hr h => ?_)
  · obtain ⟨v, rfl, _⟩ := h
    rfl
  · obtain ⟨v, rfl, ⟨n, o⟩, q⟩ := h
    refine ⟨_, (pss_one (ps_ret (pe_and (pe_callB call_isi (by rfl) T.n_isinstance (by decide +kernel) (pa_cons (pv 0) (pa_cons (pe_bltn (v := .ty "int") (by rfl) T.n_int (by decide +kernel) rfl) pa_nil))) (pe_and (pe_not (pe_callB call_isi (by rfl) T.n_isinstance (by decide +kernel) (pa_cons (pv 0) (pa_cons (pe_bltn (v := .ty "bool") (by rfl) T.n_bool (by decide +kernel) rfl) pa_nil)))) (pe_one (pe_cmpR op_ge (pv 0) pe_int (nomark _))))))), ?_⟩
    have ty := o.ty (K := K)
    cases o <;> (walk_at "rd"; walk_at "isi"; walk_at "rd"; try (walk_at "isi"; walk_at "rd")) <;> exact q H (Same.refl H)
theorem ok_is_text (T : Txt K mg) : FnOk P w K mg base CX0 2 T.a_is_text T.d_is_text ["thing"] (spV txtV) := by
  refine T.F_is_text.ok sc_is_text (fun vs H Q E h => ?_) (fun cdv A outer s H vs Q E hr h => ?_)
  · obtain ⟨v, rfl, _⟩ := h
    rfl
  · obtain ⟨v, rfl, ⟨n, o⟩, q⟩ := h
    refine ⟨_, (pss_one (ps_ret (pe_and (pe_callB call_isi (by rfl) T.n_isinstance (by decide +kernel) (pa_cons (pv 0) (pa_cons (pe_bltn (v := .ty "str") (by rfl) T.n_str (by decide +kernel) rfl) pa_nil))) (pe_one (pe_cmpR op_isU (pe_call (ok_first_strange T) hr (by rfl) T.g_first_strange T.F_first_strange.kp T.b_first_strange .nil pass0 (pa_cons (pv 0) pa_nil)) pe_non (nomark _)))))), ?_⟩
    have ty := o.ty (K := K)
    cases o <;> (walk_at "rd"; walk_at "isi"; walk_at "rd")
    case str z h =>
      refine ⟨z, rfl, fun v H' e hv hk => ?_⟩
      walk_at "rd"
      have e2 : decide (v = .non) = txtV (.str z) := by
        show _ = isTx z
        rw [Bool.eq_iff_iff, decide_eq_true_iff]
        exact hv
      rw [e2]
      exact q _ e
    all_goals exact q H (Same.refl H)
def spFol : Sp := fun vs H Q _ => ∃ (p q : Addr) (a c b : Int) (x y z : V), vs = [.ref p, .ref q] ∧ H p = some (.tup [.int a, .int c, x]) ∧ H q = some (.tup [.int b, y, z]) ∧ Q (.bl (decide (a < b) && decide (a + c ≤ b))) H
theorem ok_follows (T : Txt K mg) : FnOk P w K mg base CX0 1 T.a_follows T.d_follows ["before", "splice"] spFol := by
  refine T.F_follows.ok sc_follows (fun vs H Q E h => ?_) (fun cdv A outer s H vs Q E hr h => ?_)
  · obtain ⟨p, q, a, c, b, x, y, z, rfl, _⟩ := h
    rfl
  · obtain ⟨p, q, a, c, b, x, y, z, rfl, hp, hq, k⟩ := h
    refine ⟨_, (pss_one (ps_ret (pe_and (pe_cmpR op_gt (pe_ix ix_seq (pv 1) pe_int (fun _ _ => rfl)) (pe_ix ix_seq (pv 0) pe_int (fun _ _ => rfl)) (nomark _)) (pe_one (pe_cmpR op_ge (pe_ix ix_seq (pv 1) pe_int (fun _ _ => rfl)) (pe_op op_addU (pe_ix ix_seq (pv 0) pe_int (fun _ _ => rfl)) (pe_ix ix_seq (pv 0) pe_int (fun _ _ => rfl))) (nomark _)))))), ?_⟩
    walk_at "rd"
    refine r_ixT (sqT hq) (atI_nat (j := 0) rfl) ?_
    walk_at "rd"
    refine r_ixT (sqT hp) (atI_nat (j := 0) rfl) ?_
    walk_at "rd"
    refine r_ite (fun h1 => ?_) (fun h1 => ?_)
    · walk_at "rd"
      refine r_ixT (sqT hq) (atI_nat (j := 0) rfl) ?_
      walk_at "rd"
      refine r_ixT (sqT hp) (atI_nat (j := 0) rfl) ?_
      walk_at "rd"
      refine r_ixT (sqT hp) (atI_nat (j := 1) rfl) ?_
      walk_at "rd"
      rw [decide_eq_true h1] at k
      exact k
    · rw [decide_eq_false h1] at k
      exact k
def gtV : V → V → Bool
  | .int c, .str t => decide (0 < c) || !decide (V.str t = V.str "")
  | _, _ => false
theorem sp3_tup {G : Hp} {p : Addr} {x y z : V} (h : G p = some (.tup [x, y, z])) : (sp3 G (.ref p)).isSome = (numV x && (numV y && (txtV z && gtV y z))) := by
  show (sp3o (G p)).isSome = _
  rw [h]
  cases x <;> cases y <;> cases z <;> (try rfl) <;> (try (simp [sp3o, numV, txtV, gtV]; done))
  simp only [sp3o, numV, txtV, gtV]
  split
  · rename_i hh
    obtain ⟨h1, h2, h3, h4⟩ := hh
    simp [h1, h2, h3]
    exact h4
  · rename_i hh
    simp only [Option.isSome_none]
    symm
    rw [Bool.eq_false_iff]
    intro hc
    simp at hc
    exact hh ⟨hc.1, hc.2.1, hc.2.2.1, hc.2.2.2⟩
theorem sp3_tupn {G : Hp} {p : Addr} {xs : List V} (h : G p = some (.tup xs)) (hl : xs.length ≠ 3) : sp3 G (.ref p) = none := by
  show sp3o (G p) = none
  rw [h]
  unfold sp3o
  split
  · rename_i h1
    cases h1
    exact absurd rfl hl
  · rfl
def spS : Sp := fun vs H Q _ => ∃ v, vs = [v] ∧ Thg H v ∧ ∀ H', Ex H H' → Q (.bl (sp3 H v).isSome) H'
theorem ok_is_splice (T : Txt K mg) : FnOk P w K mg base CX0 3 T.a_is_splice T.d_is_splice ["thing"] spS := by
  refine T.F_is_splice.ok sc_is_splice (fun vs H Q E h => ?_) (fun cdv A outer s H vs Q E hr h => ?_)
  · obtain ⟨v, rfl, _⟩ := h
    rfl
  · obtain ⟨v, rfl, ⟨⟨n, o⟩, hx⟩, q⟩ := h
    refine ⟨_, (pss_cons (ps_if (PW.pt (pw_or (pt_not (pt_val (pe_callB call_isi (by rfl) T.n_isinstance (by decide +kernel) (pa_cons (pv 0) (pa_cons (pe_bltn (v := .ty "tuple") (by rfl) T.n_tuple (by decide +kernel) rfl) pa_nil))))) (pw_or1 (pt_cmpR (op_neU hr.units) (pe_callB call_lenU (by rfl) T.n_len (by decide +kernel) (pa_cons (pv 0) pa_nil)) pe_int (nomark _))))) (pss_one (ps_ret pe_bl)) pss_nil)
        (pss_cons (ps_asg (pv 0) (pg_tup rfl (pgs_cons (pg_name (i := 1) sc_is_splice.nd rfl (Or.inl rfl)) (pgs_cons (pg_name (i := 2) sc_is_splice.nd rfl (Or.inl rfl)) (pgs_cons (pg_name (i := 3) sc_is_splice.nd rfl (Or.inl rfl)) pgs_nil)))))
        (pss_one (ps_ret (pe_and (pe_call (ok_is_number T) (hr.mono (by decide)) (by rfl) T.g_is_number T.F_is_number.kp T.b_is_number .nil pass0 (pa_cons (pv 1) pa_nil)) (pe_and (pe_call (ok_is_number T) (hr.mono (by decide)) (by rfl) T.g_is_number T.F_is_number.kp T.b_is_number .nil pass0 (pa_cons (pv 2) pa_nil)) (pe_and (pe_call (ok_is_text T) hr (by rfl) T.g_is_text T.F_is_text.kp T.b_is_text .nil pass0 (pa_cons (pv 3) pa_nil)) (pe_one (pe_or (pe_cmpR op_gt (pv 2) pe_int (nomark _)) (pe_one (pe_cmpR (op_neU hr.units) (pv 3) pe_str (nomark _)))))))))))), ?_⟩
    have ty := o.ty (K := K)
    cases o <;> (walk_at "rd"; walk_at "isi"; walk_at "rd")
    case tup a xs h =>
      refine r_lenT (sqT h) ?_
      walk_at "rd"
      refine r_iteN (fun h3 => ?_) (fun h3 => ?_)
      · walk_at "rd"
        have q1 := q H (Same.refl H)
        rw [sp3_tupn h (fun z => h3 (by rw [z]; rfl))] at q1
        exact q1
      · have hl : xs.length = 3 := by
          have z := V.int.inj h3
          omega
        match xs, hl, h, hx with
        | [x, y, z], _, h, hx =>
          obtain ⟨_, hx⟩ := hx _ _ rfl h
          have key := sp3_tup h
          walk_at "rd"
          refine r_gtup (sqT h) rfl ?_
          walk_at "rd"
          refine ⟨x, rfl, hx x (by simp), fun H1 e1 => ?_⟩
          walk_at "rd"
          refine r_iteB (fun b1 => ?_) (fun b1 => ?_)
          · walk_at "rd"
            refine ⟨y, rfl, (hx y (by simp)).up e1, fun H2 e2 => ?_⟩
            walk_at "rd"
            refine r_iteB (fun b2 => ?_) (fun b2 => ?_)
            · walk_at "rd"
              refine ⟨z, rfl, ((hx z (by simp)).up e1).up e2, fun H3 e3 => ?_⟩
              have e : Ex H H3 := (e1.trans e2).trans e3
              walk_at "rd"
              refine r_iteB (fun b3 => ?_) (fun b3 => ?_)
              · rw [b1, b2, b3, Bool.true_and, Bool.true_and, Bool.true_and] at key
                cases y <;> try (cases b2; done)
                cases z <;> try (cases b3; done)
                walk_at "rd"
                refine r_ite (fun hc => ?_) (fun hc => ?_)
                · have q1 := q _ e
                  rw [key] at q1
                  simp only [gtV, decide_eq_true hc, Bool.true_or] at q1
                  exact q1
                · walk_at "rd"
                  have q1 := q _ e
                  rw [key] at q1
                  simp only [gtV, decide_eq_false hc, Bool.false_or] at q1
                  exact q1
              · have q1 := q _ e
                rw [key, b1, b2, b3] at q1
                exact q1
            · have q1 := q _ (e1.trans e2)
              rw [key, b1, b2] at q1
              exact q1
          · have q1 := q _ e1
            rw [key, b1] at q1
            exact q1
    all_goals
      have q1 := q H (Same.refl H)
    case lst a xs h =>
      have e0 : sp3 H (.ref a) = none := by
        show sp3o (H a) = none
        rw [h] <;> rfl
      rw [e0] at q1
      exact q1
    case dK a xs h =>
      have e0 : sp3 H (.ref a) = none := by
        show sp3o (H a) = none
        rw [h] <;> rfl
      rw [e0] at q1
      exact q1
    all_goals exact q1
end
end K14
namespace K14
open PySem PySem.Spec PyProof.Rows L2 Dk
/-- one step of a reading -/
local macro_rules | `(tactic| walk_at "rd1") => `(tactic| first
  | ((with_reducible refine r_var (v := ?rv) ?rh ?_); (case rh => rfl))
  | with_reducible refine r_c ?_
  | with_reducible refine r_seq ?_
  | with_reducible refine r_asg ?_
  | with_reducible refine r_gname ?_
  | with_reducible refine r_op ?_
  | with_reducible refine r_xfo ?_
  | with_reducible refine r_noP ?_
  | with_reducible refine r_part ?_
  | with_reducible refine r_pI ?_
  | with_reducible refine r_gcons ?_
  | with_reducible refine r_gnil ?_
  | with_reducible refine r_mkO ?_
  | with_reducible refine r_un ?_
  | with_reducible refine r_addI ?_
  | with_reducible refine r_I0 ?_
  | with_reducible refine r_U ?_
  | with_reducible refine r_cons ?_
  | with_reducible refine r_nil ?_
  | with_reducible refine r_CB ?_
  | with_reducible refine r_call ?_
  | with_reducible refine r_callS ?_
  | with_reducible refine r_int ?_
  | with_reducible refine r_max ?_
  | with_reducible refine r_min ?_
  | with_reducible refine r_test ?_
  | with_reducible refine r_B ?_
  | with_reducible refine r_blv ?_
  | with_reducible refine r_and ?_
  | with_reducible refine r_or ?_
  | with_reducible refine r_not ?_
  | with_reducible refine r_andV ?_
  | with_reducible refine r_orV ?_
  | with_reducible refine r_notV ?_
  | with_reducible refine r_ifE ?_
  | with_reducible refine r_ifS ?_
  | with_reducible refine r_ret ?_
  | with_reducible refine r_retN ?_
  | with_reducible refine r_drop ?_
  | with_reducible refine r_next ?_
  | with_reducible refine r_sl ?_
  | with_reducible refine r_gsub ?_
  | with_reducible refine r_bm ?_
  | with_reducible refine r_tup ?_
  | with_reducible refine r_lst ?_
  | with_reducible refine r_isN ?_
  | with_reducible refine r_notN ?_
  | with_reducible refine r_itt ?_
  | with_reducible refine r_iff ?_
  | with_reducible refine r_ittN ?_
  | with_reducible refine r_iffN ?_
  | ((with_reducible refine r_ittD ?rh ?_); (case rh => rfl))
  | ((with_reducible refine r_iffD ?rh ?_); (case rh => rfl))
  | ((with_reducible refine r_modP ?rh ?_); (case rh => decide))
  | ((with_reducible refine r_eq ?rh ?_); (case rh => rfl))
  | ((with_reducible refine r_ne ?rh ?_); (case rh => rfl)))
local macro_rules | `(tactic| walk_at "rd") => `(tactic| repeat walk_at "rd1")
local macro_rules | `(tactic| walk_at "isi") => `(tactic| first | refine r_isi (b := true) (by assumption) (by decide +kernel) ?_ | refine r_isi (b := false) (by assumption) (by decide +kernel) ?_)
local macro_rules | `(tactic| walk_at "rs1") => `(tactic| first
  | with_reducible refine r_seq ?_
  | with_reducible refine r_asg ?_
  | with_reducible refine r_gname ?_
  | with_reducible refine r_ret ?_)
local macro_rules | `(tactic| walk_at "rs") => `(tactic| repeat walk_at "rs1")

/-! ### rounds -/
/-- the rows of right splices, as numbers and codes -/
theorem jd_next {size fl ed : Int} {k : Nat} {l : List (Option Spl)} {a c : Int} {t : Str} (h : l[k]? = some (some (a, c, t))) (h1 : ¬ (a ≤ fl ∨ a < ed ∨ a + c > size)) :
    jd size fl ed k (l.drop k) = jd size a (a + c) (k + 1) (l.drop (k + 1)) := by
  obtain ⟨hk, e⟩ := List.getElem?_eq_some_iff.mp h
  rw [List.drop_eq_getElem_cons hk, e]
  exact if_neg h1
theorem jd_bad {size fl ed : Int} {k : Nat} {l : List (Option Spl)} {a c : Int} {t : Str} (h : l[k]? = some (some (a, c, t))) (h1 : a ≤ fl ∨ a < ed ∨ a + c > size) :
    jd size fl ed k (l.drop k) = some (k : Int) := by
  obtain ⟨hk, e⟩ := List.getElem?_eq_some_iff.mp h
  rw [List.drop_eq_getElem_cons hk, e]
  exact if_pos h1
theorem jd_none {size fl ed : Int} {k : Nat} {l : List (Option Spl)} (h : l[k]? = some none) : jd size fl ed k (l.drop k) = some (k : Int) := by
  obtain ⟨hk, e⟩ := List.getElem?_eq_some_iff.mp h
  rw [List.drop_eq_getElem_cons hk, e]
  rfl
theorem sp3_shape {G : Hp} {v : V} {a c : Int} {t : Str} (h : sp3 G v = some (a, c, t)) : ∃ p, v = .ref p ∧ G p = some (.tup [.int a, .int c, .str t]) ∧ 0 ≤ a ∧ 0 ≤ c ∧ isTx t = true := by
  cases v <;> try (cases h; done)
  rename_i p
  have h' : sp3o (G p) = some (a, c, t) := h
  unfold sp3o at h'
  split at h'
  · rename_i a' c' t' hg
    split at h'
    · rename_i hh
      cases h'
      exact ⟨p, rfl, hg, hh.1, hh.2.1, hh.2.2.1⟩
    · cases h'
  · cases h'
section
variable {P : Program} {w : World} {K : PySem.W.Frag} {mg : Str → Option Value} {base : Heap}
abbrev xAt (k : Int) : HO := .xd [(("at" : Str), V.int k)]
/-- a row of things at a -/
structure Rw (G : Hp) (xs : List V) : Prop where
  len : xs.length ≤ 1000
  thg : ∀ x ∈ xs, Thg G x
theorem Rw.up {G G' : Hp} {xs : List V} (e : Ex G G') (h : Rw G xs) : Rw G' xs := ⟨h.len, fun x hx => (h.thg x hx).up e⟩
abbrev sps (G : Hp) (xs : List V) : List (Option Spl) := xs.map (sp3 G)
theorem sps_up {G G' : Hp} {xs : List V} (e : Ex G G') (h : Rw G xs) : sps G' xs = sps G xs := List.map_congr_left fun x hx => sp3_up e (h.thg x hx)
def spChk (C : Addr) : Sp := fun vs H Q E => ∃ (n : Int) (a : Addr) (xs : List V), vs = [.int n, .ref a] ∧ H a = some (.tup xs) ∧ Rw H xs ∧
  (judge n (sps H xs) = none → ∀ H', Ex H H' → Q .non H') ∧ ∀ k, judge n (sps H xs) = some k → ∀ H' d, Ex H H' → H d = none → H' d = some (xAt k) → E (.ref C) (some d) H'
theorem ok_check_round (T : Txt K mg) : FnOk P w K mg base (L2.CX P w) 4 T.a_check_round T.d_check_round ["size", "splices"] (spChk T.c_BadSplice) := by
  refine T.F_check_round.okX sc_check_round (fun vs H Q E h => ?_) (fun cdv A outer s H vs Q E hr h => ?_)
  · obtain ⟨n, a, xs, rfl, _⟩ := h
    rfl
  · obtain ⟨n, a, xs, rfl, ha, rw0, q, qE⟩ := h
    refine ⟨_, (pss_cons (ps_if (pt_cmpR (op_eqU hr.units) (pe_callB call_lenU (by rfl) T.n_len (by decide +kernel) (pa_cons (pv 1) pa_nil)) pe_int (nomark _)) (pss_one (ps_raise rfl (takes_of rfl rfl rfl rfl) (pmk_oex T.o_BadSplice T.i_BadSplice T.ti_BadSplice (ok_init_BadSplice T) (hr.mono (by decide)) T.b_BadSplice .nil pass0 (by rfl) T.g_BadSplice (pa_cons (pe_un un_neg pe_int) pa_nil)))) pss_nil)
        (pss_one (ps_for (passes_of rfl) rfl (pi_enumT (by rfl) T.n_enumerate (pa_cons (pv 1) pa_nil)) (pg_tup rfl (pgs_cons (pg_name (i := 2) sc_check_round.nd rfl (Or.inl rfl)) (pgs_cons (pg_name (i := 3) sc_check_round.nd rfl (Or.inl rfl)) pgs_nil))) (pss_cons (ps_if (PW.pt (pw_or (pt_not (pt_val (pe_call (ok_is_splice T) hr (by rfl) T.g_is_splice T.F_is_splice.kp T.b_is_splice .nil pass0 (pa_cons (pv 3) pa_nil)))) (pw_or1 (pt_cmpR op_gt (pe_op op_addU (pe_ix ix_seq (pv 3) pe_int (fun _ _ => rfl)) (pe_ix ix_seq (pv 3) pe_int (fun _ _ => rfl))) (pv 0) (nomark _))))) (pss_one (ps_raise rfl (takes_of rfl rfl rfl rfl) (pmk_oex T.o_BadSplice T.i_BadSplice T.ti_BadSplice (ok_init_BadSplice T) (hr.mono (by decide)) T.b_BadSplice .nil pass0 (by rfl) T.g_BadSplice (pa_cons (pv 2) pa_nil)))) pss_nil)
        (pss_one (ps_if (PW.pt (pw_and (pt_cmpR op_gt (pv 2) pe_int (nomark _)) (pw_and1 (pt_not (pt_val (pe_call (ok_follows T) (hr.mono (by decide)) (by rfl) T.g_follows T.F_follows.kp T.b_follows .nil pass0 (pa_cons (pe_ix ix_seq (pv 1) (pe_op op_sub (pv 2) pe_int) (fun _ _ => rfl)) (pa_cons (pv 3) pa_nil)))))))) (pss_one (ps_raise rfl (takes_of rfl rfl rfl rfl) (pmk_oex T.o_BadSplice T.i_BadSplice T.ti_BadSplice (ok_init_BadSplice T) (hr.mono (by decide)) T.b_BadSplice .nil pass0 (by rfl) T.g_BadSplice (pa_cons (pv 2) pa_nil)))) pss_nil)))))), ?_⟩
    have raise : ∀ (k : Int) (H1 : Hp), judge n (sps H xs) = some k → Ex H H1 → ∀ d, H1 d = none → E (.ref T.c_BadSplice) (some d) (upd H1 d (xAt k)) :=
      fun k H1 hk e d hd => qE k hk _ d (e.trans (Gr.new (A := A0) (Same.refl H1) hd).same) (e.free hd) upd_same
    walk_at "rd"
    refine r_lenT (sqT ha) ?_
    walk_at "rd"
    refine r_ite (fun h0 => ?_) (fun h0 => ?_)
    · have hx : xs = [] := by
        have z := V.int.inj h0
        exact List.length_eq_zero_iff.mp (by omega)
      walk_at "rd"
      refine r_raise1 fun d hd => raise _ _ (by rw [hx]; rfl) (Same.refl H) d hd
    · have hx : xs ≠ [] := fun z => h0 (by rw [z]; rfl)
      have hj : judge n (sps H xs) = jd n (-1) 0 0 (sps H xs) := by
        unfold judge
        rw [if_neg (by simp [sps, hx])]
      walk_at "rd"
      refine r_forETv rfl (sqT ha) (fun i σ H' => ∃ y1 y2 fl ed, σ = [some (.int n), some (.ref a), y1, y2] ∧ Ex H H' ∧ jd n (-1) 0 0 (sps H xs) = jd n fl ed i ((sps H xs).drop i) ∧
        ((i = 0 ∧ fl = -1 ∧ ed = 0) ∨ (0 < i ∧ ∃ (p : Addr) (c : Int) (t : Str), xs[i - 1]? = some (.ref p) ∧ H p = some (.tup [.int fl, .int c, .str t]) ∧ ed = fl + c)))
        ⟨none, none, -1, 0, rfl, Same.refl H, rfl, .inl ⟨rfl, rfl, rfl⟩⟩ (fun i σ H' h => ?_) (fun i x σ H' p hx' hP hp => ?_) (fun σ H' hP => ?_)
      · obtain ⟨_, _, _, _, _, e, _⟩ := h
        exact SqT.up e (sqT ha)
      · obtain ⟨y1, y2, fl, ed, rfl, e, hjd, hfl⟩ := hP
        have hT : Thg H x := rw0.thg x (List.mem_of_getElem? hx')
        have e1 : Ex H' (upd H' p (.tup [.int (i : Nat), x])) := (Gr.new (A := A0) (Same.refl H') hp).same
        have e2 := e.trans e1
        have hs : (sps H xs)[i]? = some (sp3 H x) := by
          rw [List.getElem?_map, hx']
          rfl
        refine r_gtup (sqT upd_same) rfl ?_
        walk_at "rd"
        refine ⟨x, rfl, hT.up e2, fun H2 e3 => ?_⟩
        have e4 := e2.trans e3
        rw [sp3_up e2 hT]
        walk_at "rd"
        cases hsp : sp3 H x with
        | none =>
          rw [hsp] at hs
          walk_at "rd"
          exact r_raise1 fun d hd => raise _ _ (by rw [hj, hjd]; exact jd_none hs) e4 d hd
        | some abc =>
          obtain ⟨b, c, t⟩ := abc
          rw [hsp] at hs
          obtain ⟨p2, rfl, hp2, b0, c0, _⟩ := sp3_shape hsp
          walk_at "rd"
          refine r_ixT (sqT (e4 _ _ hp2)) (atI_nat (j := 0) rfl) ?_
          walk_at "rd"
          refine r_ixT (sqT (e4 _ _ hp2)) (atI_nat (j := 1) rfl) ?_
          walk_at "rd"
          refine r_ite (fun hb => ?_) (fun hb => ?_)
          · walk_at "rd"
            exact r_raise1 fun d hd => raise _ _ (by rw [hj, hjd]; exact jd_bad hs (.inr (.inr hb))) e4 d hd
          · walk_at "rd"
            refine r_ite (fun hi => ?_) (fun hi => ?_)
            · rcases hfl with ⟨z, _, _⟩ | ⟨_, p3, c3, t3, hx3, hp3, rfl⟩
              · omega
              · walk_at "rd"
                refine r_ixT (sqT (e4 _ _ ha)) (at_of (j := i - 1) (by omega) hx3) ?_
                walk_at "rd"
                refine ⟨p3, p2, fl, c3, b, _, _, _, rfl, e4 _ _ hp3, e4 _ _ hp2, ?_⟩
                walk_at "rd"
                refine r_iteB (fun hf => ?_) (fun hf => ?_)
                · walk_at "rd"
                  have hf' : ¬ (fl < b ∧ fl + c3 ≤ b) := by
                    intro z
                    rw [decide_eq_true z.1, decide_eq_true z.2] at hf
                    exact absurd hf (by decide)
                  exact r_raise1 fun d hd => raise _ _ (by rw [hj, hjd]; exact jd_bad hs (by omega)) e4 d hd
                · walk_at "rd"
                  have hf' : fl < b ∧ fl + c3 ≤ b := by
                    have z : (decide (fl < b) && decide (fl + c3 ≤ b)) = true := by
                      cases hq : (decide (fl < b) && decide (fl + c3 ≤ b)) with
                      | true => rfl
                      | false => rw [hq] at hf; exact absurd hf (by decide)
                    simp at z
                    exact z
                  exact ⟨_, _, b, b + c, rfl, e4, hjd.trans (jd_next hs (by omega)), .inr ⟨by omega, p2, c, t, by rw [Nat.add_sub_cancel]; exact hx', hp2, rfl⟩⟩
            · walk_at "rd"
              have h1 : fl = -1 ∧ ed = 0 := by
                rcases hfl with ⟨_, h1, h2⟩ | ⟨z, _⟩
                · exact ⟨h1, h2⟩
                · omega
              exact ⟨_, _, b, b + c, rfl, e4, hjd.trans (jd_next hs (by omega)), .inr ⟨by omega, p2, c, t, by rw [Nat.add_sub_cancel]; exact hx', hp2, rfl⟩⟩
      · obtain ⟨y1, y2, fl, ed, rfl, e, hjd, _⟩ := hP
        walk_at "rd"
        refine q ?_ _ e
        rw [hj, hjd, List.drop_of_length_le (by simp [sps])]
        rfl
end
end K14
namespace K14
open PySem PySem.Spec PyProof.Rows L2 Dk
/-- one step of a reading -/
local macro_rules | `(tactic| walk_at "rd1") => `(tactic| first
  | ((with_reducible refine r_var (v := ?rv) ?rh ?_); (case rh => rfl))
  | with_reducible refine r_c ?_
  | with_reducible refine r_seq ?_
  | with_reducible refine r_asg ?_
  | with_reducible refine r_gname ?_
  | with_reducible refine r_op ?_
  | with_reducible refine r_xfo ?_
  | with_reducible refine r_noP ?_
  | with_reducible refine r_part ?_
  | with_reducible refine r_pI ?_
  | with_reducible refine r_gcons ?_
  | with_reducible refine r_gnil ?_
  | with_reducible refine r_mkO ?_
  | with_reducible refine r_un ?_
  | with_reducible refine r_addI ?_
  | with_reducible refine r_I0 ?_
  | with_reducible refine r_U ?_
  | with_reducible refine r_cons ?_
  | with_reducible refine r_nil ?_
  | with_reducible refine r_CB ?_
  | with_reducible refine r_call ?_
  | with_reducible refine r_callS ?_
  | with_reducible refine r_int ?_
  | with_reducible refine r_max ?_
  | with_reducible refine r_min ?_
  | with_reducible refine r_test ?_
  | with_reducible refine r_B ?_
  | with_reducible refine r_blv ?_
  | with_reducible refine r_and ?_
  | with_reducible refine r_or ?_
  | with_reducible refine r_not ?_
  | with_reducible refine r_andV ?_
  | with_reducible refine r_orV ?_
  | with_reducible refine r_notV ?_
  | with_reducible refine r_ifE ?_
  | with_reducible refine r_ifS ?_
  | with_reducible refine r_ret ?_
  | with_reducible refine r_retN ?_
  | with_reducible refine r_drop ?_
  | with_reducible refine r_next ?_
  | with_reducible refine r_sl ?_
  | with_reducible refine r_gsub ?_
  | with_reducible refine r_bm ?_
  | with_reducible refine r_tup ?_
  | with_reducible refine r_lst ?_
  | with_reducible refine r_isN ?_
  | with_reducible refine r_notN ?_
  | with_reducible refine r_itt ?_
  | with_reducible refine r_iff ?_
  | with_reducible refine r_ittN ?_
  | with_reducible refine r_iffN ?_
  | ((with_reducible refine r_ittD ?rh ?_); (case rh => rfl))
  | ((with_reducible refine r_iffD ?rh ?_); (case rh => rfl))
  | ((with_reducible refine r_modP ?rh ?_); (case rh => decide))
  | ((with_reducible refine r_eq ?rh ?_); (case rh => rfl))
  | ((with_reducible refine r_ne ?rh ?_); (case rh => rfl)))
local macro_rules | `(tactic| walk_at "rd") => `(tactic| repeat walk_at "rd1")
local macro_rules | `(tactic| walk_at "isi") => `(tactic| first | refine r_isi (b := true) (by assumption) (by decide +kernel) ?_ | refine r_isi (b := false) (by assumption) (by decide +kernel) ?_)
local macro_rules | `(tactic| walk_at "rs1") => `(tactic| first
  | with_reducible refine r_seq ?_
  | with_reducible refine r_asg ?_
  | with_reducible refine r_gname ?_
  | with_reducible refine r_ret ?_)
local macro_rules | `(tactic| walk_at "rs") => `(tactic| repeat walk_at "rs1")

/-! ### what splicing gives -/
def ledC (l : List Nat) : Int → List Spl → List Nat
  | d, [] => l.drop d.toNat
  | d, (a, c, t) :: r => (l.drop d.toNat).take (a.toNat - d.toNat) ++ (cs t ++ ledC l (a + c) r)
def doneC (l : List Nat) : List Spl → List Nat
  | [] => l
  | (a, c, t) :: r => (doneC l r).take a.toNat ++ (cs t ++ (doneC l r).drop (a + c).toNat)
/-- the row is right from the floor d on -/
def Rt (n : Nat) : Int → List Spl → Prop
  | d, [] => 0 ≤ d ∧ d ≤ n
  | d, (a, c, _) :: r => 0 ≤ d ∧ d ≤ a ∧ 0 ≤ c ∧ a + c ≤ n ∧ Rt n (a + c) r
theorem Rt.le {n : Nat} {d : Int} {r : List Spl} (h : Rt n d r) : 0 ≤ d ∧ d ≤ n := by
  cases r with
  | nil => exact h
  | cons x r =>
    obtain ⟨a, c, t⟩ := x
    obtain ⟨h1, h2, h3, h4, _⟩ := h
    omega
theorem done_led {l : List Nat} : ∀ (r : List Spl) (d : Int), Rt l.length d r → doneC l r = l.take d.toNat ++ ledC l d r
  | [], d, h => (List.take_append_drop _ _).symm
  | (a, c, t) :: r, d, h => by
    obtain ⟨h1, h2, h3, h4, h5⟩ := h
    have ih := done_led r (a + c) h5
    show (doneC l r).take a.toNat ++ (cs t ++ (doneC l r).drop (a + c).toNat) = l.take d.toNat ++ ((l.drop d.toNat).take (a.toNat - d.toNat) ++ (cs t ++ ledC l (a + c) r))
    have e1 : (doneC l r).take a.toNat = l.take a.toNat := by
      rw [ih, List.take_append_of_le_length (by rw [List.length_take]; omega), List.take_take, Nat.min_eq_left (by omega)]
    have e2 : (doneC l r).drop (a + c).toNat = ledC l (a + c) r := by
      have e3 : (l.take (a + c).toNat).length = (a + c).toNat := by rw [List.length_take]; omega
      rw [ih]
      exact List.drop_left' e3
    have e4 : l.take d.toNat ++ (l.drop d.toNat).take (a.toNat - d.toNat) = l.take a.toNat := by
      have z := List.take_add (l := l) (i := d.toNat) (j := a.toNat - d.toNat)
      rw [show d.toNat + (a.toNat - d.toNat) = a.toNat by omega] at z
      exact z.symm
    rw [e1, e2, ← e4, List.append_assoc]
theorem done_led0 {l : List Nat} {r : List Spl} (h : Rt l.length 0 r) : doneC l r = ledC l 0 r := by
  rw [done_led r 0 h]
  rfl
theorem jd_rt {n : Nat} : ∀ (l : List (Option Spl)) (fl ed : Int) (k : Nat), (∀ a c t, some (a, c, t) ∈ l → 0 ≤ a ∧ 0 ≤ c) → 0 ≤ ed → ed ≤ n → jd n fl ed k l = none → ∃ rs : List Spl, l = rs.map some ∧ Rt n ed rs
  | [], fl, ed, k, _, h0, h1, _ => ⟨[], rfl, h0, h1⟩
  | none :: r, fl, ed, k, _, _, _, h => by cases h
  | some (a, c, t) :: r, fl, ed, k, hp, h0, h1, h => by
    obtain ⟨ha, hc⟩ := hp a c t (by simp)
    unfold jd at h
    split at h
    · cases h
    · rename_i hn
      obtain ⟨rs, e, hr⟩ := jd_rt r a (a + c) (k + 1) (fun a c t hm => hp a c t (List.mem_cons_of_mem _ hm)) (by omega) (by omega) h
      exact ⟨(a, c, t) :: rs, by rw [e]; rfl, h0, by omega, hc, by omega, hr⟩
theorem judge_rt {G : Hp} {n : Nat} {xs : List V} (h : judge n (sps G xs) = none) : ∃ rs : List Spl, sps G xs = rs.map some ∧ Rt n 0 rs := by
  unfold judge at h
  split at h
  · cases h
  · refine jd_rt _ _ _ _ (fun a c t hm => ?_) (by omega) (by omega) h
    obtain ⟨v, hv, e⟩ := List.mem_map.mp hm
    obtain ⟨p, _, _, h1, h2, _⟩ := sp3_shape e
    exact ⟨h1, h2⟩
theorem sps_at {G : Hp} {xs : List V} {rs : List Spl} (h : sps G xs = rs.map some) {i : Nat} {x : V} (hx : xs[i]? = some x) :
    ∃ (p : Addr) (a c : Int) (t : Str), x = .ref p ∧ rs[i]? = some (a, c, t) ∧ G p = some (.tup [.int a, .int c, .str t]) ∧ 0 ≤ a ∧ 0 ≤ c := by
  have h1 : (sps G xs)[i]? = some (sp3 G x) := by rw [List.getElem?_map, hx]; rfl
  rw [h, List.getElem?_map] at h1
  cases hr : rs[i]? with
  | none => rw [hr] at h1; cases h1
  | some r =>
    obtain ⟨a, c, t⟩ := r
    rw [hr] at h1
    have h2 : sp3 G x = some (a, c, t) := (Option.some.inj h1).symm
    obtain ⟨p, e, hg, h3, h4, _⟩ := sp3_shape h2
    exact ⟨p, a, c, t, e, rfl, hg, h3, h4⟩
theorem put_len {G : Hp} {xs : List V} (h : Rw G xs) {p : Addr} {a c : V} {t : Str} (hm : V.ref p ∈ xs) (hp : G p = some (.tup [a, c, .str t])) : t.length ≤ 8000 := by
  obtain ⟨_, h2⟩ := (h.thg _ hm).2 _ _ rfl hp
  obtain ⟨n, o⟩ := h2 (.str t) (by simp)
  cases o with
  | str z hz => exact hz
theorem led_drop {l : List Nat} {rs : List Spl} {i : Nat} {a c : Int} {t : Str} (d : Int) (h : rs[i]? = some (a, c, t)) :
    ledC l d (rs.drop i) = (l.drop d.toNat).take (a.toNat - d.toNat) ++ (cs t ++ ledC l (a + c) (rs.drop (i + 1))) := by
  obtain ⟨hi, e⟩ := List.getElem?_eq_some_iff.mp h
  rw [List.drop_eq_getElem_cons hi, e]
  rfl
theorem sum_le {B : Nat} : ∀ {ps : List Str}, (∀ y ∈ ps, y.length ≤ B) → (ps.map (·.length)).sum ≤ ps.length * B
  | [], _ => Nat.zero_le _
  | y :: r, h => by
    have ih := sum_le (ps := r) fun z hz => h z (List.mem_cons_of_mem _ hz)
    have h1 := h y (by simp)
    rw [List.map_cons, List.sum_cons, List.length_cons, Nat.add_mul]
    omega
/-- the parts so far -/
structure Pts (l : List Nat) (rs : List Spl) (ps : List Str) (i : Nat) (d : Int) : Prop where
  led : (ps.map cs).flatten ++ ledC l d (rs.drop i) = ledC l 0 rs
  len : ps.length = 2 * i
  each : ∀ y ∈ ps, y.length ≤ 8000
  d0 : 0 ≤ d
theorem Pts.next {l : List Nat} {rs : List Spl} {ps : List Str} {i : Nat} {d a c : Int} {t x : Str} (h : Pts l rs ps i d) (hr : rs[i]? = some (a, c, t)) (ha : 0 ≤ a) (hc : 0 ≤ c)
    (hx : cs x = (l.drop d.toNat).take (a.toNat - d.toNat)) (hxl : x.length ≤ 8000) (ht : t.length ≤ 8000) : Pts l rs (ps ++ [x, t]) (i + 1) (a + c) where
  led := by
    have z := h.led
    rw [led_drop d hr] at z
    rw [← z, List.map_append, List.flatten_append, List.append_assoc]
    simp [hx]
  len := by
    rw [List.length_append, h.len]
    simp
    omega
  each := fun y hy => by
    rcases List.mem_append.mp hy with h1 | h1
    · exact h.each y h1
    · rcases List.mem_cons.mp h1 with h2 | h2
      · rw [h2]
        exact hxl
      · rw [List.mem_singleton.mp h2]
        exact ht
  d0 := by omega
theorem Pts.last {l : List Nat} {rs : List Spl} {ps : List Str} {d : Int} {x : Str} (h : Pts l rs ps rs.length d) (hx : cs x = l.drop d.toNat) : cs (Txt.join "" (ps ++ [x])) = ledC l 0 rs := by
  have z := h.led
  rw [List.drop_length] at z
  rw [cs_join, List.map_append, List.flatten_append, ← z]
  simp [hx, ledC]
theorem cs_cutI (z : Str) {a b : Int} (ha : 0 ≤ a) (hb : 0 ≤ b) : cs (cutS z (some a) (some b)) = ((cs z).drop a.toNat).take (b.toNat - a.toNat) := by
  rw [int_nat ha, int_nat hb]
  exact cs_cut z _ _
theorem cs_fromI (z : Str) {a : Int} (ha : 0 ≤ a) : cs (cutS z (some a) none) = (cs z).drop a.toNat := by
  rw [int_nat ha]
  exact cs_from z _
theorem small8 {z : Str} (h : z.length ≤ 8000) : z.length ≤ sizeLine := Nat.le_trans h (by decide)
section
variable {P : Program} {w : World} {K : PySem.W.Frag} {mg : Str → Option Value} {base : Heap}
def spSpl (C : Addr) : Sp := fun vs H Q E => ∃ (z : Str) (a : Addr) (xs : List V), vs = [.str z, .ref a] ∧ z.length ≤ 8000 ∧ H a = some (.tup xs) ∧ Rw H xs ∧
  (∀ rs, sps H xs = rs.map some → judge z.length (sps H xs) = none → ∀ H' o, Ex H H' → cs o = ledC (cs z) 0 rs → Q (.str o) H') ∧
  ∀ k, judge z.length (sps H xs) = some k → ∀ H' d, Ex H H' → H d = none → H' d = some (xAt k) → E (.ref C) (some d) H'
theorem ok_spliced (T : Txt K mg) : FnOk P w K mg base (L2.CX P w) 5 T.a_spliced T.d_spliced ["text", "splices"] (spSpl T.c_BadSplice) := by
  refine T.F_spliced.okX sc_spliced (fun vs H Q E h => ?_) (fun cdv A outer s H vs Q E hr h => ?_)
  · obtain ⟨z, a, xs, rfl, _⟩ := h
    rfl
  · obtain ⟨z, a, xs, rfl, hz, ha, rw0, q, qE⟩ := h
    refine ⟨_, (pss_cons (ps_expr (pe_call (ok_check_round T) hr (by rfl) T.g_check_round T.F_check_round.kp T.b_check_round .nil (passes_call (takes_of rfl rfl rfl rfl) (fun _ _ _ _ h => h)) (pa_cons (pe_callB call_lenU (by rfl) T.n_len (by decide +kernel) (pa_cons (pv 0) pa_nil)) (pa_cons (pv 1) pa_nil))))
        (pss_cons (ps_set (i := 2) sc_spliced.nd rfl (Or.inl rfl) (pe_lst pa_nil))
        (pss_cons (ps_set (i := 3) sc_spliced.nd rfl (Or.inl rfl) pe_int)
        (pss_cons (ps_for (passes_of rfl) rfl (pi_tup (pv 1)) (pg_tup rfl (pgs_cons (pg_name (i := 4) sc_spliced.nd rfl (Or.inl rfl)) (pgs_cons (pg_name (i := 5) sc_spliced.nd rfl (Or.inl rfl)) (pgs_cons (pg_name (i := 6) sc_spliced.nd rfl (Or.inl rfl)) pgs_nil)))) (pss_cons (ps_expr (pe_bm PySem.F.plainAttrs_list PySem.F.slot_list_append PySem.F.type_list_append mt_append (pv 2) (pa_cons (pe_slice sl_U (pv 0) (po_some (pv 3)) (po_some (pv 4))) pa_nil)))
        (pss_cons (ps_expr (pe_bm PySem.F.plainAttrs_list PySem.F.slot_list_append PySem.F.type_list_append mt_append (pv 2) (pa_cons (pv 6) pa_nil)))
        (pss_one (ps_set (i := 3) sc_spliced.nd rfl (Or.inl rfl) (pe_op op_addU (pv 4) (pv 5)))))))
        (pss_cons (ps_expr (pe_bm PySem.F.plainAttrs_list PySem.F.slot_list_append PySem.F.type_list_append mt_append (pv 2) (pa_cons (pe_slice sl_U (pv 0) (po_some (pv 3)) po_none) pa_nil)))
        (pss_one (ps_ret (pe_join pe_str (pv 2))))))))), ?_⟩
    walk_at "rd"
    refine r_lenS (small8 hz) ?_
    walk_at "rd"
    refine ⟨_, a, xs, rfl, ha, rw0, fun hj H1 e1 => ?_, fun k hk H1 d e h1 h2 => qE k hk H1 d e h1 h2⟩
    obtain ⟨rs, hrs, hrt⟩ := judge_rt hj
    have hlen : xs.length = rs.length := by
      have z := congrArg List.length hrs
      simpa [sps] using z
    walk_at "rd"
    refine r_small (by decide) fun m hm => ?_
    walk_at "rd"
    have n0 : H m = none := e1.free hm
    refine r_forTv rfl (SqT.up (Same.new e1 hm) (sqT ha)) (fun i σ H' => ∃ y1 y2 y3 d ps, σ = [some (.str z), some (.ref a), some (.ref m), some (.int d), y1, y2, y3] ∧ Ex H H' ∧ H' m = some (.lst (ps.map V.str)) ∧ Pts (cs z) rs ps i d)
      ⟨none, none, none, 0, [], rfl, Same.new e1 hm, upd_same, ⟨rfl, rfl, fun _ h => by simp at h, by omega⟩⟩ (fun i σ H' h => ?_) (fun i x σ H' hx hP => ?_) (fun σ H' hP => ?_)
    · obtain ⟨_, _, _, _, _, _, e, _⟩ := h
      exact SqT.up e (sqT ha)
    · obtain ⟨y1, y2, y3, d, ps, rfl, e, hpm, hP⟩ := hP
      obtain ⟨p, b, c, t, rfl, hr, hp, hb, hc⟩ := sps_at hrs hx
      have ht := put_len rw0 (List.mem_of_getElem? hx) hp
      have hps : ps.length < 5000 := by
        have h1 := (List.getElem?_eq_some_iff.mp hx).1
        have h2 := rw0.len
        have h3 := hP.len
        omega
      refine r_gtup (SqT.up e (sqT hp)) rfl ?_
      walk_at "rd"
      refine r_tyL (sqL hpm) ?_
      walk_at "rd"
      refine r_slS (small8 hz) ?_
      walk_at "rd"
      refine r_app hpm (by rw [List.length_map]; exact Nat.lt_trans hps (by decide)) ?_
      walk_at "rd"
      refine r_tyL (sqL upd_same) ?_
      walk_at "rd"
      refine r_app upd_same (by rw [List.length_append, List.length_map]; exact Nat.lt_trans (show ps.length + 1 < 6000 by omega) (by decide)) ?_
      walk_at "rd"
      have hN := hP.next hr hb hc (x := cutS z (some d) (some b)) (cs_cutI z hP.d0 hb) (Nat.le_trans (cut_len _ _ _) hz) ht
      refine ⟨_, _, _, b + c, ps ++ [cutS z (some d) (some b), t], rfl, Same.mut (Same.mut e n0) n0, ?_, hN⟩
      rw [upd_same]
      simp
    · obtain ⟨y1, y2, y3, d, ps, rfl, e, hpm, hP⟩ := hP
      have hps : ps.length < 5000 := by
        have h2 := rw0.len
        have h3 := hP.len
        omega
      walk_at "rd"
      refine r_tyL (sqL hpm) ?_
      walk_at "rd"
      refine r_slS (small8 hz) ?_
      walk_at "rd"
      refine r_app hpm (by rw [List.length_map]; exact Nat.lt_trans hps (by decide)) ?_
      walk_at "rd"
      have e' : ps.map V.str ++ [.str (cutS z (some d) none)] = (ps ++ [cutS z (some d) none]).map V.str := by simp
      rw [e']
      have hsum := sum_le (B := 8000) (ps := ps ++ [cutS z (some d) none]) fun y hy => by
        rcases List.mem_append.mp hy with h1 | h1
        · exact hP.each y h1
        · rw [List.mem_singleton.mp h1]
          exact Nat.le_trans (cut_len _ _ _) hz
      rw [hlen] at hP
      refine ⟨⟨_, rfl⟩, _, rfl, "", m, ps ++ [cutS z (some d) none], rfl, rfl, .inl (sqL upd_same), ?_, q rs hrs hj _ _ (Same.mut e n0) (hP.last (cs_fromI z hP.d0))⟩
      have h3 := hP.len
      have h4 := rw0.len
      rw [List.length_append] at hsum
      have h5 : ("" : Str).length = 0 := rfl
      rw [h5, Nat.mul_zero, Nat.add_zero]
      refine Nat.le_trans hsum ?_
      have h6 : ps.length + [cutS z (some d) none].length ≤ 2001 := by
        simp
        omega
      refine Nat.le_trans (Nat.mul_le_mul_right _ h6) (by decide)
end
end K14
namespace K14
open PySem PySem.Spec PyProof.Rows L2 Dk
/-- one step of a reading -/
local macro_rules | `(tactic| walk_at "rd1") => `(tactic| first
  | ((with_reducible refine r_var (v := ?rv) ?rh ?_); (case rh => rfl))
  | with_reducible refine r_c ?_
  | with_reducible refine r_seq ?_
  | with_reducible refine r_asg ?_
  | with_reducible refine r_gname ?_
  | with_reducible refine r_op ?_
  | with_reducible refine r_xfo ?_
  | with_reducible refine r_noP ?_
  | with_reducible refine r_part ?_
  | with_reducible refine r_pI ?_
  | with_reducible refine r_gcons ?_
  | with_reducible refine r_gnil ?_
  | with_reducible refine r_mkO ?_
  | with_reducible refine r_un ?_
  | with_reducible refine r_addI ?_
  | with_reducible refine r_I0 ?_
  | with_reducible refine r_U ?_
  | with_reducible refine r_cons ?_
  | with_reducible refine r_nil ?_
  | with_reducible refine r_CB ?_
  | with_reducible refine r_call ?_
  | with_reducible refine r_callS ?_
  | with_reducible refine r_int ?_
  | with_reducible refine r_max ?_
  | with_reducible refine r_min ?_
  | with_reducible refine r_test ?_
  | with_reducible refine r_B ?_
  | with_reducible refine r_blv ?_
  | with_reducible refine r_and ?_
  | with_reducible refine r_or ?_
  | with_reducible refine r_not ?_
  | with_reducible refine r_andV ?_
  | with_reducible refine r_orV ?_
  | with_reducible refine r_notV ?_
  | with_reducible refine r_ifE ?_
  | with_reducible refine r_ifS ?_
  | with_reducible refine r_ret ?_
  | with_reducible refine r_retN ?_
  | with_reducible refine r_drop ?_
  | with_reducible refine r_next ?_
  | with_reducible refine r_sl ?_
  | with_reducible refine r_gsub ?_
  | with_reducible refine r_bm ?_
  | with_reducible refine r_tup ?_
  | with_reducible refine r_lst ?_
  | with_reducible refine r_isN ?_
  | with_reducible refine r_notN ?_
  | with_reducible refine r_itt ?_
  | with_reducible refine r_iff ?_
  | with_reducible refine r_ittN ?_
  | with_reducible refine r_iffN ?_
  | ((with_reducible refine r_ittD ?rh ?_); (case rh => rfl))
  | ((with_reducible refine r_iffD ?rh ?_); (case rh => rfl))
  | ((with_reducible refine r_modP ?rh ?_); (case rh => decide))
  | ((with_reducible refine r_eq ?rh ?_); (case rh => rfl))
  | ((with_reducible refine r_ne ?rh ?_); (case rh => rfl)))
local macro_rules | `(tactic| walk_at "rd") => `(tactic| repeat walk_at "rd1")
local macro_rules | `(tactic| walk_at "isi") => `(tactic| first | refine r_isi (b := true) (by assumption) (by decide +kernel) ?_ | refine r_isi (b := false) (by assumption) (by decide +kernel) ?_)
local macro_rules | `(tactic| walk_at "rs1") => `(tactic| first
  | with_reducible refine r_seq ?_
  | with_reducible refine r_asg ?_
  | with_reducible refine r_gname ?_
  | with_reducible refine r_ret ?_)
local macro_rules | `(tactic| walk_at "rs") => `(tactic| repeat walk_at "rs1")

section
variable {P : Program} {w : World} {K : PySem.W.Frag} {mg : Str → Option Value} {base : Heap}
/-! ### the law's draws -/
theorem ok_law_start (T : Txt K mg) : FnOk P w K mg base CX0 1 T.a_law_start T.d_law_start ["_law_script"] (spStart K) := by
  refine T.F_law_start.ok sc_law_start (fun vs H Q E h => ?_) (fun cdv A outer s H vs Q E hr h => ?_)
  · obtain ⟨a, ns, rfl, _⟩ := h
    rfl
  · obtain ⟨a, ns, rfl, hS, q⟩ := h
    refine ⟨_, (pss_cons (ps_set (i := 1) sc_law_start.nd rfl (Or.inl rfl) pe_int)
        (pss_cons (ps_for PassesOwn.never rfl (pi_list (pv 0)) (pg_name (i := 2) sc_law_start.nd rfl (Or.inl rfl)) (pss_one (ps_set (i := 1) sc_law_start.nd rfl (Or.inl rfl) (pe_op op_modP (pe_op op_addU (pe_op op_addU (pe_op op_mulWW (pv 1) pe_int) (pe_op op_modP (pe_callTy call_intU (by rfl) T.n_int (by decide +kernel) (pa_cons (pv 2) pa_nil)) pe_int)) pe_int) pe_int))))
        (pss_one (ps_ret (pe_lst (pa_cons (pv 1) pa_nil)))))), ?_⟩
    walk_at "rd"
    refine r_forLv rfl hS (fun i σ H' => ∃ z y, σ = [some (.ref a), some (.int z), y] ∧ 0 ≤ z ∧ z < M61 ∧ H' = H) ⟨_, none, rfl, by decide, by decide, rfl⟩ (fun i σ H' h => ?_) (fun i x σ H' hx hP => ?_) (fun σ H' hP => ?_)
    · obtain ⟨_, _, _, _, _, rfl⟩ := h
      exact hS
    · obtain ⟨z, y, rfl, h0, h1, rfl⟩ := hP
      obtain ⟨c, hc, rfl⟩ : ∃ c, ns[i]? = some c ∧ x = V.int c := by
        rw [List.getElem?_map] at hx
        cases e : ns[i]? with
        | none => rw [e] at hx; cases hx
        | some c => rw [e] at hx; exact ⟨c, rfl, (Option.some.inj hx).symm⟩
      walk_at "rd"
      refine r_mulW (wide_mul (a := 61) (b := 33) (nat61 h0 h1) (by decide) (by decide) (by decide) (by decide)) ?_
      walk_at "rd"
      exact ⟨_, _, rfl, (mix_next (z := z) _).1, (mix_next (z := z) _).2, rfl⟩
    · obtain ⟨z, y, rfl, h0, h1, rfl⟩ := hP
      walk_at "rd"
      exact r_small (Nat.le_of_ble_eq_true rfl) fun p hp => q p _ (Same.new (Same.refl _) hp) hp ⟨z, upd_same, h0, h1⟩
theorem ok_law_draw (T : Txt K mg) : FnOk P w K mg base CX0 1 T.a_law_draw T.d_law_draw ["_law_state", "_law_many"] spDraw := by
  refine T.F_law_draw.ok sc_law_draw (fun vs H Q E h => ?_) (fun cdv A outer s H vs Q E hr h => ?_)
  · obtain ⟨a, n, rfl, _⟩ := h
    rfl
  · obtain ⟨a, n, rfl, ⟨z, hz, z0, z1⟩, hn, q⟩ := h
    refine ⟨_, (pss_cons (ps_asg (pe_op op_modP (pe_op op_addU (pe_op op_mulWW (pe_callTy call_intU (by rfl) T.n_int (by decide +kernel) (pa_cons (pe_ix ix_seq (pv 0) pe_int (fun _ _ => rfl)) pa_nil)) pe_int) pe_int) pe_int) (pg_sub (pv 0) pe_int set_list))
        (pss_one (ps_ret (pe_op op_modP (pe_op op_divW (pe_callTy call_intU (by rfl) T.n_int (by decide +kernel) (pa_cons (pe_ix ix_seq (pv 0) pe_int (fun _ _ => rfl)) pa_nil)) pe_int) (pv 1))))), ?_⟩
    walk_at "rd"
    refine r_ixL (sqL hz) (atI_nat (j := 0) rfl) ?_
    walk_at "rd"
    refine r_mulW (wide_mul (a := 61) (b := 39) (nat61 z0 z1) (by decide) (by decide) (by decide) (by decide)) ?_
    walk_at "rd"
    refine r_setL hz (n := 0) rfl ?_
    walk_at "rd"
    refine r_ixL (sqL upd_same) (atI_nat (j := 0) rfl) ?_
    walk_at "rd"
    refine r_divW (wide_div (b := 17) (by decide) (by decide) (by decide) (by decide)) ?_
    walk_at "rd"
    refine r_modP hn ?_
    exact q _ _ (Int.emod_nonneg _ (by omega)) (Int.emod_lt_of_pos _ hn) (Dr.set (mix_next (z := z) _).1 (mix_next (z := z) _).2)
theorem ok_law_signs (T : Txt K mg) : FnOk P w K mg base CX0 1 T.a_law_signs T.d_law_signs [] spSigns := by
  refine T.F_law_signs.ok sc_law_signs (fun vs H Q E h => ?_) (fun cdv A outer s H vs Q E hr h => ?_)
  · rw [h.1] <;> rfl
  · obtain ⟨rfl, q⟩ := h
    refine ⟨_, (pss_cons (ps_set (i := 0) sc_law_signs.nd rfl (Or.inl rfl) pe_str)
        (pss_one (ps_ret (pe_op op_addU (pv 0) pe_str)))), ?_⟩
    walk_at "rd"
    refine r_addS (by decide +kernel) ?_
    exact q
theorem len1 (c : Nat) : (⟨#[c]⟩ : Str).length = 1 := rfl
theorem al_at {i : Int} (h0 : 0 ≤ i) (h : i < 95) : ∃ c, atI AL.cps.toList i = some c ∧ c ∈ cs AL := by
  have hl : (cs AL).length = 95 := by rw [cs_len]; exact AL_len
  have hi : i.toNat < (cs AL).length := by omega
  exact ⟨(cs AL)[i.toNat], at_g (by omega) (List.getElem?_eq_getElem hi), List.getElem_mem _⟩
theorem ok_law_text (T : Txt K mg) : FnOk P w K mg base CX0 2 T.a_law_text T.d_law_text ["_law_state", "_law_size"] spText := by
  refine T.F_law_text.ok sc_law_text (fun vs H Q E h => ?_) (fun cdv A outer s H vs Q E hr h => ?_)
  · obtain ⟨a, n, rfl, _⟩ := h
    rfl
  · obtain ⟨a, n, rfl, hs, n0, n1, q⟩ := h
    refine ⟨_, (pss_cons (ps_set (i := 2) sc_law_text.nd rfl (Or.inl rfl) (pe_call0 (ok_law_signs T) hr (by rfl) T.g_law_signs T.F_law_signs.kp T.b_law_signs .nil pass0))
        (pss_cons (ps_set (i := 3) sc_law_text.nd rfl (Or.inl rfl) (pe_lst (pa_cons pe_str (pa_cons pe_str (pa_cons pe_str (pa_cons pe_str (pa_cons (pe_ix ix_seq (pv 2) (pe_call (ok_law_draw T) hr (by rfl) T.g_law_draw T.F_law_draw.kp T.b_law_draw .nil pass0 (pa_cons (pv 0) (pa_cons pe_int pa_nil))) (fun _ _ => rfl)) pa_nil)))))))
        (pss_cons (ps_set (i := 4) sc_law_text.nd rfl (Or.inl rfl) (pe_lst pa_nil))
        (pss_cons (ps_for PassesOwn.never rfl (pi_range1 (by rfl) T.n_range (pa_cons (pv 1) pa_nil)) (pg_name (i := 5) sc_law_text.nd rfl (Or.inl rfl)) (pss_cons (ps_set (i := 6) sc_law_text.nd rfl (Or.inl rfl) (pe_call (ok_law_draw T) hr (by rfl) T.g_law_draw T.F_law_draw.kp T.b_law_draw .nil pass0 (pa_cons (pv 0) (pa_cons pe_int pa_nil))))
        (pss_one (ps_if (pt_cmpR op_lt (pv 6) pe_int (nomark _)) (pss_one (ps_expr (pe_bm PySem.F.plainAttrs_list PySem.F.slot_list_append PySem.F.type_list_append mt_append (pv 4) (pa_cons (pe_ix ix_seq (pv 3) (pv 6) (fun _ _ => rfl)) pa_nil)))) (pss_one (ps_expr (pe_bm PySem.F.plainAttrs_list PySem.F.slot_list_append PySem.F.type_list_append mt_append (pv 4) (pa_cons (pe_ix ix_seq (pv 2) (pe_call (ok_law_draw T) hr (by rfl) T.g_law_draw T.F_law_draw.kp T.b_law_draw .nil pass0 (pa_cons (pv 0) (pa_cons pe_int pa_nil))) (fun _ _ => rfl)) pa_nil))))))))
        (pss_one (ps_ret (pe_join pe_str (pv 4)))))))), ?_⟩
    walk_at "rd"
    refine ⟨rfl, ?_⟩
    walk_at "rd"
    refine ⟨a, 95, rfl, hs, by decide, fun d H1 d0 d1 D1 => ?_⟩
    walk_at "rd"
    obtain ⟨c, hc, hcA⟩ := al_at d0 d1
    refine r_ixS (by rw [AL_len]; decide) hc ?_
    walk_at "rd"
    refine r_small (Nat.le_of_ble_eq_true rfl) fun f hf => ?_
    walk_at "rd"
    refine r_small (Nat.le_of_ble_eq_true rfl) fun m hm => ?_
    walk_at "rd"
    have D2 := D1.new (o := .lst [.str "\n", .str " ", .str "a", .str "b", .str ⟨#[c]⟩]) hf
    have hfa : f ≠ a := D1.st.ne hf
    have hma : m ≠ a := D2.st.ne hm
    have hmf : m ≠ f := fun z => by rw [z, upd_same] at hm; cases hm
    have hf0 : H f = none := by
      cases e : H f with
      | none => rfl
      | some o => rw [D1.hh f o hfa e] at hf; cases hf
    have hm0 : H m = none := by
      cases e : H m with
      | none => rfl
      | some o => rw [D2.hh m o hma e] at hm; cases hm
    have few : ∀ i : Int, 0 ≤ i → i < 5 → ∃ x, atI [V.str "\n", .str " ", .str "a", .str "b", .str ⟨#[c]⟩] i = some (.str x) ∧ x.length = 1 ∧ InAL x := by
      intro i h0 h5
      have key : ∀ k : Nat, k < 5 → ∃ x, [V.str "\n", .str " ", .str "a", .str "b", .str ⟨#[c]⟩][k]? = some (.str x) ∧ x.length = 1 ∧ InAL x := by
        intro k hk
        match k, hk with
        | 0, _ => exact ⟨_, rfl, rfl, by unfold InAL; decide +kernel⟩
        | 1, _ => exact ⟨_, rfl, rfl, by unfold InAL; decide +kernel⟩
        | 2, _ => exact ⟨_, rfl, rfl, by unfold InAL; decide +kernel⟩
        | 3, _ => exact ⟨_, rfl, rfl, by unfold InAL; decide +kernel⟩
        | 4, _ => exact ⟨_, rfl, rfl, fun d hd => by
            have e : d = c := by simpa [cs] using hd
            rw [e]
            exact hcA⟩
      obtain ⟨x, e, h1, h2⟩ := key i.toNat (by omega)
      exact ⟨x, at_of (z := i) (j := i.toNat) (by omega) e, h1, h2⟩
    refine r_forR1 ?_ (fun Q Q' h t => by
      obtain ⟨v, e, q⟩ := t
      exact ⟨v, e, h _ _ q⟩)
    walk_at "rd"
    refine ⟨n, rfl, by omega, by omega, fun i σ H' => ∃ y1 y2 ps, σ = [some (.ref a), some (.int n), some (.str AL), some (.ref f), some (.ref m), y1, y2] ∧ Dr a H H' ∧
      H' f = some (.lst [.str "\n", .str " ", .str "a", .str "b", .str ⟨#[c]⟩]) ∧ H' m = some (.lst (ps.map V.str)) ∧ ps.length = i ∧ (∀ y ∈ ps, y.length ≤ 1) ∧ (∀ y ∈ ps, y.length = 1) ∧ ∀ y ∈ ps, InAL y,
      ⟨none, none, [], rfl, (D1.new hf).new hm, by rw [upd_ne (Ne.symm hmf)]; exact upd_same, upd_same, rfl, by simp, by simp, by simp⟩, fun i σ H' hi hP => ?_, fun σ H' hP => ?_⟩
    · obtain ⟨y1, y2, ps, rfl, D, gf, gm, hl, hy, hy1, hA⟩ := hP
      have put : ∀ (x : Str) (H2 : Hp) (y : Option V), Dr a H H2 → H2 f = some (.lst [.str "\n", .str " ", .str "a", .str "b", .str ⟨#[c]⟩]) → x.length = 1 → InAL x →
          ∃ (y1 y2 : Option V) (ps' : List Str), [some (.ref a), some (.int n), some (.str AL), some (.ref f), some (.ref m), some (.int (i : Nat)), y] = [some (.ref a), some (.int n), some (.str AL), some (.ref f), some (.ref m), y1, y2] ∧ Dr a H (upd H2 m (.lst (ps.map V.str ++ [.str x]))) ∧
          (upd H2 m (.lst (ps.map V.str ++ [.str x]))) f = some (.lst [.str "\n", .str " ", .str "a", .str "b", .str ⟨#[c]⟩]) ∧ (upd H2 m (.lst (ps.map V.str ++ [.str x]))) m = some (.lst (ps'.map V.str)) ∧ ps'.length = i + 1 ∧ (∀ y ∈ ps', y.length ≤ 1) ∧ (∀ y ∈ ps', y.length = 1) ∧ ∀ y ∈ ps', InAL y := by
        intro x H2 y D2 gf2 h1 h2
        refine ⟨_, _, ps ++ [x], rfl, D2.mut hm0 hma, by rw [upd_ne (Ne.symm hmf)]; exact gf2, by rw [upd_same, List.map_append]; rfl, by rw [List.length_append, hl]; rfl, fun z hz => ?_, fun z hz => ?_, fun z hz => ?_⟩
        · rcases List.mem_append.mp hz with h | h
          · exact hy z h
          · rw [List.mem_singleton.mp h]; omega
        · rcases List.mem_append.mp hz with h | h
          · exact hy1 z h
          · rw [List.mem_singleton.mp h]; exact h1
        · rcases List.mem_append.mp hz with h | h
          · exact hA z h
          · rw [List.mem_singleton.mp h]; exact h2
      have hz : (ps.map V.str).length < sizeLine := by
        rw [List.length_map]
        exact Nat.lt_trans (show ps.length < 8001 by omega) (by decide)
      walk_at "rd"
      refine ⟨a, 8, rfl, D.st, by decide, fun d H2 d0 d1 D3 => ?_⟩
      have gf2 := D3.hh _ _ hfa gf
      have gm2 := D3.hh _ _ hma gm
      walk_at "rd"
      refine r_ite (fun h5 => ?_) (fun h5 => ?_)
      · obtain ⟨x, hx, h1, h2⟩ := few d d0 h5
        walk_at "rd"
        refine r_tyL (sqL gm2) ?_
        walk_at "rd"
        refine r_ixL (sqL gf2) hx ?_
        walk_at "rd"
        refine r_app gm2 hz ?_
        walk_at "rd"
        exact put x H2 _ (D.trans D3) gf2 h1 h2
      · walk_at "rd"
        refine r_tyL (sqL gm2) ?_
        walk_at "rd"
        refine ⟨a, 95, rfl, D3.st, by decide, fun d' H3 e0 e1 D4 => ?_⟩
        walk_at "rd"
        obtain ⟨c', hc', hcA'⟩ := al_at e0 e1
        refine r_ixS (by rw [AL_len]; decide) hc' ?_
        walk_at "rd"
        refine r_app (D4.hh _ _ hma gm2) hz ?_
        walk_at "rd"
        exact put _ H3 _ ((D.trans D3).trans D4) (D4.hh _ _ hfa gf2) rfl (fun z hz => by
          have e : z = c' := by simpa [cs] using hz
          rw [e]
          exact hcA')
    · obtain ⟨y1, y2, ps, rfl, D, gf, gm, hl, hy, hy1, hA⟩ := hP
      walk_at "rd"
      have hsum := sum_le (B := 1) hy
      refine ⟨⟨_, rfl⟩, _, rfl, "", m, ps, rfl, rfl, .inl (sqL gm), ?_, ?_⟩
      · have h5 : ("" : Str).length = 0 := rfl
        rw [h5, Nat.mul_zero, Nat.add_zero]
        omega
      · refine q _ _ D ?_ (fun d hd => ?_)
        · rw [← cs_len, cs_join, List.length_flatten]
          have e : ((ps.map cs).map List.length) = ps.map fun _ => 1 := by
            rw [List.map_map]
            exact List.map_congr_left fun y hy => by
              show (cs y).length = 1
              rw [cs_len]
              exact hy1 y hy
          rw [e, sum_ones]
          omega
        · rw [cs_join, List.mem_flatten] at hd
          obtain ⟨l, hl, hd⟩ := hd
          obtain ⟨y, hy', rfl⟩ := List.mem_map.mp hl
          exact hA y hy' d hd
end
end K14
namespace K14
open PySem PySem.Spec PyProof.Rows L2 Dk
/-- one step of a reading -/
local macro_rules | `(tactic| walk_at "rd1") => `(tactic| first
  | ((with_reducible refine r_var (v := ?rv) ?rh ?_); (case rh => rfl))
  | with_reducible refine r_c ?_
  | with_reducible refine r_seq ?_
  | with_reducible refine r_asg ?_
  | with_reducible refine r_gname ?_
  | with_reducible refine r_op ?_
  | with_reducible refine r_xfo ?_
  | with_reducible refine r_noP ?_
  | with_reducible refine r_part ?_
  | with_reducible refine r_pI ?_
  | with_reducible refine r_gcons ?_
  | with_reducible refine r_gnil ?_
  | with_reducible refine r_mkO ?_
  | with_reducible refine r_un ?_
  | with_reducible refine r_addI ?_
  | with_reducible refine r_I0 ?_
  | with_reducible refine r_U ?_
  | with_reducible refine r_cons ?_
  | with_reducible refine r_nil ?_
  | with_reducible refine r_CB ?_
  | with_reducible refine r_call ?_
  | with_reducible refine r_callS ?_
  | with_reducible refine r_int ?_
  | with_reducible refine r_max ?_
  | with_reducible refine r_min ?_
  | with_reducible refine r_test ?_
  | with_reducible refine r_B ?_
  | with_reducible refine r_blv ?_
  | with_reducible refine r_and ?_
  | with_reducible refine r_or ?_
  | with_reducible refine r_not ?_
  | with_reducible refine r_andV ?_
  | with_reducible refine r_orV ?_
  | with_reducible refine r_notV ?_
  | with_reducible refine r_ifE ?_
  | with_reducible refine r_ifS ?_
  | with_reducible refine r_ret ?_
  | with_reducible refine r_retN ?_
  | with_reducible refine r_drop ?_
  | with_reducible refine r_next ?_
  | with_reducible refine r_sl ?_
  | with_reducible refine r_gsub ?_
  | with_reducible refine r_bm ?_
  | with_reducible refine r_tup ?_
  | with_reducible refine r_lst ?_
  | with_reducible refine r_isN ?_
  | with_reducible refine r_notN ?_
  | with_reducible refine r_itt ?_
  | with_reducible refine r_iff ?_
  | with_reducible refine r_ittN ?_
  | with_reducible refine r_iffN ?_
  | ((with_reducible refine r_ittD ?rh ?_); (case rh => rfl))
  | ((with_reducible refine r_iffD ?rh ?_); (case rh => rfl))
  | ((with_reducible refine r_modP ?rh ?_); (case rh => decide))
  | ((with_reducible refine r_eq ?rh ?_); (case rh => rfl))
  | ((with_reducible refine r_ne ?rh ?_); (case rh => rfl)))
local macro_rules | `(tactic| walk_at "rd") => `(tactic| repeat walk_at "rd1")
local macro_rules | `(tactic| walk_at "isi") => `(tactic| first | refine r_isi (b := true) (by assumption) (by decide +kernel) ?_ | refine r_isi (b := false) (by assumption) (by decide +kernel) ?_)
local macro_rules | `(tactic| walk_at "rs1") => `(tactic| first
  | with_reducible refine r_seq ?_
  | with_reducible refine r_asg ?_
  | with_reducible refine r_gname ?_
  | with_reducible refine r_ret ?_)
local macro_rules | `(tactic| walk_at "rs") => `(tactic| repeat walk_at "rs1")

section
variable {P : Program} {w : World} {K : PySem.W.Frag} {mg : Str → Option Value} {base : Heap}
/-! ### the law's own checks -/
theorem ok_law_is_number (T : Txt K mg) : FnOk P w K mg base CX0 1 T.a_law_is_number T.d_law_is_number ["_law_thing"] (spV numV) := by
  refine T.F_law_is_number.ok sc_law_is_number (fun vs H Q E h => ?_) (fun cdv A outer s H vs Q E hr h => ?_)
  · obtain ⟨v, rfl, _⟩ := h
    rfl
  · obtain ⟨v, rfl, ⟨n, o⟩, q⟩ := h
    refine ⟨_, (pss_one (ps_ret (pe_and (pe_callB call_isi (by rfl) T.n_isinstance (by decide +kernel) (pa_cons (pv 0) (pa_cons (pe_bltn (v := .ty "int") (by rfl) T.n_int (by decide +kernel) rfl) pa_nil))) (pe_and (pe_not (pe_callB call_isi (by rfl) T.n_isinstance (by decide +kernel) (pa_cons (pv 0) (pa_cons (pe_bltn (v := .ty "bool") (by rfl) T.n_bool (by decide +kernel) rfl) pa_nil)))) (pe_one (pe_cmpR op_ge (pv 0) pe_int (nomark _))))))), ?_⟩
    have ty := o.ty (K := K)
    cases o <;> (walk_at "rd"; walk_at "isi"; walk_at "rd"; try (walk_at "isi"; walk_at "rd")) <;> exact q H (Same.refl H)
theorem ok_law_is_text (T : Txt K mg) : FnOk P w K mg base CX0 2 T.a_law_is_text T.d_law_is_text ["_law_thing"] (spV txtV) := by
  refine T.F_law_is_text.ok sc_law_is_text (fun vs H Q E h => ?_) (fun cdv A outer s H vs Q E hr h => ?_)
  · obtain ⟨v, rfl, _⟩ := h
    rfl
  · obtain ⟨v, rfl, ⟨n, o⟩, q⟩ := h
    refine ⟨_, (pss_cons (ps_if (pt_not (pt_val (pe_callB call_isi (by rfl) T.n_isinstance (by decide +kernel) (pa_cons (pv 0) (pa_cons (pe_bltn (v := .ty "str") (by rfl) T.n_str (by decide +kernel) rfl) pa_nil))))) (pss_one (ps_ret pe_bl)) pss_nil)
        (pss_cons (ps_set (i := 1) sc_law_is_text.nd rfl (Or.inr rfl) (pe_call0 (ok_law_signs T) hr (by rfl) T.g_law_signs T.F_law_signs.kp T.b_law_signs .nil pass0))
        (pss_one (ps_ret (pe_cmpR (op_eqU hr.units) (pe_callB call_lenU (by rfl) T.n_len (by decide +kernel) (pa_cons (pe_lc (own := [("_law_c", 2)]) (g := gName 2) rfl sc_law_is_text.nd (pi_str (pv 0)) (blkOk_by (N := N_law_is_text) (sc := defScope s_law_is_text) (by decide +kernel)) (fun _ _ _ _ _ => pg_name (i := 2) sc_law_is_text.nd rfl (Or.inl rfl)) (fun _ _ _ _ _ => (pts_one (pt_cmpR (k_notIn (K := K) rfl) (pv 2) (pv 1) (by rfl)))) (fun _ _ _ _ _ => (pv 2))) pa_nil)) pe_int (nomark _)))))), ?_⟩
    have ty := o.ty (K := K)
    cases o <;> (walk_at "rd"; walk_at "isi"; walk_at "rd")
    case str z hz =>
      refine ⟨rfl, ?_⟩
      walk_at "rd"
      refine ⟨_, rfl, z, rfl, fun m hm => ?_⟩
      refine lc_it walk_str (fun i H' => Ex H H' ∧ ∃ acc, H' m = some (.lst acc) ∧ acc.length ≤ i ∧ (acc = [] ↔ ∀ c ∈ (cs z).take i, c ∈ cs AL)) ⟨Same.new (Same.refl H) hm, [], upd_same, Nat.le_refl _, by simp⟩ (fun _ _ _ _ => trivial) (fun i x H1 H2 hi hP hY => ?_) (fun H1 hP => ?_)
      · obtain ⟨rfl, c, hc, rfl⟩ := hY
        obtain ⟨e, acc, ha, hl, hacc⟩ := hP
        have hcz : (cs z)[i]? = some c := by rw [Array.getElem?_toList]; exact hc
        walk_at "rd"
        refine ⟨rfl, ?_⟩
        walk_at "rd"
        refine r_niS ?_
        walk_at "rd"
        refine r_iteN (fun hn => ?_) (fun hn => ?_)
        · walk_at "rd"
          refine ⟨acc, ha, Nat.lt_of_le_of_lt hl (Nat.lt_of_lt_of_le hi (Nat.le_trans hz (by decide))), Same.mut e hm, acc ++ [.str ⟨#[c]⟩], upd_same, by rw [List.length_append]; simp; exact hl, ?_⟩
          constructor
          · intro z
            simp at z
          · intro h
            exfalso
            refine hn (h c ?_)
            rw [List.take_add_one, hcz]
            simp
        · refine ⟨e, acc, ha, by omega, ?_⟩
          rw [hacc]
          constructor
          · intro h d hd
            rw [List.take_add_one, hcz] at hd
            rcases List.mem_append.mp hd with h1 | h1
            · exact h d h1
            · have z' : d = c := by simpa using h1
              rw [z']
              exact hn
          · intro h d hd
            refine h d ?_
            rw [List.take_add_one]
            exact List.mem_append_left _ hd
      · obtain ⟨e, acc, ha, hl, hacc⟩ := hP
        walk_at "rd"
        refine r_lenL (sqL ha) ?_
        walk_at "rd"
        have e2 : decide (V.int (acc.length : Nat) = V.int 0) = txtV (.str z) := by
          show _ = isTx z
          rw [Bool.eq_iff_iff, decide_eq_true_iff]
          have e3 : z.cps.size = (cs z).length := Array.length_toList.symm
          rw [e3, List.take_length] at hacc
          constructor
          · intro h
            have h1 := V.int.inj h
            have h2 : acc = [] := List.length_eq_zero_iff.mp (by omega)
            exact List.all_eq_true.mpr fun d hd => decide_eq_true (hacc.mp h2 d hd)
          · intro h
            have h2 : acc = [] := hacc.mpr fun d hd => of_decide_eq_true (List.all_eq_true.mp h d hd)
            rw [h2] <;> rfl
        rw [e2]
        exact q _ e
    all_goals exact q H (Same.refl H)
theorem ok_law_is_splice (T : Txt K mg) : FnOk P w K mg base CX0 3 T.a_law_is_splice T.d_law_is_splice ["_law_thing"] spS := by
  refine T.F_law_is_splice.ok sc_law_is_splice (fun vs H Q E h => ?_) (fun cdv A outer s H vs Q E hr h => ?_)
  · obtain ⟨v, rfl, _⟩ := h
    rfl
  · obtain ⟨v, rfl, ⟨⟨n, o⟩, hx⟩, q⟩ := h
    refine ⟨_, (pss_cons (ps_if (PW.pt (pw_or (pt_not (pt_val (pe_callB call_isi (by rfl) T.n_isinstance (by decide +kernel) (pa_cons (pv 0) (pa_cons (pe_bltn (v := .ty "tuple") (by rfl) T.n_tuple (by decide +kernel) rfl) pa_nil))))) (pw_or1 (pt_cmpR (op_neU hr.units) (pe_callB call_lenU (by rfl) T.n_len (by decide +kernel) (pa_cons (pv 0) pa_nil)) pe_int (nomark _))))) (pss_one (ps_ret pe_bl)) pss_nil)
        (pss_cons (ps_if (PW.pt (pw_or (pt_not (pt_val (pe_call (ok_law_is_number T) (hr.mono (by decide)) (by rfl) T.g_law_is_number T.F_law_is_number.kp T.b_law_is_number .nil pass0 (pa_cons (pe_ix ix_seq (pv 0) pe_int (fun _ _ => rfl)) pa_nil)))) (pw_or (pt_not (pt_val (pe_call (ok_law_is_number T) (hr.mono (by decide)) (by rfl) T.g_law_is_number T.F_law_is_number.kp T.b_law_is_number .nil pass0 (pa_cons (pe_ix ix_seq (pv 0) pe_int (fun _ _ => rfl)) pa_nil)))) (pw_or1 (pt_not (pt_val (pe_call (ok_law_is_text T) hr (by rfl) T.g_law_is_text T.F_law_is_text.kp T.b_law_is_text .nil pass0 (pa_cons (pe_ix ix_seq (pv 0) pe_int (fun _ _ => rfl)) pa_nil)))))))) (pss_one (ps_ret pe_bl)) pss_nil)
        (pss_one (ps_ret (pe_or (pe_cmpR op_gt (pe_ix ix_seq (pv 0) pe_int (fun _ _ => rfl)) pe_int (nomark _)) (pe_one (pe_cmpR (op_neU hr.units) (pe_ix ix_seq (pv 0) pe_int (fun _ _ => rfl)) pe_str (nomark _)))))))), ?_⟩
    have ty := o.ty (K := K)
    cases o <;> (walk_at "rd"; walk_at "isi"; walk_at "rd")
    case tup a xs h =>
      refine r_lenT (sqT h) ?_
      walk_at "rd"
      refine r_iteN (fun h3 => ?_) (fun h3 => ?_)
      · walk_at "rd"
        have q1 := q H (Same.refl H)
        rw [sp3_tupn h (fun z => h3 (by rw [z]; rfl))] at q1
        exact q1
      · have hl : xs.length = 3 := by
          have z := V.int.inj h3
          omega
        match xs, hl, h, hx with
        | [x, y, z], _, h, hx =>
          obtain ⟨_, hx⟩ := hx _ _ rfl h
          have key := sp3_tup h
          walk_at "rd"
          refine r_ixT (sqT h) (atI_nat (j := 0) rfl) ?_
          walk_at "rd"
          refine ⟨x, rfl, hx x (by simp), fun H1 e1 => ?_⟩
          walk_at "rd"
          cases b1 : numV x with
          | false =>
            walk_at "rd"
            have q1 := q _ e1
            rw [key, b1] at q1
            exact q1
          | true =>
            walk_at "rd"
            refine r_ixT (sqT (e1 _ _ h)) (atI_nat (j := 1) rfl) ?_
            walk_at "rd"
            refine ⟨y, rfl, (hx y (by simp)).up e1, fun H2 e2 => ?_⟩
            walk_at "rd"
            cases b2 : numV y with
            | false =>
              walk_at "rd"
              have q1 := q _ (e1.trans e2)
              rw [key, b1, b2] at q1
              exact q1
            | true =>
              walk_at "rd"
              refine r_ixT (sqT ((e1.trans e2) _ _ h)) (atI_nat (j := 2) rfl) ?_
              walk_at "rd"
              refine ⟨z, rfl, ((hx z (by simp)).up e1).up e2, fun H3 e3 => ?_⟩
              have e : Ex H H3 := (e1.trans e2).trans e3
              walk_at "rd"
              cases b3 : txtV z with
              | false =>
                walk_at "rd"
                have q1 := q _ e
                rw [key, b1, b2, b3] at q1
                exact q1
              | true =>
                walk_at "rd"
                refine r_ixT (sqT (e _ _ h)) (atI_nat (j := 1) rfl) ?_
                rw [b1, b2, b3, Bool.true_and, Bool.true_and, Bool.true_and] at key
                cases y <;> try (cases b2; done)
                cases z <;> try (cases b3; done)
                walk_at "rd"
                refine r_ite (fun hc => ?_) (fun hc => ?_)
                · have q1 := q _ e
                  rw [key] at q1
                  simp only [gtV, decide_eq_true hc, Bool.true_or] at q1
                  exact q1
                · walk_at "rd"
                  refine r_ixT (sqT (e _ _ h)) (atI_nat (j := 2) rfl) ?_
                  walk_at "rd"
                  have q1 := q _ e
                  rw [key] at q1
                  simp only [gtV, decide_eq_false hc, Bool.false_or] at q1
                  exact q1
    all_goals
      have q1 := q H (Same.refl H)
    case lst a xs h =>
      have e0 : sp3 H (.ref a) = none := by
        show sp3o (H a) = none
        rw [h] <;> rfl
      rw [e0] at q1
      exact q1
    case dK a xs h =>
      have e0 : sp3 H (.ref a) = none := by
        show sp3o (H a) = none
        rw [h] <;> rfl
      rw [e0] at q1
      exact q1
    all_goals exact q1
def optV : Option Int → V
  | none => .non
  | some k => .int k
def spJ : Sp := fun vs H Q _ => ∃ (n : Int) (a : Addr) (xs : List V), vs = [.int n, .ref a] ∧ H a = some (.lst xs) ∧ Rw H xs ∧ ∀ H', Ex H H' → Q (optV (judge n (sps H xs))) H'
theorem ok_law_judged (T : Txt K mg) : FnOk P w K mg base CX0 4 T.a_law_judged T.d_law_judged ["_law_size", "_law_row"] spJ := by
  refine T.F_law_judged.ok sc_law_judged (fun vs H Q E h => ?_) (fun cdv A outer s H vs Q E hr h => ?_)
  · obtain ⟨n, a, xs, rfl, _⟩ := h
    rfl
  · obtain ⟨n, a, xs, rfl, ha, rw0, q⟩ := h
    refine ⟨_, (pss_cons (ps_if (pt_cmpR (op_eqU hr.units) (pe_callB call_lenU (by rfl) T.n_len (by decide +kernel) (pa_cons (pv 1) pa_nil)) pe_int (nomark _)) (pss_one (ps_ret (pe_un un_neg pe_int))) pss_nil)
        (pss_cons (ps_set (i := 2) sc_law_judged.nd rfl (Or.inl rfl) (pe_un un_neg pe_int))
        (pss_cons (ps_set (i := 3) sc_law_judged.nd rfl (Or.inl rfl) pe_int)
        (pss_cons (ps_for PassesOwn.never rfl (pi_range1 (by rfl) T.n_range (pa_cons (pe_callB call_lenU (by rfl) T.n_len (by decide +kernel) (pa_cons (pv 1) pa_nil)) pa_nil)) (pg_name (i := 4) sc_law_judged.nd rfl (Or.inl rfl)) (pss_cons (ps_if (pt_not (pt_val (pe_call (ok_law_is_splice T) hr (by rfl) T.g_law_is_splice T.F_law_is_splice.kp T.b_law_is_splice .nil pass0 (pa_cons (pe_ix ix_seq (pv 1) (pv 4) (fun _ _ => rfl)) pa_nil)))) (pss_one (ps_ret (pv 4))) pss_nil)
        (pss_cons (ps_if (PW.pt (pw_or (pt_cmpR op_le (pe_ix ix_seq (pe_ix ix_seq (pv 1) (pv 4) (fun _ _ => rfl)) pe_int (fun _ _ => rfl)) (pv 2) (nomark _)) (pw_or (pt_cmpR op_lt (pe_ix ix_seq (pe_ix ix_seq (pv 1) (pv 4) (fun _ _ => rfl)) pe_int (fun _ _ => rfl)) (pv 3) (nomark _)) (pw_or1 (pt_cmpR op_gt (pe_op op_addU (pe_ix ix_seq (pe_ix ix_seq (pv 1) (pv 4) (fun _ _ => rfl)) pe_int (fun _ _ => rfl)) (pe_ix ix_seq (pe_ix ix_seq (pv 1) (pv 4) (fun _ _ => rfl)) pe_int (fun _ _ => rfl))) (pv 0) (nomark _)))))) (pss_one (ps_ret (pv 4))) pss_nil)
        (pss_cons (ps_set (i := 2) sc_law_judged.nd rfl (Or.inl rfl) (pe_ix ix_seq (pe_ix ix_seq (pv 1) (pv 4) (fun _ _ => rfl)) pe_int (fun _ _ => rfl)))
        (pss_one (ps_set (i := 3) sc_law_judged.nd rfl (Or.inl rfl) (pe_op op_addU (pe_ix ix_seq (pe_ix ix_seq (pv 1) (pv 4) (fun _ _ => rfl)) pe_int (fun _ _ => rfl)) (pe_ix ix_seq (pe_ix ix_seq (pv 1) (pv 4) (fun _ _ => rfl)) pe_int (fun _ _ => rfl)))))))))
        (pss_one (ps_ret pe_non)))))), ?_⟩
    walk_at "rd"
    refine r_lenL (sqL ha) ?_
    walk_at "rd"
    refine r_ite (fun h0 => ?_) (fun h0 => ?_)
    · have hx : xs = [] := by
        have z := V.int.inj h0
        exact List.length_eq_zero_iff.mp (by omega)
      walk_at "rd"
      have q1 := q H (Same.refl H)
      rw [show judge n (sps H xs) = some (-1) by rw [hx]; rfl] at q1
      exact q1
    · have hx : xs ≠ [] := fun z => h0 (by rw [z]; rfl)
      have hj : judge n (sps H xs) = jd n (-1) 0 0 (sps H xs) := by
        unfold judge
        rw [if_neg (by simp [sps, hx])]
      walk_at "rd"
      refine r_forR1 ?_ (fun Q Q' h t => by
        obtain ⟨v, e, x, n, e1, e2, q⟩ := t
        exact ⟨v, e, x, n, e1, e2, h _ _ q⟩)
      walk_at "rd"
      refine r_lenL (sqL ha) ?_
      walk_at "rd"
      refine ⟨xs.length, rfl, by have := rw0.len; omega, by have := rw0.len; omega, fun i σ H' => ∃ y fl ed, σ = [some (.int n), some (.ref a), some (.int fl), some (.int ed), y] ∧ Ex H H' ∧ jd n (-1) 0 0 (sps H xs) = jd n fl ed i ((sps H xs).drop i), ⟨none, -1, 0, rfl, Same.refl H, rfl⟩, fun i σ H' hi hP => ?_, fun σ H' hP => ?_⟩
      · obtain ⟨y, fl, ed, rfl, e, hjd⟩ := hP
        have hil : i < xs.length := by omega
        have hx' : xs[i]? = some xs[i] := List.getElem?_eq_getElem hil
        have hT : Thg H xs[i] := rw0.thg _ (List.getElem_mem hil)
        have hs : (sps H xs)[i]? = some (sp3 H xs[i]) := by
          rw [List.getElem?_map, hx']
          rfl
        walk_at "rd"
        refine r_ixL (sqL (e _ _ ha)) (atI_nat hx') ?_
        walk_at "rd"
        refine ⟨_, rfl, hT.up e, fun H2 e3 => ?_⟩
        have e4 := e.trans e3
        rw [sp3_up e hT]
        walk_at "rd"
        cases hsp : sp3 H xs[i] with
        | none =>
          rw [hsp] at hs
          walk_at "rd"
          have q1 := q _ e4
          rw [hj, hjd, jd_none hs] at q1
          exact q1
        | some abc =>
          obtain ⟨b, c, t⟩ := abc
          rw [hsp] at hs
          obtain ⟨p2, hp1, hp2, b0, c0, _⟩ := sp3_shape hsp
          rw [hp1] at hx'
          have bad : (b ≤ fl ∨ b < ed ∨ b + c > n) → Q (.int (i : Nat)) H2 := fun hb => by
            have q1 := q _ e4
            rw [hj, hjd, jd_bad hs hb] at q1
            exact q1
          walk_at "rd"
          refine r_ixL (sqL (e4 _ _ ha)) (atI_nat hx') ?_
          walk_at "rd"
          refine r_ixT (sqT (e4 _ _ hp2)) (atI_nat (j := 0) rfl) ?_
          walk_at "rd"
          refine r_ite (fun hb => ?_) (fun hb => ?_)
          · walk_at "rd"
            exact bad (.inl hb)
          walk_at "rd"
          refine r_ixL (sqL (e4 _ _ ha)) (atI_nat hx') ?_
          walk_at "rd"
          refine r_ixT (sqT (e4 _ _ hp2)) (atI_nat (j := 0) rfl) ?_
          walk_at "rd"
          refine r_ite (fun hb2 => ?_) (fun hb2 => ?_)
          · walk_at "rd"
            exact bad (.inr (.inl hb2))
          walk_at "rd"
          refine r_ixL (sqL (e4 _ _ ha)) (atI_nat hx') ?_
          walk_at "rd"
          refine r_ixT (sqT (e4 _ _ hp2)) (atI_nat (j := 0) rfl) ?_
          walk_at "rd"
          refine r_ixL (sqL (e4 _ _ ha)) (atI_nat hx') ?_
          walk_at "rd"
          refine r_ixT (sqT (e4 _ _ hp2)) (atI_nat (j := 1) rfl) ?_
          walk_at "rd"
          refine r_ite (fun hb3 => ?_) (fun hb3 => ?_)
          · walk_at "rd"
            exact bad (.inr (.inr hb3))
          walk_at "rd"
          refine r_ixL (sqL (e4 _ _ ha)) (atI_nat hx') ?_
          walk_at "rd"
          refine r_ixT (sqT (e4 _ _ hp2)) (atI_nat (j := 0) rfl) ?_
          walk_at "rd"
          refine r_ixL (sqL (e4 _ _ ha)) (atI_nat hx') ?_
          walk_at "rd"
          refine r_ixT (sqT (e4 _ _ hp2)) (atI_nat (j := 0) rfl) ?_
          walk_at "rd"
          refine r_ixL (sqL (e4 _ _ ha)) (atI_nat hx') ?_
          walk_at "rd"
          refine r_ixT (sqT (e4 _ _ hp2)) (atI_nat (j := 1) rfl) ?_
          walk_at "rd"
          exact ⟨_, b, b + c, rfl, e4, hjd.trans (jd_next hs (by omega))⟩
      · obtain ⟨y, fl, ed, rfl, e, hjd⟩ := hP
        walk_at "rd"
        have q1 := q _ e
        rw [hj, hjd, List.drop_of_length_le (by simp [sps])] at q1
        exact q1
end
end K14
namespace K14
open PySem PySem.Spec PyProof.Rows L2 Dk
/-- one step of a reading -/
local macro_rules | `(tactic| walk_at "rd1") => `(tactic| first
  | ((with_reducible refine r_var (v := ?rv) ?rh ?_); (case rh => rfl))
  | with_reducible refine r_c ?_
  | with_reducible refine r_seq ?_
  | with_reducible refine r_asg ?_
  | with_reducible refine r_gname ?_
  | with_reducible refine r_op ?_
  | with_reducible refine r_xfo ?_
  | with_reducible refine r_noP ?_
  | with_reducible refine r_part ?_
  | with_reducible refine r_pI ?_
  | with_reducible refine r_gcons ?_
  | with_reducible refine r_gnil ?_
  | with_reducible refine r_mkO ?_
  | with_reducible refine r_un ?_
  | with_reducible refine r_addI ?_
  | with_reducible refine r_I0 ?_
  | with_reducible refine r_U ?_
  | with_reducible refine r_cons ?_
  | with_reducible refine r_nil ?_
  | with_reducible refine r_CB ?_
  | with_reducible refine r_call ?_
  | with_reducible refine r_callS ?_
  | with_reducible refine r_int ?_
  | with_reducible refine r_max ?_
  | with_reducible refine r_min ?_
  | with_reducible refine r_test ?_
  | with_reducible refine r_B ?_
  | with_reducible refine r_blv ?_
  | with_reducible refine r_and ?_
  | with_reducible refine r_or ?_
  | with_reducible refine r_not ?_
  | with_reducible refine r_andV ?_
  | with_reducible refine r_orV ?_
  | with_reducible refine r_notV ?_
  | with_reducible refine r_ifE ?_
  | with_reducible refine r_ifS ?_
  | with_reducible refine r_ret ?_
  | with_reducible refine r_retN ?_
  | with_reducible refine r_drop ?_
  | with_reducible refine r_next ?_
  | with_reducible refine r_sl ?_
  | with_reducible refine r_gsub ?_
  | with_reducible refine r_bm ?_
  | with_reducible refine r_tup ?_
  | with_reducible refine r_lst ?_
  | with_reducible refine r_isN ?_
  | with_reducible refine r_notN ?_
  | with_reducible refine r_itt ?_
  | with_reducible refine r_iff ?_
  | with_reducible refine r_ittN ?_
  | with_reducible refine r_iffN ?_
  | ((with_reducible refine r_ittD ?rh ?_); (case rh => rfl))
  | ((with_reducible refine r_iffD ?rh ?_); (case rh => rfl))
  | ((with_reducible refine r_modP ?rh ?_); (case rh => decide))
  | ((with_reducible refine r_eq ?rh ?_); (case rh => rfl))
  | ((with_reducible refine r_ne ?rh ?_); (case rh => rfl)))
local macro_rules | `(tactic| walk_at "rd") => `(tactic| repeat walk_at "rd1")
local macro_rules | `(tactic| walk_at "isi") => `(tactic| first | refine r_isi (b := true) (by assumption) (by decide +kernel) ?_ | refine r_isi (b := false) (by assumption) (by decide +kernel) ?_)
local macro_rules | `(tactic| walk_at "rs1") => `(tactic| first
  | with_reducible refine r_seq ?_
  | with_reducible refine r_asg ?_
  | with_reducible refine r_gname ?_
  | with_reducible refine r_ret ?_)
local macro_rules | `(tactic| walk_at "rs") => `(tactic| repeat walk_at "rs1")

section
variable {P : Program} {w : World} {K : PySem.W.Frag} {mg : Str → Option Value} {base : Heap}
/-! ### the law's own splicing, the two asked -/
theorem done_step {l : List Nat} {rs : List Spl} {i : Nat} {a c : Int} {t : Str} (h : rs[i]? = some (a, c, t)) :
    doneC l (rs.drop i) = (doneC l (rs.drop (i + 1))).take a.toNat ++ (cs t ++ (doneC l (rs.drop (i + 1))).drop (a + c).toNat) := by
  obtain ⟨hi, e⟩ := List.getElem?_eq_some_iff.mp h
  rw [List.drop_eq_getElem_cons hi, e]
  rfl
def putSum (rs : List Spl) : Nat := (rs.map fun r => r.2.2.length).sum
theorem put_step {rs : List Spl} {i : Nat} {a c : Int} {t : Str} (h : rs[i]? = some (a, c, t)) : putSum (rs.drop i) = t.length + putSum (rs.drop (i + 1)) := by
  obtain ⟨hi, e⟩ := List.getElem?_eq_some_iff.mp h
  unfold putSum
  rw [List.drop_eq_getElem_cons hi, e, List.map_cons, List.sum_cons]
theorem put_le {rs : List Spl} (h : ∀ (i : Nat) (a c : Int) (t : Str), rs[i]? = some (a, c, t) → t.length ≤ 8000) : putSum rs ≤ rs.length * 8000 := by
  unfold putSum
  induction rs with
  | nil => exact Nat.zero_le _
  | cons r rs ih =>
    obtain ⟨a, c, t⟩ := r
    have h0 := h 0 a c t rfl
    have ih' := ih fun i a c t e => h (i + 1) a c t e
    rw [List.map_cons, List.sum_cons, List.length_cons, Nat.add_mul]
    show t.length + _ ≤ _
    omega
theorem put_drop {rs : List Spl} (i : Nat) : putSum (rs.drop i) ≤ putSum rs := by
  unfold putSum
  have e : rs.map (fun r => r.2.2.length) = (rs.take i).map (fun r => r.2.2.length) ++ (rs.drop i).map (fun r => r.2.2.length) := by
    rw [← List.map_append, List.take_append_drop]
  rw [e, List.sum_append]
  omega
theorem cs_toI (z : Str) {b : Int} (hb : 0 ≤ b) : cs (cutS z none (some b)) = (cs z).take b.toNat := by
  rw [int_nat hb]
  exact cs_to z _
def spDone : Sp := fun vs H Q _ => ∃ (z : Str) (a : Addr) (xs : List V) (rs : List Spl), vs = [.str z, .ref a] ∧ z.length ≤ 8000 ∧ H a = some (.lst xs) ∧ Rw H xs ∧ sps H xs = rs.map some ∧
  ∀ H' o, Ex H H' → cs o = doneC (cs z) rs → o.length ≤ z.length + putSum rs → Q (.str o) H'
theorem ok_law_done (T : Txt K mg) : FnOk P w K mg base CX0 1 T.a_law_done T.d_law_done ["_law_text_here", "_law_row"] spDone := by
  refine T.F_law_done.ok sc_law_done (fun vs H Q E h => ?_) (fun cdv A outer s H vs Q E hr h => ?_)
  · obtain ⟨z, a, xs, rs, rfl, _⟩ := h
    rfl
  · obtain ⟨z, a, xs, rs, rfl, hz, ha, rw0, hrs, q⟩ := h
    have hlen : xs.length = rs.length := by
      have z := congrArg List.length hrs
      simpa [sps] using z
    have hput : putSum rs ≤ 8000000 := by
      refine Nat.le_trans (put_le fun i b c t e => ?_) (Nat.le_trans (Nat.mul_le_mul_right _ (hlen ▸ rw0.len)) (by decide))
      obtain ⟨hi, _⟩ := List.getElem?_eq_some_iff.mp e
      have hx : xs[i]? = some xs[i] := List.getElem?_eq_getElem (by omega)
      obtain ⟨p, b', c', t', e1, e2, hp, _⟩ := sps_at hrs hx
      rw [e] at e2
      cases e2
      exact put_len rw0 (e1 ▸ List.mem_of_getElem? hx) hp
    refine ⟨_, (pss_cons (ps_for PassesOwn.never rfl (pi_range1 (by rfl) T.n_range (pa_cons (pe_callB call_lenU (by rfl) T.n_len (by decide +kernel) (pa_cons (pv 1) pa_nil)) pa_nil)) (pg_name (i := 2) sc_law_done.nd rfl (Or.inl rfl)) (pss_cons (ps_set (i := 3) sc_law_done.nd rfl (Or.inl rfl) (pe_ix ix_seq (pv 1) (pe_op op_sub (pe_op op_sub (pe_callB call_lenU (by rfl) T.n_len (by decide +kernel) (pa_cons (pv 1) pa_nil)) pe_int) (pv 2)) (fun _ _ => rfl)))
        (pss_one (ps_set (i := 0) sc_law_done.nd rfl (Or.inl rfl) (pe_op op_addU (pe_op op_addU (pe_slice sl_U (pv 0) po_none (po_some (pe_ix ix_seq (pv 3) pe_int (fun _ _ => rfl)))) (pe_ix ix_seq (pv 3) pe_int (fun _ _ => rfl))) (pe_slice sl_U (pv 0) (po_some (pe_op op_addU (pe_ix ix_seq (pv 3) pe_int (fun _ _ => rfl)) (pe_ix ix_seq (pv 3) pe_int (fun _ _ => rfl)))) po_none))))))
        (pss_one (ps_ret (pv 0)))), ?_⟩
    walk_at "rd"
    refine r_forR1 ?_ (fun Q Q' h t => by
      obtain ⟨v, e, x, n, e1, e2, q⟩ := t
      exact ⟨v, e, x, n, e1, e2, h _ _ q⟩)
    walk_at "rd"
    refine r_lenL (sqL ha) ?_
    walk_at "rd"
    refine ⟨xs.length, rfl, by have := rw0.len; omega, by have := rw0.len; omega, fun i σ H' => ∃ y1 y2 o, σ = [some (.str o), some (.ref a), y1, y2] ∧ Ex H H' ∧ cs o = doneC (cs z) (rs.drop (rs.length - i)) ∧ o.length ≤ z.length + putSum (rs.drop (rs.length - i)),
      ⟨none, none, z, rfl, Same.refl H, by rw [Nat.sub_zero, List.drop_length]; rfl, by omega⟩, fun i σ H' hi hP => ?_, fun σ H' hP => ?_⟩
    · obtain ⟨y1, y2, o, rfl, e, ho, hol⟩ := hP
      have hj : rs.length - (i + 1) < xs.length := by omega
      have hx : xs[rs.length - (i + 1)]? = some xs[rs.length - (i + 1)] := List.getElem?_eq_getElem hj
      obtain ⟨p, b, c, t, e1, hr, hp, b0, c0⟩ := sps_at hrs hx
      rw [e1] at hx
      have hs : rs.length - (i + 1) + 1 = rs.length - i := by omega
      have hpl := put_step hr
      rw [hs] at hpl
      have hpd := put_drop (rs := rs) (rs.length - (i + 1))
      have hsz : o.length ≤ 8009000 := by
        have := put_drop (rs := rs) (rs.length - i)
        omega
      have hb : o.length ≤ sizeLine := Nat.le_trans hsz (by decide)
      have ht : t.length ≤ 8000 := put_len rw0 (List.mem_of_getElem? hx) hp
      walk_at "rd"
      refine r_lenL (sqL (e _ _ ha)) ?_
      walk_at "rd"
      refine r_ixL (sqL (e _ _ ha)) (at_of (j := rs.length - (i + 1)) (by omega) hx) ?_
      walk_at "rd"
      refine r_ixT (sqT (e _ _ hp)) (atI_nat (j := 0) rfl) ?_
      walk_at "rd"
      refine r_slS hb ?_
      walk_at "rd"
      refine r_ixT (sqT (e _ _ hp)) (atI_nat (j := 2) rfl) ?_
      have l1 := cut_len o none (some b)
      refine r_addS (Nat.le_trans (Nat.add_le_add (Nat.le_trans l1 hsz) ht) (by decide)) ?_
      walk_at "rd"
      refine r_ixT (sqT (e _ _ hp)) (atI_nat (j := 0) rfl) ?_
      walk_at "rd"
      refine r_ixT (sqT (e _ _ hp)) (atI_nat (j := 1) rfl) ?_
      walk_at "rd"
      refine r_slS hb ?_
      have l2 := cut_len o (some (b + c)) none
      refine r_addS (by
        rw [Str.length_append]
        exact Nat.le_trans (Nat.add_le_add (Nat.add_le_add (Nat.le_trans l1 hsz) ht) (Nat.le_trans l2 hsz)) (by decide)) ?_
      walk_at "rd"
      have hcs : cs (cutS o none (some b) ++ t ++ cutS o (some (b + c)) none) = doneC (cs z) (rs.drop (rs.length - (i + 1))) := by
        rw [cs_app, cs_app, cs_toI o b0, cs_fromI o (by omega), done_step hr, hs, ← ho, List.append_assoc]
      refine ⟨_, _, _, rfl, e, hcs, ?_⟩
      rw [Str.length_append, Str.length_append, hpl]
      have k1 : (cutS o none (some b)).length + (cutS o (some (b + c)) none).length ≤ o.length := by
        rw [← cs_len, ← cs_len, ← cs_len o, cs_toI o b0, cs_fromI o (by omega), List.length_take, List.length_drop]
        omega
      omega
    · obtain ⟨y1, y2, o, rfl, e, ho, hol⟩ := hP
      walk_at "rd"
      have e0 : rs.length - ((xs.length : Nat) : Int).toNat = 0 := by omega
      rw [e0, List.drop_zero] at ho hol
      exact q _ _ e ho hol
def spLed : Sp := fun vs H Q _ => ∃ (z : Str) (a : Addr) (xs : List V) (rs : List Spl), vs = [.str z, .ref a] ∧ z.length ≤ 8000 ∧ H a = some (.lst xs) ∧ Rw H xs ∧ sps H xs = rs.map some ∧
  ∀ H' o, Ex H H' → cs o = ledC (cs z) 0 rs → Q (.str o) H'
theorem ok_law_led (T : Txt K mg) : FnOk P w K mg base CX0 1 T.a_law_led T.d_law_led ["_law_text_here", "_law_row"] spLed := by
  refine T.F_law_led.ok sc_law_led (fun vs H Q E h => ?_) (fun cdv A outer s H vs Q E hr h => ?_)
  · obtain ⟨z, a, xs, rs, rfl, _⟩ := h
    rfl
  · obtain ⟨z, a, xs, rs, rfl, hz, ha, rw0, hrs, q⟩ := h
    have hlen : xs.length = rs.length := by
      have z := congrArg List.length hrs
      simpa [sps] using z
    refine ⟨_, (pss_cons (ps_set (i := 2) sc_law_led.nd rfl (Or.inl rfl) (pe_lst pa_nil))
        (pss_cons (ps_set (i := 3) sc_law_led.nd rfl (Or.inl rfl) pe_int)
        (pss_cons (ps_for PassesOwn.never rfl (pi_list (pv 1)) (pg_name (i := 4) sc_law_led.nd rfl (Or.inl rfl)) (pss_cons (ps_expr (pe_bm PySem.F.plainAttrs_list PySem.F.slot_list_append PySem.F.type_list_append mt_append (pv 2) (pa_cons (pe_slice sl_U (pv 0) (po_some (pv 3)) (po_some (pe_ix ix_seq (pv 4) pe_int (fun _ _ => rfl)))) pa_nil)))
        (pss_cons (ps_expr (pe_bm PySem.F.plainAttrs_list PySem.F.slot_list_append PySem.F.type_list_append mt_append (pv 2) (pa_cons (pe_ix ix_seq (pv 4) pe_int (fun _ _ => rfl)) pa_nil)))
        (pss_one (ps_set (i := 3) sc_law_led.nd rfl (Or.inl rfl) (pe_op op_addU (pe_ix ix_seq (pv 4) pe_int (fun _ _ => rfl)) (pe_ix ix_seq (pv 4) pe_int (fun _ _ => rfl))))))))
        (pss_cons (ps_expr (pe_bm PySem.F.plainAttrs_list PySem.F.slot_list_append PySem.F.type_list_append mt_append (pv 2) (pa_cons (pe_slice sl_U (pv 0) (po_some (pv 3)) po_none) pa_nil)))
        (pss_one (ps_ret (pe_join pe_str (pv 2)))))))), ?_⟩
    walk_at "rd"
    refine r_small nsz fun m hm => ?_
    walk_at "rd"
    have n0 : H m = none := hm
    have e1 : Ex H (upd H m (.lst [])) := Same.new (Same.refl H) hm
    refine r_forLv rfl (SqL.up e1 (sqL ha)) (fun i σ H' => ∃ y1 d ps, σ = [some (.str z), some (.ref a), some (.ref m), some (.int d), y1] ∧ Ex H H' ∧ H' m = some (.lst (ps.map V.str)) ∧ Pts (cs z) rs ps i d)
      ⟨none, 0, [], rfl, e1, upd_same, ⟨rfl, rfl, fun _ h => by simp at h, by omega⟩⟩ (fun i σ H' h => ?_) (fun i x σ H' hx hP => ?_) (fun σ H' hP => ?_)
    · obtain ⟨_, _, _, _, e, _⟩ := h
      exact SqL.up e (sqL ha)
    · obtain ⟨y1, d, ps, rfl, e, hpm, hP⟩ := hP
      obtain ⟨p, b, c, t, rfl, hr, hp, hb, hc⟩ := sps_at hrs hx
      have ht := put_len rw0 (List.mem_of_getElem? hx) hp
      have hps : ps.length < 5000 := by
        have h1 := (List.getElem?_eq_some_iff.mp hx).1
        have h2 := rw0.len
        have h3 := hP.len
        omega
      have hp' := e _ _ hp
      have hpm' : p ≠ m := ne_of_none hp n0
      walk_at "rd"
      refine r_tyL (sqL hpm) ?_
      walk_at "rd"
      refine r_ixT (sqT hp') (atI_nat (j := 0) rfl) ?_
      walk_at "rd"
      refine r_slS (small8 hz) ?_
      walk_at "rd"
      refine r_app hpm (by rw [List.length_map]; exact Nat.lt_trans hps (by decide)) ?_
      walk_at "rd"
      refine r_tyL (sqL upd_same) ?_
      walk_at "rd"
      refine r_ixT (sqT (by rw [upd_ne hpm']; exact hp')) (atI_nat (j := 2) rfl) ?_
      walk_at "rd"
      refine r_app upd_same (by rw [List.length_append, List.length_map]; exact Nat.lt_trans (show ps.length + 1 < 6000 by omega) (by decide)) ?_
      walk_at "rd"
      refine r_ixT (sqT (by rw [upd_ne hpm', upd_ne hpm']; exact hp')) (atI_nat (j := 0) rfl) ?_
      walk_at "rd"
      refine r_ixT (sqT (by rw [upd_ne hpm', upd_ne hpm']; exact hp')) (atI_nat (j := 1) rfl) ?_
      walk_at "rd"
      have hN := hP.next hr hb hc (x := cutS z (some d) (some b)) (cs_cutI z hP.d0 hb) (Nat.le_trans (cut_len _ _ _) hz) ht
      refine ⟨_, b + c, ps ++ [cutS z (some d) (some b), t], rfl, Same.mut (Same.mut e n0) n0, ?_, hN⟩
      rw [upd_same]
      simp
    · obtain ⟨y1, d, ps, rfl, e, hpm, hP⟩ := hP
      have hps : ps.length < 5000 := by
        have h2 := rw0.len
        have h3 := hP.len
        omega
      walk_at "rd"
      refine r_tyL (sqL hpm) ?_
      walk_at "rd"
      refine r_slS (small8 hz) ?_
      walk_at "rd"
      refine r_app hpm (by rw [List.length_map]; exact Nat.lt_trans hps (by decide)) ?_
      walk_at "rd"
      have e' : ps.map V.str ++ [.str (cutS z (some d) none)] = (ps ++ [cutS z (some d) none]).map V.str := by simp
      rw [e']
      have hsum := sum_le (B := 8000) (ps := ps ++ [cutS z (some d) none]) fun y hy => by
        rcases List.mem_append.mp hy with h1 | h1
        · exact hP.each y h1
        · rw [List.mem_singleton.mp h1]
          exact Nat.le_trans (cut_len _ _ _) hz
      rw [hlen] at hP
      refine ⟨⟨_, rfl⟩, _, rfl, "", m, ps ++ [cutS z (some d) none], rfl, rfl, .inl (sqL upd_same), ?_, q _ _ (Same.mut e n0) (hP.last (cs_fromI z hP.d0))⟩
      have h3 := hP.len
      have h4 := rw0.len
      rw [List.length_append] at hsum
      have h5 : ("" : Str).length = 0 := rfl
      rw [h5, Nat.mul_zero, Nat.add_zero]
      refine Nat.le_trans hsum ?_
      have h6 : ps.length + [cutS z (some d) none].length ≤ 2001 := by
        simp
        omega
      refine Nat.le_trans (Nat.mul_le_mul_right _ h6) (by decide)
def spSame : Sp := fun vs H Q _ => ∃ x : V, vs = [x, x] ∧ ((∃ k, x = .int k) ∨ ∃ z : Str, x = .str z) ∧ Q (.bl true) H
theorem ok_law_same (T : Txt K mg) : FnOk P w K mg base CX0 1 T.a_law_same T.d_law_same ["_law_due", "_law_told"] spSame := by
  refine T.F_law_same.ok sc_law_same (fun vs H Q E h => ?_) (fun cdv A outer s H vs Q E hr h => ?_)
  · obtain ⟨x, rfl, _⟩ := h
    rfl
  · obtain ⟨x, rfl, hx, q⟩ := h
    refine ⟨_, (pss_cons (ps_if (PW.pt (pw_or (pt_cmpR op_isU (pv 0) pe_non (nomark _)) (pw_or1 (pt_val (pe_callB call_isi (by rfl) T.n_isinstance (by decide +kernel) (pa_cons (pv 0) (pa_cons (pe_bltn (v := .ty "bool") (by rfl) T.n_bool (by decide +kernel) rfl) pa_nil))))))) (pss_one (ps_ret (pe_and (pe_cmpR (op_eqU hr.units) (pe_callB call_isi (by rfl) T.n_isinstance (by decide +kernel) (pa_cons (pv 1) (pa_cons (pe_bltn (v := .ty "bool") (by rfl) T.n_bool (by decide +kernel) rfl) pa_nil))) (pe_callB call_isi (by rfl) T.n_isinstance (by decide +kernel) (pa_cons (pv 0) (pa_cons (pe_bltn (v := .ty "bool") (by rfl) T.n_bool (by decide +kernel) rfl) pa_nil))) (nomark _)) (pe_and (pe_cmpR (op_eqU hr.units) (pe_cmpR op_isU (pv 1) pe_non (nomark _)) (pe_cmpR op_isU (pv 0) pe_non (nomark _)) (nomark _)) (pe_one (pe_cmpR (op_eqU hr.units) (pv 1) (pv 0) (nomark _))))))) pss_nil)
        (pss_cons (ps_if (pt_val (pe_callB call_isi (by rfl) T.n_isinstance (by decide +kernel) (pa_cons (pv 0) (pa_cons (pe_bltn (v := .ty "int") (by rfl) T.n_int (by decide +kernel) rfl) pa_nil)))) (pss_one (ps_ret (pe_and (pe_callB call_isi (by rfl) T.n_isinstance (by decide +kernel) (pa_cons (pv 1) (pa_cons (pe_bltn (v := .ty "int") (by rfl) T.n_int (by decide +kernel) rfl) pa_nil))) (pe_and (pe_not (pe_callB call_isi (by rfl) T.n_isinstance (by decide +kernel) (pa_cons (pv 1) (pa_cons (pe_bltn (v := .ty "bool") (by rfl) T.n_bool (by decide +kernel) rfl) pa_nil)))) (pe_one (pe_cmpR (op_eqU hr.units) (pv 1) (pv 0) (nomark _))))))) pss_nil)
        (pss_one (ps_ret (pe_and (pe_callB call_isi (by rfl) T.n_isinstance (by decide +kernel) (pa_cons (pv 1) (pa_cons (pe_bltn (v := .ty "str") (by rfl) T.n_str (by decide +kernel) rfl) pa_nil))) (pe_and (pe_callB call_isi (by rfl) T.n_isinstance (by decide +kernel) (pa_cons (pv 0) (pa_cons (pe_bltn (v := .ty "str") (by rfl) T.n_str (by decide +kernel) rfl) pa_nil))) (pe_one (pe_cmpR (op_eqU hr.units) (pv 1) (pv 0) (nomark _))))))))), ?_⟩
    rcases hx with ⟨k, rfl⟩ | ⟨z, rfl⟩
    · have ty : TyX K H (.int k) (.type "int") := .base (.int k)
      walk_at "rd"
      walk_at "isi"
      walk_at "rd"
      walk_at "isi"
      walk_at "rd"
      walk_at "isi"
      walk_at "rd"
      walk_at "isi"
      walk_at "rd"
      rw [decide_eq_true rfl]
      exact q
    · have ty : TyX K H (.str z) (.type "str") := .base (.str z)
      walk_at "rd"
      walk_at "isi"
      walk_at "rd"
      walk_at "isi"
      walk_at "rd"
      walk_at "isi"
      walk_at "rd"
      walk_at "isi"
      walk_at "rd"
      rw [decide_eq_true rfl]
      exact q
def ansC (o : Option Int) : List V := match o with
  | none => [.str "let", .non]
  | some k => [.str "refused", .int k]
def spAsk : Sp := fun vs H Q _ => ∃ (n : Int) (a : Addr) (xs : List V), vs = [.int n, .ref a] ∧ H a = some (.tup xs) ∧ Rw H xs ∧
  ∀ H' p, Ex H H' → H' p = some (.lst (ansC (judge n (sps H xs)))) → Q (.ref p) H'
theorem ok_law_asked (T : Txt K mg) : FnOk P w K mg base CX0 5 T.a_law_asked T.d_law_asked ["_law_size", "_law_row"] spAsk := by
  refine T.F_law_asked.ok sc_law_asked (fun vs H Q E h => ?_) (fun cdv A outer s H vs Q E hr h => ?_)
  · obtain ⟨n, a, xs, rfl, _⟩ := h
    rfl
  · obtain ⟨n, a, xs, rfl, ha, rw0, q⟩ := h
    refine ⟨_, (pss_cons (ps_try_as (i := 3) rfl rfl sc_law_asked.nd rfl rfl ⟨rfl, by decide, .inl T.g_BadSplice⟩ takes0 (fun W pn xe tk hpo => (pss_one (ps_set (i := 2) sc_law_asked.nd rfl (Or.inl rfl) (pe_callS (ok_check_round T) hr rfl T.g_check_round T.F_check_round.kp T.b_check_round (fun σ => passAt tk σ) (pa_cons (pv 0) (pa_cons (pv 1) pa_nil)))))) (fun a oe cls d pn hz hf => (pss_one (ps_ret (pe_lst (pa_cons pe_str (pa_cons (pe_xf T.x_BadSplice T.na_BadSplice_at hz hf (pv 3)) pa_nil)))))))
        (pss_one (ps_ret (pe_lst (pa_cons pe_str (pa_cons (pv 2) pa_nil)))))), ?_⟩
    walk_at "rd"
    refine ⟨n, a, xs, rfl, ha, rw0, fun hj H1 e1 => ?_, fun k hk H1 d e hd hd1 => ?_⟩
    · walk_at "rd"
      refine r_small nsz fun p hp => ?_
      refine q _ p (Same.new e1 hp) ?_
      rw [upd_same, hj] <;> rfl
    · refine ⟨true, T.e_BadSplice, fun _ a0 _ => ?_, fun q => Bool.noConfusion q⟩
      walk_at "rd"
      refine ⟨rfl, rfl, d, _, _, rfl, hd1, rfl, ?_⟩
      walk_at "rd"
      refine r_small nsz fun p hp => ?_
      refine q _ p (Same.new e hp) ?_
      rw [upd_same, hk] <;> rfl
def spAskS : Sp := fun vs H Q _ => ∃ (z : Str) (a : Addr) (xs : List V), vs = [.str z, .ref a] ∧ z.length ≤ 8000 ∧ H a = some (.tup xs) ∧ Rw H xs ∧
  (∀ rs, sps H xs = rs.map some → judge z.length (sps H xs) = none → ∀ H' p o, Ex H H' → cs o = ledC (cs z) 0 rs → H' p = some (.lst [.str "let", .str o]) → Q (.ref p) H') ∧
  ∀ k, judge z.length (sps H xs) = some k → ∀ H' p, Ex H H' → H' p = some (.lst [.str "refused", .int k]) → Q (.ref p) H'
theorem ok_law_spliced (T : Txt K mg) : FnOk P w K mg base CX0 6 T.a_law_spliced T.d_law_spliced ["_law_text_here", "_law_row"] spAskS := by
  refine T.F_law_spliced.ok sc_law_spliced (fun vs H Q E h => ?_) (fun cdv A outer s H vs Q E hr h => ?_)
  · obtain ⟨z, a, xs, rfl, _⟩ := h
    rfl
  · obtain ⟨z, a, xs, rfl, hz, ha, rw0, q, qE⟩ := h
    refine ⟨_, (pss_cons (ps_try_as (i := 3) rfl rfl sc_law_spliced.nd rfl rfl ⟨rfl, by decide, .inl T.g_BadSplice⟩ takes0 (fun W pn xe tk hpo => (pss_one (ps_set (i := 2) sc_law_spliced.nd rfl (Or.inl rfl) (pe_callS (ok_spliced T) hr rfl T.g_spliced T.F_spliced.kp T.b_spliced (fun σ => passAt tk σ) (pa_cons (pv 0) (pa_cons (pv 1) pa_nil)))))) (fun a oe cls d pn hz hf => (pss_one (ps_ret (pe_lst (pa_cons pe_str (pa_cons (pe_xf T.x_BadSplice T.na_BadSplice_at hz hf (pv 3)) pa_nil)))))))
        (pss_one (ps_ret (pe_lst (pa_cons pe_str (pa_cons (pv 2) pa_nil)))))), ?_⟩
    walk_at "rd"
    refine ⟨z, a, xs, rfl, hz, ha, rw0, fun rs hrs hj H1 o e1 ho => ?_, fun k hk H1 d e hd hd1 => ?_⟩
    · walk_at "rd"
      refine r_small nsz fun p hp => ?_
      exact q rs hrs hj _ p o (Same.new e1 hp) ho upd_same
    · refine ⟨true, T.e_BadSplice, fun _ a0 _ => ?_, fun q => Bool.noConfusion q⟩
      walk_at "rd"
      refine ⟨rfl, rfl, d, _, _, rfl, hd1, rfl, ?_⟩
      walk_at "rd"
      refine r_small nsz fun p hp => ?_
      exact qE k hk _ p (Same.new e hp) upd_same
def spHolds : Sp := fun vs H Q _ => ∃ (z : Str) (a : Addr) (xs : List V), vs = [.str z, .ref a] ∧ z.length ≤ 8000 ∧ H a = some (.lst xs) ∧ Rw H xs ∧ ∀ H', Ex H H' → Q (.bl true) H'
theorem ok_law_holds (T : Txt K mg) : FnOk P w K mg base CX0 7 T.a_law_holds T.d_law_holds ["_law_text_here", "_law_row"] spHolds := by
  refine T.F_law_holds.ok sc_law_holds (fun vs H Q E h => ?_) (fun cdv A outer s H vs Q E hr h => ?_)
  · obtain ⟨z, a, xs, rfl, _⟩ := h
    rfl
  · obtain ⟨z, a, xs, rfl, hz, ha, rw0, q⟩ := h
    refine ⟨_, (pss_cons (ps_set (i := 2) sc_law_holds.nd rfl (Or.inl rfl) (pe_call (ok_law_asked T) (hr.mono (by decide)) (by rfl) T.g_law_asked T.F_law_asked.kp T.b_law_asked .nil pass0 (pa_cons (pe_callB call_lenU (by rfl) T.n_len (by decide +kernel) (pa_cons (pv 0) pa_nil)) (pa_cons (pe_callTy call_tupU (by rfl) T.n_tuple (by decide +kernel) (pa_cons (pv 1) pa_nil)) pa_nil))))
        (pss_cons (ps_set (i := 3) sc_law_holds.nd rfl (Or.inl rfl) (pe_call (ok_law_spliced T) hr (by rfl) T.g_law_spliced T.F_law_spliced.kp T.b_law_spliced .nil pass0 (pa_cons (pv 0) (pa_cons (pe_callTy call_tupU (by rfl) T.n_tuple (by decide +kernel) (pa_cons (pv 1) pa_nil)) pa_nil))))
        (pss_cons (ps_set (i := 4) sc_law_holds.nd rfl (Or.inl rfl) (pe_call (ok_law_judged T) (hr.mono (by decide)) (by rfl) T.g_law_judged T.F_law_judged.kp T.b_law_judged .nil pass0 (pa_cons (pe_callB call_lenU (by rfl) T.n_len (by decide +kernel) (pa_cons (pv 0) pa_nil)) (pa_cons (pv 1) pa_nil))))
        (pss_cons (ps_if (pt_cmpR op_isnotU (pv 4) pe_non (nomark _)) (pss_cons (ps_if (PW.pt (pw_or (pt_cmpR (op_neU hr.units) (pe_ix ix_seq (pv 2) pe_int (fun _ _ => rfl)) pe_str (nomark _)) (pw_or1 (pt_cmpR (op_neU hr.units) (pe_ix ix_seq (pv 3) pe_int (fun _ _ => rfl)) pe_str (nomark _))))) (pss_one (ps_ret pe_bl)) pss_nil)
        (pss_one (ps_ret (pe_and (pe_call (ok_law_same T) (hr.mono (by decide)) (by rfl) T.g_law_same T.F_law_same.kp T.b_law_same .nil pass0 (pa_cons (pv 4) (pa_cons (pe_ix ix_seq (pv 2) pe_int (fun _ _ => rfl)) pa_nil))) (pe_one (pe_call (ok_law_same T) (hr.mono (by decide)) (by rfl) T.g_law_same T.F_law_same.kp T.b_law_same .nil pass0 (pa_cons (pv 4) (pa_cons (pe_ix ix_seq (pv 3) pe_int (fun _ _ => rfl)) pa_nil)))))))) pss_nil)
        (pss_cons (ps_if (PW.pt (pw_or (pt_cmpR (op_neU hr.units) (pe_ix ix_seq (pv 2) pe_int (fun _ _ => rfl)) pe_str (nomark _)) (pw_or (pt_cmpR op_isnotU (pe_ix ix_seq (pv 2) pe_int (fun _ _ => rfl)) pe_non (nomark _)) (pw_or1 (pt_cmpR (op_neU hr.units) (pe_ix ix_seq (pv 3) pe_int (fun _ _ => rfl)) pe_str (nomark _)))))) (pss_one (ps_ret pe_bl)) pss_nil)
        (pss_cons (ps_set (i := 5) sc_law_holds.nd rfl (Or.inl rfl) (pe_call (ok_law_done T) (hr.mono (by decide)) (by rfl) T.g_law_done T.F_law_done.kp T.b_law_done .nil pass0 (pa_cons (pv 0) (pa_cons (pv 1) pa_nil))))
        (pss_one (ps_ret (pe_and (pe_call (ok_law_same T) (hr.mono (by decide)) (by rfl) T.g_law_same T.F_law_same.kp T.b_law_same .nil pass0 (pa_cons (pv 5) (pa_cons (pe_ix ix_seq (pv 3) pe_int (fun _ _ => rfl)) pa_nil))) (pe_one (pe_cmpR (op_eqU hr.units) (pv 5) (pe_call (ok_law_led T) (hr.mono (by decide)) (by rfl) T.g_law_led T.F_law_led.kp T.b_law_led .nil pass0 (pa_cons (pv 0) (pa_cons (pv 1) pa_nil))) (nomark _)))))))))))), ?_⟩
    walk_at "rd"
    refine r_lenS (small8 hz) ?_
    walk_at "rd"
    refine r_tupL (sqL ha) fun t1 n1 => ?_
    have s1 : Ex H (upd H t1 (.tup xs)) := Same.new (Same.refl H) n1
    walk_at "rd"
    refine ⟨_, t1, xs, rfl, upd_same, rw0.up s1, fun H2 p1 e1 hp1 => ?_⟩
    have s2 := s1.trans e1
    rw [sps_up s1 rw0] at hp1
    walk_at "rd"
    refine r_tupL (sqL (s2 _ _ ha)) fun t2 n2 => ?_
    have s3 : Ex H (upd H2 t2 (.tup xs)) := Same.new s2 n2
    have k3 : Ex H2 (upd H2 t2 (.tup xs)) := Same.new (Same.refl H2) n2
    walk_at "rd"
    cases hj : judge z.length (sps H xs) with
    | some k =>
      rw [hj] at hp1
      refine ⟨z, t2, xs, rfl, hz, upd_same, rw0.up s3, fun rs hrs h H4 p2 o e2 ho hp2 => ?_, fun k' hk' H4 p2 e2 hp2 => ?_⟩
      · rw [sps_up s3 rw0, hj] at h
        cases h
      rw [sps_up s3 rw0, hj] at hk'
      cases hk'
      have s4 := s3.trans e2
      have hp1' := e2 _ _ (k3 _ _ hp1)
      walk_at "rd"
      refine r_lenS (small8 hz) ?_
      walk_at "rd"
      refine ⟨_, a, xs, rfl, s4 _ _ ha, rw0.up s4, fun H5 e5 => ?_⟩
      have s5 := s4.trans e5
      rw [sps_up s4 rw0, hj]
      walk_at "rd"
      refine r_ixL (sqL (e5 _ _ hp1')) (atI_nat (j := 0) rfl) ?_
      walk_at "rd"
      refine r_ixL (sqL (e5 _ _ hp2)) (atI_nat (j := 0) rfl) ?_
      walk_at "rd"
      refine r_ixL (sqL (e5 _ _ hp1')) (atI_nat (j := 1) rfl) ?_
      walk_at "rd"
      refine ⟨_, rfl, .inl ⟨_, rfl⟩, ?_⟩
      walk_at "rd"
      refine r_ixL (sqL (e5 _ _ hp2)) (atI_nat (j := 1) rfl) ?_
      walk_at "rd"
      exact ⟨_, rfl, .inl ⟨_, rfl⟩, q _ s5⟩
    | none =>
      rw [hj] at hp1
      obtain ⟨rs, hrs, hrt⟩ := judge_rt hj
      refine ⟨z, t2, xs, rfl, hz, upd_same, rw0.up s3, fun rs' hrs' h H4 p2 o e2 ho hp2 => ?_, fun k' hk' H4 p2 e2 hp2 => ?_⟩
      rotate_left
      · rw [sps_up s3 rw0, hj] at hk'
        cases hk'
      rw [sps_up s3 rw0, hrs] at hrs'
      have er : rs = rs' := (List.map_inj_right (fun x y h => Option.some.inj h)).mp hrs'
      subst er
      have s4 := s3.trans e2
      have hp1' := e2 _ _ (k3 _ _ hp1)
      walk_at "rd"
      refine r_lenS (small8 hz) ?_
      walk_at "rd"
      refine ⟨_, a, xs, rfl, s4 _ _ ha, rw0.up s4, fun H5 e5 => ?_⟩
      have s5 := s4.trans e5
      rw [sps_up s4 rw0, hj]
      walk_at "rd"
      refine r_ixL (sqL (e5 _ _ hp1')) (atI_nat (j := 0) rfl) ?_
      walk_at "rd"
      refine r_ixL (sqL (e5 _ _ hp1')) (atI_nat (j := 1) rfl) ?_
      walk_at "rd"
      refine r_ixL (sqL (e5 _ _ hp2)) (atI_nat (j := 0) rfl) ?_
      walk_at "rd"
      refine ⟨z, a, xs, rs, rfl, hz, s5 _ _ ha, rw0.up s5, by rw [sps_up s5 rw0, hrs], fun H6 o2 e6 ho2 hol => ?_⟩
      have s6 := s5.trans e6
      have e56 := e5.trans e6
      have hl : (cs z).length = z.length := cs_len z
      have eo : o2 = o := cs_ext (by rw [ho2, ho, done_led0 (by rw [hl]; exact hrt)])
      subst eo
      walk_at "rd"
      refine r_ixL (sqL (e56 _ _ hp2)) (atI_nat (j := 1) rfl) ?_
      walk_at "rd"
      refine ⟨_, rfl, .inr ⟨_, rfl⟩, ?_⟩
      walk_at "rd"
      refine ⟨z, a, xs, rs, rfl, hz, s6 _ _ ha, rw0.up s6, by rw [sps_up s6 rw0, hrs], fun H7 o3 e7 ho3 => ?_⟩
      have eo : o3 = o2 := cs_ext (by rw [ho3, ho])
      subst eo
      walk_at "rd"
      rw [decide_eq_true rfl]
      exact q _ (s6.trans e7)
end
end K14
namespace K14
open PySem PySem.Spec PyProof.Rows L2 Dk
/-- one step of a reading -/
local macro_rules | `(tactic| walk_at "rd1") => `(tactic| first
  | ((with_reducible refine r_var (v := ?rv) ?rh ?_); (case rh => rfl))
  | with_reducible refine r_c ?_
  | with_reducible refine r_seq ?_
  | with_reducible refine r_asg ?_
  | with_reducible refine r_gname ?_
  | with_reducible refine r_op ?_
  | with_reducible refine r_xfo ?_
  | with_reducible refine r_noP ?_
  | with_reducible refine r_part ?_
  | with_reducible refine r_pI ?_
  | with_reducible refine r_gcons ?_
  | with_reducible refine r_gnil ?_
  | with_reducible refine r_mkO ?_
  | with_reducible refine r_un ?_
  | with_reducible refine r_addI ?_
  | with_reducible refine r_I0 ?_
  | with_reducible refine r_U ?_
  | with_reducible refine r_cons ?_
  | with_reducible refine r_nil ?_
  | with_reducible refine r_CB ?_
  | with_reducible refine r_call ?_
  | with_reducible refine r_callS ?_
  | with_reducible refine r_int ?_
  | with_reducible refine r_max ?_
  | with_reducible refine r_min ?_
  | with_reducible refine r_test ?_
  | with_reducible refine r_B ?_
  | with_reducible refine r_blv ?_
  | with_reducible refine r_and ?_
  | with_reducible refine r_or ?_
  | with_reducible refine r_not ?_
  | with_reducible refine r_andV ?_
  | with_reducible refine r_orV ?_
  | with_reducible refine r_notV ?_
  | with_reducible refine r_ifE ?_
  | with_reducible refine r_ifS ?_
  | with_reducible refine r_ret ?_
  | with_reducible refine r_retN ?_
  | with_reducible refine r_drop ?_
  | with_reducible refine r_next ?_
  | with_reducible refine r_sl ?_
  | with_reducible refine r_gsub ?_
  | with_reducible refine r_bm ?_
  | with_reducible refine r_tup ?_
  | with_reducible refine r_lst ?_
  | with_reducible refine r_isN ?_
  | with_reducible refine r_notN ?_
  | with_reducible refine r_itt ?_
  | with_reducible refine r_iff ?_
  | with_reducible refine r_ittN ?_
  | with_reducible refine r_iffN ?_
  | ((with_reducible refine r_ittD ?rh ?_); (case rh => rfl))
  | ((with_reducible refine r_iffD ?rh ?_); (case rh => rfl))
  | ((with_reducible refine r_modP ?rh ?_); (case rh => decide))
  | ((with_reducible refine r_eq ?rh ?_); (case rh => rfl))
  | ((with_reducible refine r_ne ?rh ?_); (case rh => rfl)))
local macro_rules | `(tactic| walk_at "rd") => `(tactic| repeat walk_at "rd1")
local macro_rules | `(tactic| walk_at "isi") => `(tactic| first | refine r_isi (b := true) (by assumption) (by decide +kernel) ?_ | refine r_isi (b := false) (by assumption) (by decide +kernel) ?_)
local macro_rules | `(tactic| walk_at "rs1") => `(tactic| first
  | with_reducible refine r_seq ?_
  | with_reducible refine r_asg ?_
  | with_reducible refine r_gname ?_
  | with_reducible refine r_ret ?_)
local macro_rules | `(tactic| walk_at "rs") => `(tactic| repeat walk_at "rs1")

/-! ### good splices -/
structure Gd (G : Hp) (n : Int) (x : V) (q : Addr) (b c : Int) (t : Str) : Prop where
  ref : x = .ref q
  at_ : G q = some (.tup [.int b, .int c, .str t])
  b0 : 0 ≤ b
  bn : b ≤ n
  c0 : 0 ≤ c
  cn : c ≤ 3
  tl : t.length ≤ 3
  tA : InAL t
  ne : 0 < c ∨ t ≠ ""
theorem Gd.up {G G' : Hp} {n : Int} {x : V} {q : Addr} {b c : Int} {t : Str} (e : Ex G G') (h : Gd G n x q b c t) : Gd G' n x q b c t := { h with at_ := e _ _ h.at_ }
def GdS (G : Hp) (n : Int) (x : V) : Prop := ∃ q b c t, Gd G n x q b c t
theorem GdS.up {G G' : Hp} {n : Int} {x : V} (e : Ex G G') (h : GdS G n x) : GdS G' n x := by
  obtain ⟨q, b, c, t, h⟩ := h
  exact ⟨q, b, c, t, h.up e⟩
theorem isTx_of {t : Str} (h : InAL t) : isTx t = true := List.all_eq_true.mpr fun c hc => decide_eq_true (h c hc)
theorem Gd.sp {G : Hp} {n : Int} {x : V} {q : Addr} {b c : Int} {t : Str} (h : Gd G n x q b c t) : sp3 G x = some (b, c, t) := by
  rw [h.ref]
  show sp3o (G q) = _
  rw [h.at_]
  exact if_pos ⟨h.b0, h.c0, isTx_of h.tA, h.ne⟩
theorem thg_tup {G : Hp} {p : Addr} {xs : List V} (h : G p = some (.tup xs)) (hl : xs.length ≤ 1000) (hx : ∀ x ∈ xs, Okc G x) : Thg G (.ref p) :=
  ⟨⟨_, .tup h⟩, fun a ys e ht => by
    cases e
    rw [h] at ht
    cases ht
    exact ⟨hl, hx⟩⟩
theorem GdS.thg {G : Hp} {n : Int} {x : V} (h : GdS G n x) : Thg G x := by
  obtain ⟨q, b, c, t, h⟩ := h
  rw [h.ref]
  refine thg_tup h.at_ nsz fun x hx => ?_
  rcases List.mem_cons.mp hx with rfl | hx
  · exact ⟨_, .int _⟩
  rcases List.mem_cons.mp hx with rfl | hx
  · exact ⟨_, .int _⟩
  rw [List.mem_singleton.mp hx]
  exact ⟨_, .str _ (Nat.le_trans h.tl (by decide))⟩
/-- a good row -/
structure GRw (G : Hp) (n : Int) (m : Nat) (xs : List V) : Prop where
  ne : xs ≠ []
  len : xs.length ≤ m
  all : ∀ x ∈ xs, GdS G n x
theorem GRw.up {G G' : Hp} {n : Int} {m : Nat} {xs : List V} (e : Ex G G') (h : GRw G n m xs) : GRw G' n m xs := ⟨h.ne, h.len, fun x hx => (h.all x hx).up e⟩
theorem GRw.rw {G : Hp} {n : Int} {m : Nat} {xs : List V} (h : GRw G n m xs) (hm : m ≤ 1000) : Rw G xs := ⟨Nat.le_trans h.len hm, fun x hx => (h.all x hx).thg⟩
theorem GRw.sps {G : Hp} {n : Int} {m : Nat} {xs : List V} (h : GRw G n m xs) : ∃ rs, sps G xs = rs.map some ∧ putSum rs ≤ 3 * xs.length := by
  obtain ⟨ne, len, h⟩ := h
  clear ne len
  unfold K14.sps
  induction xs with
  | nil => exact ⟨[], rfl, Nat.zero_le _⟩
  | cons x r ih =>
    obtain ⟨rs, e, hs⟩ := ih fun y hy => h y (List.mem_cons_of_mem _ hy)
    obtain ⟨q, b, c, t, g⟩ := h x (by simp)
    refine ⟨(b, c, t) :: rs, by rw [List.map_cons, List.map_cons, e, g.sp], ?_⟩
    show t.length + putSum rs ≤ 3 * (r.length + 1)
    have := g.tl
    omega
section
variable {P : Program} {w : World} {K : PySem.W.Frag} {mg : Str → Option Value} {base : Heap}
def spRound : Sp := fun vs H Q _ => ∃ (a : Addr) (n m : Int) (G : Hp), vs = [.ref a, .int n, .int m] ∧ Wd a G H ∧ 0 ≤ n ∧ n ≤ 8000 ∧ 1 ≤ m ∧ m ≤ 200 ∧
  ∀ p G' H' xs, Gr (· = a) G H G' H' → Stt H' a → G' p = some (.lst xs) → GRw G' n m.toNat xs → Q (.ref p) H'
theorem ok_law_round (T : Txt K mg) : FnOk P w K mg base CX0 3 T.a_law_round T.d_law_round ["_law_state", "_law_size", "_law_most"] spRound := by
  refine T.F_law_round.ok sc_law_round (fun vs H Q E h => ?_) (fun cdv A outer s H vs Q E hr h => ?_)
  · obtain ⟨a, n, m, G, rfl, _⟩ := h
    rfl
  · obtain ⟨a, n, mo, G, rfl, W0, n0, n1, m0, m1, q⟩ := h
    refine ⟨_, (pss_cons (ps_set (i := 3) sc_law_round.nd rfl (Or.inl rfl) (pe_lst pa_nil))
        (pss_cons (ps_set (i := 4) sc_law_round.nd rfl (Or.inl rfl) (pe_call (ok_law_draw T) (hr.mono (by decide)) (by rfl) T.g_law_draw T.F_law_draw.kp T.b_law_draw .nil pass0 (pa_cons (pv 0) (pa_cons (pe_callB (call_minU rfl) (by rfl) T.n_min (by decide +kernel) (pa_cons pe_int (pa_cons (pe_op op_addU (pv 1) pe_int) pa_nil))) pa_nil))))
        (pss_cons (ps_while PassesOwn.never (PW.pt (pw_and (pt_cmpR op_le (pv 4) (pv 1) (nomark _)) (pw_and1 (pt_cmpR op_lt (pe_callB call_lenU (by rfl) T.n_len (by decide +kernel) (pa_cons (pv 3) pa_nil)) (pv 2) (nomark _))))) (pss_cons (ps_set (i := 5) sc_law_round.nd rfl (Or.inl rfl) (pe_callB (call_minU rfl) (by rfl) T.n_min (by decide +kernel) (pa_cons (pe_call (ok_law_draw T) (hr.mono (by decide)) (by rfl) T.g_law_draw T.F_law_draw.kp T.b_law_draw .nil pass0 (pa_cons (pv 0) (pa_cons pe_int pa_nil))) (pa_cons (pe_op op_sub (pv 1) (pv 4)) pa_nil))))
        (pss_cons (ps_set (i := 6) sc_law_round.nd rfl (Or.inl rfl) (pe_call (ok_law_text T) hr (by rfl) T.g_law_text T.F_law_text.kp T.b_law_text .nil pass0 (pa_cons (pv 0) (pa_cons (pe_call (ok_law_draw T) (hr.mono (by decide)) (by rfl) T.g_law_draw T.F_law_draw.kp T.b_law_draw .nil pass0 (pa_cons (pv 0) (pa_cons pe_int pa_nil))) pa_nil))))
        (pss_cons (ps_if (PW.pt (pw_and (pt_cmpR (op_eqU hr.units) (pv 5) pe_int (nomark _)) (pw_and1 (pt_cmpR (op_eqU hr.units) (pv 6) pe_str (nomark _))))) (pss_one (ps_set (i := 6) sc_law_round.nd rfl (Or.inl rfl) pe_str)) pss_nil)
        (pss_cons (ps_expr (pe_bm PySem.F.plainAttrs_list PySem.F.slot_list_append PySem.F.type_list_append mt_append (pv 3) (pa_cons (pe_tup (pa_cons (pv 4) (pa_cons (pv 5) (pa_cons (pv 6) pa_nil)))) pa_nil)))
        (pss_one (ps_set (i := 4) sc_law_round.nd rfl (Or.inl rfl) (pe_callB (call_maxU rfl) (by rfl) T.n_max (by decide +kernel) (pa_cons (pe_op op_addU (pv 4) pe_int) (pa_cons (pe_op op_addU (pe_op op_addU (pv 4) (pv 5)) (pe_callB (call_maxU rfl) (by rfl) T.n_max (by decide +kernel) (pa_cons pe_int (pa_cons (pe_op op_sub (pe_call (ok_law_draw T) (hr.mono (by decide)) (by rfl) T.g_law_draw T.F_law_draw.kp T.b_law_draw .nil pass0 (pa_cons (pv 0) (pa_cons pe_int pa_nil))) pe_int) pa_nil)))) pa_nil))))))))))
        (pss_one (ps_ret (pv 3)))))), ?_⟩
    walk_at "rd"
    refine r_small nsz fun p hp => ?_
    have hpa : p ≠ a := W0.st.ne hp
    have gp : G p = none := W0.g.free hp
    have t0 : Gr (· = a) G H G (upd H p (.lst [])) := Gr.own W0.g hp
    have s0 : Stt (upd H p (.lst [])) a := W0.st.put hpa
    walk_at "rd"
    refine ⟨a, min 4 (n + 1), rfl, s0, by omega, fun b H1 b0 b1 D1 => ?_⟩
    walk_at "rd"
    refine ⟨fun m σ H' => ∃ (y1 y2 : Option V) (b : Int) (G' : Hp) (xs : List V), σ = [some (.ref a), some (.int n), some (.int mo), some (.ref p), some (.int b), y1, y2] ∧ Gr (· = a) G H G' H' ∧ Stt H' a ∧ G' p = none ∧ H' p = some (.lst xs) ∧
      (∀ x ∈ xs, GdS G' n x) ∧ 0 ≤ b ∧ (xs = [] → b ≤ n) ∧ m = (n + 1 - b).toNat ∧ (xs.length : Int) ≤ mo, ⟨_, none, none, b, G, [], rfl, t0.dr W0.na W0.st s0 D1, D1.st, gp, D1.hh _ _ hpa upd_same, fun _ h => by simp at h, b0, fun _ => by omega, rfl, by simp; omega⟩, fun m σ H' hW => ?_⟩
    obtain ⟨y1, y2, b, G', xs, rfl, t, st, gp', hpx, hxs, b0, hb, rfl, hl⟩ := hW
    walk_at "rd"
    refine r_ite (fun h1 => ?_) (fun h1 => ?_)
    · walk_at "rd"
      refine r_lenL (sqL hpx) ?_
      walk_at "rd"
      refine r_ite (fun h2 => ?_) (fun h2 => ?_)
      · refine ⟨_, fun _ _ h => h, ?_⟩
        walk_at "rd"
        refine ⟨a, 4, rfl, st, by decide, fun d1 H2 d0 d4 D2 => ?_⟩
        walk_at "rd"
        refine ⟨a, 4, rfl, D2.st, by decide, fun d2 H3 e0 e4 D3 => ?_⟩
        walk_at "rd"
        refine ⟨a, d2, rfl, D3.st, by omega, by omega, fun o H4 D4 ho hA => ?_⟩
        have D24 := (D2.trans D3).trans D4
        have t4 : Gr (· = a) G H G' H4 := t.dr W0.na W0.st st D24
        have hp4 := D24.hh _ _ hpa hpx
        -- the splice is laid
        have lay : ∀ (u : Str) (y : Option V), u.length ≤ 3 → InAL u → (0 < min d1 (n - b) ∨ u ≠ "") → ∀ q2, H4 q2 = none →
            ∃ (G2 : Hp), Gr (· = a) G H G2 (upd H4 q2 (.tup [.int b, .int (min d1 (n - b)), .str u])) ∧ Stt (upd H4 q2 (.tup [.int b, .int (min d1 (n - b)), .str u])) a ∧ G2 p = none ∧ (∀ x ∈ xs ++ [V.ref q2], GdS G2 n x) := by
          intro u y hu hA hne q2 hq
          have s2 := Gr.new (A := (· = a)) (o := .tup [.int b, .int (min d1 (n - b)), .str u]) t4.gh hq
          refine ⟨_, t4.trans s2, D4.st.put (D4.st.ne hq), by rw [upd_ne (ne_of_none hp4 hq)]; exact gp', fun x hx => ?_⟩
          rcases List.mem_append.mp hx with h | h
          · exact (hxs x h).up s2.gg
          · rw [List.mem_singleton.mp h]
            exact ⟨q2, b, _, u, ⟨rfl, upd_same, b0, h1, by omega, by omega, hu, hA, hne⟩⟩
        have fin : ∀ (u : Str), u.length ≤ 3 → InAL u → (0 < min d1 (n - b) ∨ u ≠ "") → (tSeq (tDrop (tBM K "list" rAppend (tVar 3) (tCons (tTup (tCons (tVar 4) (tCons (tVar 5) (tCons (tVar 6) tNil)))) tNil)))
            (tAsg (tCB rMax (tCons (tOp (rAddU K) (tVar 4) (tC (.int 1))) (tCons (tOp (rAddU K) (tOp (rAddU K) (tVar 4) (tVar 5)) (tCB rMax (tCons (tC (.int 0)) (tCons (tOp (rI0 fun i j => .int (i - j)) (tCall spDraw [] E0 (tCons (tVar 0) (tCons (tC (.int 4)) tNil))) (tC (.int 1))) tNil)))) tNil))) (gName 4)))
            { nx := fun σ' H' => ∃ m' < (n + 1 - b).toNat, ∃ (y1 y2 : Option V) (b : Int) (G' : Hp) (xs : List V), σ' = [some (.ref a), some (.int n), some (.int mo), some (.ref p), some (.int b), y1, y2] ∧ Gr (· = a) G H G' H' ∧ Stt H' a ∧ G' p = none ∧ H' p = some (.lst xs) ∧
      (∀ x ∈ xs, GdS G' n x) ∧ 0 ≤ b ∧ (xs = [] → b ≤ n) ∧ m' = (n + 1 - b).toNat ∧ (xs.length : Int) ≤ mo, rt := Q } [some (.ref a), some (.int n), some (.int mo), some (.ref p), some (.int b), some (.int (min d1 (n - b))), some (.str u)] H4 := by
          intro u hu hA hne
          walk_at "rd"
          refine r_tyL (sqL hp4) ?_
          walk_at "rd"
          refine r_small nsz fun q2 hq => ?_
          obtain ⟨G2, t2, st2, gp2, hx2⟩ := lay u none hu hA hne q2 hq
          have hp5 : (upd H4 q2 (.tup [.int b, .int (min d1 (n - b)), .str u])) p = some (.lst xs) := by
            rw [upd_ne (ne_of_none hp4 hq)]
            exact hp4
          walk_at "rd"
          refine r_app hp5 (Nat.lt_trans (show xs.length < 300 by omega) (by decide)) ?_
          walk_at "rd"
          have t3 := t2.mut (o := .lst (xs ++ [.ref q2])) (.inr hp) gp2
          have st3 := st2.put (o := .lst (xs ++ [.ref q2])) hpa
          refine ⟨a, 4, rfl, st3, by decide, fun d5 H6 f0 f4 D6 => ?_⟩
          walk_at "rd"
          have t6 := t3.dr W0.na W0.st st3 D6
          refine ⟨_, ?_, _, _, max (b + 1) (b + min d1 (n - b) + max 0 (d5 - 1)), G2, xs ++ [.ref q2], rfl, t6, D6.st, gp2, D6.hh _ _ hpa upd_same, hx2, by omega, fun z => by simp at z, rfl, by rw [List.length_append]; simp; omega⟩
          omega
        walk_at "rd"
        refine r_ite (fun hc => ?_) (fun hc => ?_)
        · have hc' := V.int.inj hc
          walk_at "rd"
          refine r_ite (fun hu => ?_) (fun hu => ?_)
          · walk_at "rs"
            walk_at "rd1"
            walk_at "rs"
            exact fin "+" (by decide) (by unfold InAL; decide +kernel) (.inr (by decide))
          · have hu' : o ≠ "" := fun z => hu (by rw [z])
            walk_at "rs"
            with_reducible refine r_next ?_
            exact fin o (by omega) hA (.inr hu')
        · have hc' : min d1 (n - b) ≠ 0 := fun z => hc (by rw [z])
          walk_at "rs"
          with_reducible refine r_iff ?_
          with_reducible refine r_next ?_
          exact fin o (by omega) hA (.inl (by omega))
      · walk_at "rd"
        have hne : xs ≠ [] := fun z => h2 (by rw [z]; simp; omega)
        have t5 := t.give hp hpx gp'
        refine q p _ _ xs t5 st upd_same ⟨hne, by omega, fun x hx => (hxs x hx).up (Same.new (Same.refl G') gp')⟩
    · walk_at "rd"
      have hne : xs ≠ [] := fun z => h1 (hb z)
      have t5 := t.give hp hpx gp'
      refine q p _ _ xs t5 st upd_same ⟨hne, by omega, fun x hx => (hxs x hx).up (Same.new (Same.refl G') gp')⟩
end
end K14
namespace K14
open PySem PySem.Spec PyProof.Rows L2 Dk
/-- one step of a reading -/
local macro_rules | `(tactic| walk_at "rd1") => `(tactic| first
  | ((with_reducible refine r_var (v := ?rv) ?rh ?_); (case rh => rfl))
  | with_reducible refine r_c ?_
  | with_reducible refine r_seq ?_
  | with_reducible refine r_asg ?_
  | with_reducible refine r_gname ?_
  | with_reducible refine r_op ?_
  | with_reducible refine r_xfo ?_
  | with_reducible refine r_noP ?_
  | with_reducible refine r_part ?_
  | with_reducible refine r_pI ?_
  | with_reducible refine r_gcons ?_
  | with_reducible refine r_gnil ?_
  | with_reducible refine r_mkO ?_
  | with_reducible refine r_un ?_
  | with_reducible refine r_addI ?_
  | with_reducible refine r_I0 ?_
  | with_reducible refine r_U ?_
  | with_reducible refine r_cons ?_
  | with_reducible refine r_nil ?_
  | with_reducible refine r_CB ?_
  | with_reducible refine r_call ?_
  | with_reducible refine r_callS ?_
  | with_reducible refine r_int ?_
  | with_reducible refine r_max ?_
  | with_reducible refine r_min ?_
  | with_reducible refine r_test ?_
  | with_reducible refine r_B ?_
  | with_reducible refine r_blv ?_
  | with_reducible refine r_and ?_
  | with_reducible refine r_or ?_
  | with_reducible refine r_not ?_
  | with_reducible refine r_andV ?_
  | with_reducible refine r_orV ?_
  | with_reducible refine r_notV ?_
  | with_reducible refine r_ifE ?_
  | with_reducible refine r_ifS ?_
  | with_reducible refine r_ret ?_
  | with_reducible refine r_retN ?_
  | with_reducible refine r_drop ?_
  | with_reducible refine r_next ?_
  | with_reducible refine r_sl ?_
  | with_reducible refine r_gsub ?_
  | with_reducible refine r_bm ?_
  | with_reducible refine r_tup ?_
  | with_reducible refine r_lst ?_
  | with_reducible refine r_isN ?_
  | with_reducible refine r_notN ?_
  | with_reducible refine r_itt ?_
  | with_reducible refine r_iff ?_
  | with_reducible refine r_ittN ?_
  | with_reducible refine r_iffN ?_
  | ((with_reducible refine r_ittD ?rh ?_); (case rh => rfl))
  | ((with_reducible refine r_iffD ?rh ?_); (case rh => rfl))
  | ((with_reducible refine r_modP ?rh ?_); (case rh => decide))
  | ((with_reducible refine r_eq ?rh ?_); (case rh => rfl))
  | ((with_reducible refine r_ne ?rh ?_); (case rh => rfl)))
local macro_rules | `(tactic| walk_at "rd") => `(tactic| repeat walk_at "rd1")
local macro_rules | `(tactic| walk_at "isi") => `(tactic| first | refine r_isi (b := true) (by assumption) (by decide +kernel) ?_ | refine r_isi (b := false) (by assumption) (by decide +kernel) ?_)
local macro_rules | `(tactic| walk_at "rs1") => `(tactic| first
  | with_reducible refine r_seq ?_
  | with_reducible refine r_asg ?_
  | with_reducible refine r_gname ?_
  | with_reducible refine r_ret ?_)
local macro_rules | `(tactic| walk_at "rs") => `(tactic| repeat walk_at "rs1")

/-! ### displays of things, as a whole -/
def Pv (te : TE) (σ : L2.St) (v : V) : Prop := ∀ (H : Hp) (Q : VK), Q v H → te σ H Q
def Pr (te : TE) (σ : L2.St) (G : Hp) (P : Hp → V → Prop) : Prop := ∀ G0 H, Ex G G0 → Ex G0 H → ∀ Q : VK, (∀ v G' H', Gr A0 G0 H G' H' → P G' v → Q v H') → te σ H Q
def PrA (ar : TA) (σ : L2.St) (G : Hp) (P : Hp → V → Prop) (n : Nat) : Prop := ∀ G0 H, Ex G G0 → Ex G0 H → ∀ Q : List V → Hp → Prop,
  (∀ vs G' H', Gr A0 G0 H G' H' → vs.length = n → (∀ v ∈ vs, P G' v) → Q vs H') → ar σ H Q
def Sc : V → Prop
  | .non => True
  | .bl _ => True
  | .int _ => True
  | .str z => z.length ≤ 8000
  | _ => False
theorem Sc.ok {v : V} (h : Sc v) (G : Hp) : Okc G v := by
  cases v <;> first | exact h.elim | skip
  · exact ⟨_, .non⟩
  · exact ⟨_, .bl _⟩
  · exact ⟨_, .int _⟩
  · exact ⟨_, .str _ h⟩
theorem Sc.thg {v : V} (h : Sc v) (G : Hp) : Thg G v := ⟨h.ok G, fun a xs e _ => by subst e; exact h.elim⟩
theorem scS {z : Str} (h : z.length ≤ 100) : Sc (.str z) := Nat.le_trans h (by decide)
theorem scA {y z : Str} (h : y.length ≤ 100) (h2 : z.length ≤ 100) : Sc (.str (y ++ z)) := by
  show (y ++ z).length ≤ 8000
  rw [Str.length_append]
  omega
section
variable {K : PySem.W.Frag} {σ : L2.St} {G H : Hp} {v x y : V} {te ta tb : TE} {ar : TA} {n : Nat} {P : Hp → V → Prop} {i j : Int}
theorem pv_var {k : Nat} (h : σ[k]? = some (some v)) : Pv (tVar k) σ v := fun _ _ q => ⟨v, h, q⟩
theorem pv_c : Pv (tC v) σ v := fun _ _ q => q
theorem pv_addI (ha : Pv ta σ (.int i)) (hb : Pv tb σ (.int j)) : Pv (tOp (rAddU K) ta tb) σ (.int (i + j)) := fun H Q q => ha H _ (hb H _ (r_addI q))
theorem pv_addS {s z : Str} (ha : Pv ta σ (.str s)) (hb : Pv tb σ (.str z)) (h1 : s.length ≤ 100) (h2 : z.length ≤ 100) : Pv (tOp (rAddU K) ta tb) σ (.str (s ++ z)) :=
  fun H Q q => ha H _ (hb H _ (r_addS (Nat.le_trans (Nat.add_le_add h1 h2) (by decide)) q))
theorem pv_sub (ha : Pv ta σ (.int i)) (hb : Pv tb σ (.int j)) : Pv (tOp (rI0 fun i j => .int (i - j)) ta tb) σ (.int (i - j)) := fun H Q q => ha H _ (hb H _ ⟨i, j, rfl, rfl, q⟩)
theorem pv_neg (ha : Pv ta σ (.int i)) : Pv (tUn (rU fun i => .int (-i)) ta) σ (.int (-i)) := fun H Q q => ha H _ ⟨i, rfl, q⟩
theorem pv_max (ha : Pv ta σ (.int i)) (hb : Pv tb σ (.int j)) : Pv (tCB rMax (tCons ta (tCons tb tNil))) σ (.int (max i j)) := fun H Q q => ha H _ (hb H _ (r_max q))
theorem pr_T (h : Pv te σ v) (s : Sc v) : Pr te σ G Thg := fun G0 H g0 g1 Q k => h H Q (k v G0 H (.refl g1) (s.thg G0))
theorem pr_O (h : Pv te σ v) (s : Sc v) : Pr te σ G Okc := fun G0 H g0 g1 Q k => h H Q (k v G0 H (.refl g1) (s.ok G0))
theorem pra_nil : PrA tNil σ G P 0 := fun G0 H g0 g1 Q k => k [] G0 H (.refl g1) rfl fun _ h => by simp at h
theorem pra_cons (hm : ∀ {G G' : Hp} {v : V}, Ex G G' → P G v → P G' v) (h : Pr te σ G P) (hr : PrA ar σ G P n) : PrA (tCons te ar) σ G P (n + 1) := fun G0 H g0 g1 Q k =>
  h G0 H g0 g1 _ fun v G1 H1 s1 hv => hr G1 H1 (g0.trans s1.gg) s1.gh _ fun vs G2 H2 s2 hl hvs =>
    k (v :: vs) G2 H2 (s1.trans s2) (by rw [List.length_cons, hl]) fun z hz => by
      rcases List.mem_cons.mp hz with rfl | hz
      · exact hm s2.gg hv
      · exact hvs z hz
theorem pra_T (h : Pr te σ G Thg) (hr : PrA ar σ G Thg n) : PrA (tCons te ar) σ G Thg (n + 1) := pra_cons Thg.up h hr
theorem pra_O (h : Pr te σ G Okc) (hr : PrA ar σ G Okc n) : PrA (tCons te ar) σ G Okc (n + 1) := pra_cons Okc.up h hr
theorem pr_tup (h : PrA ar σ G Okc n) (hn : n ≤ 1000) : Pr (tTup ar) σ G Thg := fun G0 H g0 g1 Q k =>
  h G0 H g0 g1 _ fun vs G1 H1 s1 hl hv => a_tup s1.gh (by omega) fun p G2 H2 s2 hp _ => k _ G2 H2 (s1.trans s2) (thg_tup hp (by omega) fun z hz => (hv z hz).up s2.gg)
theorem pr_tupO (h : PrA ar σ G Okc n) (hn : n ≤ 1000) : Pr (tTup ar) σ G Okc := fun G0 H g0 g1 Q k => pr_tup h hn G0 H g0 g1 Q fun v G' H' s t => k v G' H' s t.1
theorem pr_lst (h : PrA ar σ G Okc n) (hn : n ≤ 1000) : Pr (tLst ar) σ G Thg := fun G0 H g0 g1 Q k =>
  h G0 H g0 g1 _ fun vs G1 H1 s1 hl hv => a_lst s1.gh (by omega) fun p G2 H2 s2 hp _ => k _ G2 H2 (s1.trans s2) ⟨⟨_, .lst hp⟩, fun a ys e ht => by
    cases e
    rw [hp] at ht
    cases ht⟩
theorem pr_lstO (h : PrA ar σ G Okc n) (hn : n ≤ 1000) : Pr (tLst ar) σ G Okc := fun G0 H g0 g1 Q k => pr_lst h hn G0 H g0 g1 Q fun v G' H' s t => k v G' H' s t.1
theorem pr_dict : Pr tDNewK σ G Thg := fun G0 H g0 g1 Q k p hp => k _ _ _ (Gr.new g1 hp) ⟨⟨_, .dK upd_same⟩, fun a ys e ht => by
    cases e
    rw [upd_same] at ht
    cases ht⟩
/-- a list of things -/
def LT (m : Nat) (G : Hp) (v : V) : Prop := ∃ p xs, v = .ref p ∧ G p = some (.lst xs) ∧ xs ≠ [] ∧ xs.length ≤ m ∧ ∀ x ∈ xs, Thg G x
theorem LT.up {m : Nat} {G G' : Hp} {v : V} (e : Ex G G') (h : LT m G v) : LT m G' v := by
  obtain ⟨p, xs, h1, h2, h3, h4, h5⟩ := h
  exact ⟨p, xs, h1, e _ _ h2, h3, h4, fun x hx => (h5 x hx).up e⟩
theorem pr_rows {m : Nat} (h : PrA ar σ G Thg n) (h0 : 0 < n) (hn : n ≤ m) (hm : m ≤ 1000) : Pr (tLst ar) σ G (LT m) := fun G0 H g0 g1 Q k =>
  h G0 H g0 g1 _ fun vs G1 H1 s1 hl hv => a_lst s1.gh (by omega) fun p G2 H2 s2 hp _ => k _ G2 H2 (s1.trans s2) ⟨p, vs, rfl, hp, fun z => by subst z; simp at hl; omega, by omega, fun x hx => (hv x hx).up s2.gg⟩
theorem r_pr {Q : VK} (h : Pr te σ G P) (g : Ex G H) (k : ∀ v G' H', Gr A0 G H G' H' → P G' v → Q v H') : te σ H Q := h G H (Same.refl G) g Q k
end
local macro_rules | `(tactic| walk_at "ln") => `(tactic| first | assumption | decide)
local macro_rules | `(tactic| walk_at "pv") => `(tactic| first
  | ((with_reducible refine pv_var (v := ?v) ?h); (case h => rfl))
  | with_reducible exact pv_c
  | ((with_reducible refine pv_addI (i := ?i) (j := ?j) ?a ?b); (case a => walk_at "pv"); (case b => walk_at "pv"))
  | ((with_reducible refine pv_addS (s := ?s) (z := ?z) ?a ?b ?c ?d); (case a => walk_at "pv"); (case b => walk_at "pv"); (case c => walk_at "ln"); (case d => walk_at "ln"))
  | ((with_reducible refine pv_sub (i := ?i) (j := ?j) ?a ?b); (case a => walk_at "pv"); (case b => walk_at "pv"))
  | ((with_reducible refine pv_neg (i := ?i) ?a); (case a => walk_at "pv"))
  | ((with_reducible refine pv_max (i := ?i) (j := ?j) ?a ?b); (case a => walk_at "pv"); (case b => walk_at "pv")))
local macro_rules | `(tactic| walk_at "sc") => `(tactic| first | exact trivial | exact scS (by walk_at "ln") | exact scA (by walk_at "ln") (by walk_at "ln"))
local macro_rules | `(tactic| walk_at "pr") => `(tactic| first
  | with_reducible exact pra_nil
  | ((with_reducible refine pra_T (n := ?n) ?a ?b); (case a => walk_at "pr"); (case b => walk_at "pr"))
  | ((with_reducible refine pra_O (n := ?n) ?a ?b); (case a => walk_at "pr"); (case b => walk_at "pr"))
  | ((with_reducible refine pr_rows (n := ?n) ?a ?b ?c ?d); (case a => walk_at "pr"); (case b => decide); (case c => decide); (case d => decide))
  | ((with_reducible refine pr_tup (n := ?n) ?a ?b); (case a => walk_at "pr"); (case b => decide))
  | ((with_reducible refine pr_tupO (n := ?n) ?a ?b); (case a => walk_at "pr"); (case b => decide))
  | ((with_reducible refine pr_lst (n := ?n) ?a ?b); (case a => walk_at "pr"); (case b => decide))
  | ((with_reducible refine pr_lstO (n := ?n) ?a ?b); (case a => walk_at "pr"); (case b => decide))
  | with_reducible exact pr_dict
  | ((with_reducible refine pr_T (v := ?v) ?a ?b); (case a => walk_at "pv"); (case b => walk_at "sc"))
  | ((with_reducible refine pr_O (v := ?v) ?a ?b); (case a => walk_at "pv"); (case b => walk_at "sc")))
section
variable {P : Program} {w : World} {K : PySem.W.Frag} {mg : Str → Option Value} {base : Heap}
def spStranges : Sp := fun vs H Q _ => ∃ (a : Addr) (x : V) (n : Int) (G : Hp), vs = [.ref a, x, .int n] ∧ Wd a G H ∧ GdS G 8000 x ∧
  ∀ v G' H', Gr (· = a) G H G' H' → Stt H' a → LT 30 G' v → Q v H'
theorem ok_law_stranges (T : Txt K mg) : FnOk P w K mg base CX0 2 T.a_law_stranges T.d_law_stranges ["_law_state", "_law_splice", "_law_size"] spStranges := by
  refine T.F_law_stranges.ok sc_law_stranges (fun vs H Q E h => ?_) (fun cdv A outer s H vs Q E hr h => ?_)
  · obtain ⟨a, x, n, G, rfl, _⟩ := h
    rfl
  · obtain ⟨a, x, n, G, rfl, W0, ⟨q0, b, c, t, gd⟩, q⟩ := h
    have ht : t.length ≤ 100 := Nat.le_trans gd.tl (by decide)
    have hx := gd.ref
    subst hx
    refine ⟨_, (pss_cons (ps_asg (pv 1) (pg_tup rfl (pgs_cons (pg_name (i := 3) sc_law_stranges.nd rfl (Or.inl rfl)) (pgs_cons (pg_name (i := 4) sc_law_stranges.nd rfl (Or.inl rfl)) (pgs_cons (pg_name (i := 5) sc_law_stranges.nd rfl (Or.inl rfl)) pgs_nil)))))
        (pss_cons (ps_set (i := 6) sc_law_stranges.nd rfl (Or.inl rfl) (pe_lst (pa_cons pe_non (pa_cons (pe_tup pa_nil) (pa_cons (pe_tup (pa_cons (pv 3) (pa_cons (pv 4) pa_nil))) (pa_cons (pe_tup (pa_cons (pv 3) (pa_cons (pv 4) (pa_cons (pv 5) (pa_cons (pv 5) pa_nil))))) (pa_cons (pe_lst (pa_cons (pv 3) (pa_cons (pv 4) (pa_cons (pv 5) pa_nil)))) (pa_cons pe_str (pa_cons pe_int (pa_cons pe_dnewK (pa_cons (pe_tup (pa_cons (pe_tup (pa_cons (pv 3) (pa_cons (pv 4) (pa_cons (pv 5) pa_nil)))) pa_nil)) pa_nil)))))))))))
        (pss_cons (ps_set (i := 7) sc_law_stranges.nd rfl (Or.inl rfl) (pe_lst (pa_cons (pe_tup (pa_cons (pv 3) (pa_cons (pv 4) (pa_cons pe_non pa_nil)))) (pa_cons (pe_tup (pa_cons (pv 3) (pa_cons (pv 4) (pa_cons (pe_op op_addU (pv 5) pe_str) pa_nil)))) (pa_cons (pe_tup (pa_cons (pv 3) (pa_cons (pv 4) (pa_cons (pe_tup (pa_cons (pv 5) pa_nil)) pa_nil)))) (pa_cons (pe_tup (pa_cons (pv 3) (pa_cons pe_int (pa_cons pe_str pa_nil)))) (pa_cons (pe_tup (pa_cons (pv 3) (pa_cons (pv 4) (pa_cons pe_int pa_nil)))) (pa_cons (pe_tup (pa_cons (pv 3) (pa_cons (pv 4) (pa_cons (pe_lst (pa_cons (pv 5) pa_nil)) pa_nil)))) pa_nil))))))))
        (pss_cons (ps_set (i := 8) sc_law_stranges.nd rfl (Or.inl rfl) (pe_lst (pa_cons (pe_tup (pa_cons (pv 5) (pa_cons (pv 4) (pa_cons (pv 3) pa_nil)))) (pa_cons (pe_tup (pa_cons (pv 3) (pa_cons (pv 5) (pa_cons (pv 4) pa_nil)))) (pa_cons (pe_tup (pa_cons pe_bl (pa_cons (pv 4) (pa_cons (pv 5) pa_nil)))) (pa_cons (pe_tup (pa_cons (pv 3) (pa_cons pe_bl (pa_cons (pv 5) pa_nil)))) (pa_cons (pe_tup (pa_cons (pv 3) (pa_cons pe_bl (pa_cons (pv 5) pa_nil)))) (pa_cons (pe_tup (pa_cons pe_non (pa_cons (pv 4) (pa_cons (pv 5) pa_nil)))) pa_nil))))))))
        (pss_cons (ps_set (i := 9) sc_law_stranges.nd rfl (Or.inl rfl) (pe_lst (pa_cons (pe_tup (pa_cons (pe_un un_neg pe_int) (pa_cons (pv 4) (pa_cons (pv 5) pa_nil)))) (pa_cons (pe_tup (pa_cons (pv 3) (pa_cons (pe_un un_neg pe_int) (pa_cons (pv 5) pa_nil)))) (pa_cons (pe_tup (pa_cons (pe_op op_sub (pe_op op_sub pe_int (pv 3)) pe_int) (pa_cons (pv 4) (pa_cons (pv 5) pa_nil)))) (pa_cons (pe_tup (pa_cons (pv 3) (pa_cons (pe_op op_sub pe_int (pv 2)) (pa_cons (pe_op op_addU (pv 5) pe_str) pa_nil)))) pa_nil))))))
        (pss_cons (ps_set (i := 10) sc_law_stranges.nd rfl (Or.inl rfl) (pe_lst (pa_cons (pe_tup (pa_cons (pv 3) (pa_cons (pe_op op_addU (pe_op op_sub (pv 2) (pv 3)) pe_int) (pa_cons (pv 5) pa_nil)))) (pa_cons (pe_tup (pa_cons (pv 3) (pa_cons (pe_op op_sub (pv 2) (pv 3)) (pa_cons (pe_op op_addU (pv 5) pe_str) pa_nil)))) (pa_cons (pe_tup (pa_cons (pe_op op_addU (pv 2) pe_int) (pa_cons pe_int (pa_cons pe_str pa_nil)))) (pa_cons (pe_tup (pa_cons (pv 2) (pa_cons pe_int (pa_cons pe_str pa_nil)))) (pa_cons (pe_tup (pa_cons (pv 2) (pa_cons pe_int (pa_cons pe_str pa_nil)))) pa_nil)))))))
        (pss_cons (ps_set (i := 10) sc_law_stranges.nd rfl (Or.inl rfl) (pe_op op_addU (pv 10) (pe_lst (pa_cons (pe_tup (pa_cons (pe_op op_addU (pv 3) pe_int) (pa_cons (pv 4) (pa_cons (pv 5) pa_nil)))) (pa_cons (pe_tup (pa_cons (pv 3) (pa_cons pe_int (pa_cons (pv 5) pa_nil)))) (pa_cons (pe_tup (pa_cons pe_int (pa_cons (pv 2) (pa_cons pe_str pa_nil)))) (pa_cons (pe_tup (pa_cons pe_int (pa_cons (pe_op op_addU (pv 2) pe_int) (pa_cons pe_str pa_nil)))) pa_nil)))))))
        (pss_cons (ps_set (i := 11) sc_law_stranges.nd rfl (Or.inl rfl) (pe_lst (pa_cons (pe_tup (pa_cons (pe_op op_addU (pv 3) pe_int) (pa_cons (pv 4) (pa_cons (pv 5) pa_nil)))) (pa_cons (pe_tup (pa_cons (pe_callB (call_maxU rfl) (by rfl) T.n_max (by decide +kernel) (pa_cons pe_int (pa_cons (pe_op op_sub (pv 3) pe_int) pa_nil))) (pa_cons (pv 4) (pa_cons (pv 5) pa_nil)))) (pa_cons (pe_tup (pa_cons (pv 3) (pa_cons (pe_op op_addU (pv 4) pe_int) (pa_cons (pv 5) pa_nil)))) (pa_cons (pe_tup (pa_cons (pv 3) (pa_cons (pv 4) (pa_cons (pe_op op_addU pe_str (pv 5)) pa_nil)))) (pa_cons (pe_tup (pa_cons pe_int (pa_cons pe_int (pa_cons pe_str pa_nil)))) pa_nil)))))))
        (pss_cons (ps_set (i := 12) sc_law_stranges.nd rfl (Or.inl rfl) (pe_lst (pa_cons (pv 6) (pa_cons (pv 7) (pa_cons (pv 8) (pa_cons (pv 9) (pa_cons (pv 10) (pa_cons (pv 11) pa_nil))))))))
        (pss_one (ps_ret (pe_ix ix_seq (pv 12) (pe_call (ok_law_draw T) hr (by rfl) T.g_law_draw T.F_law_draw.kp T.b_law_draw .nil pass0 (pa_cons (pv 0) (pa_cons pe_int pa_nil))) (fun _ _ => rfl))))))))))))), ?_⟩
    walk_at "rs"
    walk_at "rd1"
    refine r_gtup (sqT (W0.g _ _ gd.at_)) rfl ?_
    walk_at "rd1"
    walk_at "rd1"
    walk_at "rd1"
    walk_at "rd1"
    walk_at "rd1"
    walk_at "rd1"
    walk_at "rd1"
    walk_at "rs"
    refine r_pr (P := LT 20) (by walk_at "pr") W0.g fun v1 G1 H1 s1 p1 => ?_
    walk_at "rs"
    refine r_pr (P := LT 20) (by walk_at "pr") s1.gh fun v2 G2 H2 s2 p2 => ?_
    walk_at "rs"
    refine r_pr (P := LT 20) (by walk_at "pr") s2.gh fun v3 G3 H3 s3 p3 => ?_
    walk_at "rs"
    refine r_pr (P := LT 20) (by walk_at "pr") s3.gh fun v4 G4 H4 s4 p4 => ?_
    walk_at "rs"
    refine r_pr (P := LT 10) (by walk_at "pr") s4.gh fun v5 G5 H5 s5 p5 => ?_
    walk_at "rs"
    walk_at "rd1"
    walk_at "rd1"
    refine r_pr (P := LT 10) (by walk_at "pr") s5.gh fun v6 G6 H6 s6 p6 => ?_
    obtain ⟨a5, x5, rfl, h5, n5, l5, t5⟩ := p5.up s6.gg
    obtain ⟨a6, x6, rfl, h6, n6, l6, t6⟩ := p6
    have g6 := s6.gh
    refine r_addL (g6 _ _ h5) (g6 _ _ h6) (Nat.le_trans (Nat.add_le_add l5 l6) (by decide)) fun p7 n7 => ?_
    obtain ⟨G7, H7, k7, s7, h7⟩ := new_ex g6 n7 (.lst (x5 ++ x6))
    rw [← k7]
    have q7 : LT 20 G7 (.ref p7) := ⟨p7, _, rfl, h7, fun z => n5 (List.append_eq_nil_iff.mp z).1, by rw [List.length_append]; omega, fun x hx => by
      rcases List.mem_append.mp hx with h | h
      · exact (t5 x h).up s7.gg
      · exact (t6 x h).up s7.gg⟩
    walk_at "rs"
    refine r_pr (P := LT 20) (by walk_at "pr") s7.gh fun v8 G8 H8 s8 p8 => ?_
    walk_at "rd"
    refine r_small nsz fun p9 n9 => ?_
    obtain ⟨G9, H9, k9, s9, h9⟩ := new_ex s8.gh n9 (.lst [v1, v2, v3, v4, V.ref p7, v8])
    rw [← k9]
    have tot : Gr A0 G H G9 H9 := (((((((s1.trans s2).trans s3).trans s4).trans s5).trans s6).trans s7).trans s8).trans s9
    walk_at "rd"
    have W9 := W0.pure tot
    refine ⟨a, 6, rfl, W9.st, by decide, fun d H10 d0 d6 D => ?_⟩
    have tot2 : Gr (· = a) G H G9 H10 := tot.of0.trans (W9.gdr D)
    have g89 := s9.gg
    have key : ∀ i : Int, 0 ≤ i → i < 6 → ∃ v, atI [v1, v2, v3, v4, V.ref p7, v8] i = some v ∧ LT 30 G9 v := by
      have up30 : ∀ {v G0}, Ex G0 G9 → LT 20 G0 v → LT 30 G9 v := fun e h => by
        obtain ⟨p, xs, h1, h2, h3, h4, h5⟩ := h.up e
        exact ⟨p, xs, h1, h2, h3, by omega, h5⟩
      have e8 := g89
      have e7 := s8.gg.trans e8
      have e6 := s7.gg.trans e7
      have e5 := s6.gg.trans e6
      have e4 := s5.gg.trans e5
      have e3 := s4.gg.trans e4
      have e2 := s3.gg.trans e3
      have e1 := s2.gg.trans e2
      intro i h0 h6
      have key : ∀ k : Nat, k < 6 → ∃ v, [v1, v2, v3, v4, V.ref p7, v8][k]? = some v ∧ LT 30 G9 v := by
        intro k hk
        match k, hk with
        | 0, _ => exact ⟨_, rfl, up30 e1 p1⟩
        | 1, _ => exact ⟨_, rfl, up30 e2 p2⟩
        | 2, _ => exact ⟨_, rfl, up30 e3 p3⟩
        | 3, _ => exact ⟨_, rfl, up30 e4 p4⟩
        | 4, _ => exact ⟨_, rfl, up30 e7 q7⟩
        | 5, _ => exact ⟨_, rfl, up30 e8 p8⟩
      obtain ⟨v, e, l⟩ := key i.toNat (by omega)
      exact ⟨v, at_g (by omega) e, l⟩
    obtain ⟨v, hv, lt⟩ := key d d0 d6
    refine r_ixL (sqL (tot2.gh _ _ h9)) hv ?_
    exact q v _ _ tot2 D.st lt
def spStrange : Sp := fun vs H Q _ => ∃ (a : Addr) (x : V) (n : Int) (G : Hp), vs = [.ref a, x, .int n] ∧ Wd a G H ∧ GdS G 8000 x ∧
  ∀ v G' H', Gr (· = a) G H G' H' → Stt H' a → Thg G' v → Q v H'
theorem ok_law_strange (T : Txt K mg) : FnOk P w K mg base CX0 3 T.a_law_strange T.d_law_strange ["_law_state", "_law_splice", "_law_size"] spStrange := by
  refine T.F_law_strange.ok sc_law_strange (fun vs H Q E h => ?_) (fun cdv A outer s H vs Q E hr h => ?_)
  · obtain ⟨a, x, n, G, rfl, _⟩ := h
    rfl
  · obtain ⟨a, x, n, G, rfl, W0, gd, q⟩ := h
    refine ⟨_, (pss_cons (ps_set (i := 3) sc_law_strange.nd rfl (Or.inl rfl) (pe_call (ok_law_stranges T) hr (by rfl) T.g_law_stranges T.F_law_stranges.kp T.b_law_stranges .nil pass0 (pa_cons (pv 0) (pa_cons (pv 1) (pa_cons (pv 2) pa_nil)))))
        (pss_one (ps_ret (pe_ix ix_seq (pv 3) (pe_call (ok_law_draw T) (hr.mono (by decide)) (by rfl) T.g_law_draw T.F_law_draw.kp T.b_law_draw .nil pass0 (pa_cons (pv 0) (pa_cons (pe_callB call_lenU (by rfl) T.n_len (by decide +kernel) (pa_cons (pv 3) pa_nil)) pa_nil))) (fun _ _ => rfl))))), ?_⟩
    walk_at "rd"
    refine ⟨a, x, n, G, rfl, W0, gd, fun v G1 H1 t1 st1 lt => ?_⟩
    obtain ⟨p, xs, rfl, hp, hne, hl, ht⟩ := lt
    have W1 := W0.step t1 st1
    walk_at "rd"
    refine r_lenL (sqL (W1.g _ _ hp)) ?_
    walk_at "rd"
    have hpos : 0 < xs.length := List.length_pos_iff.mpr hne
    refine ⟨a, xs.length, rfl, st1, by omega, fun d H2 d0 d1 D => ?_⟩
    obtain ⟨y, hy, hm⟩ := atI_lt d0 d1
    have t2 := t1.trans (W1.gdr D)
    refine r_ixL (sqL (t2.gh _ _ hp)) hy ?_
    exact q y _ _ t2 D.st (ht y hm)
end
end K14
namespace K14
open PySem PySem.Spec PyProof.Rows L2 Dk
/-- one step of a reading -/
local macro_rules | `(tactic| walk_at "rd1") => `(tactic| first
  | ((with_reducible refine r_var (v := ?rv) ?rh ?_); (case rh => rfl))
  | with_reducible refine r_c ?_
  | with_reducible refine r_seq ?_
  | with_reducible refine r_asg ?_
  | with_reducible refine r_gname ?_
  | with_reducible refine r_op ?_
  | with_reducible refine r_forLo ?_
  | with_reducible refine r_forTo ?_
  | with_reducible refine r_forSo ?_
  | with_reducible refine r_forRo ?_
  | with_reducible refine r_forR2o ?_
  | with_reducible refine r_forEo ?_
  | with_reducible refine r_forESo ?_
  | with_reducible refine r_xfo ?_
  | with_reducible refine r_noP ?_
  | with_reducible refine r_part ?_
  | with_reducible refine r_pI ?_
  | with_reducible refine r_gcons ?_
  | with_reducible refine r_gnil ?_
  | with_reducible refine r_mkO ?_
  | with_reducible refine r_un ?_
  | with_reducible refine r_addI ?_
  | with_reducible refine r_I0 ?_
  | with_reducible refine r_U ?_
  | with_reducible refine r_cons ?_
  | with_reducible refine r_nil ?_
  | with_reducible refine r_CB ?_
  | with_reducible refine r_call ?_
  | with_reducible refine r_callS ?_
  | with_reducible refine r_int ?_
  | with_reducible refine r_max ?_
  | with_reducible refine r_min ?_
  | with_reducible refine r_test ?_
  | with_reducible refine r_B ?_
  | with_reducible refine r_blv ?_
  | with_reducible refine r_and ?_
  | with_reducible refine r_or ?_
  | with_reducible refine r_not ?_
  | with_reducible refine r_andV ?_
  | with_reducible refine r_orV ?_
  | with_reducible refine r_notV ?_
  | with_reducible refine r_ifE ?_
  | with_reducible refine r_ifS ?_
  | with_reducible refine r_ret ?_
  | with_reducible refine r_retN ?_
  | with_reducible refine r_drop ?_
  | with_reducible refine r_next ?_
  | with_reducible refine r_sl ?_
  | with_reducible refine r_gsub ?_
  | with_reducible refine r_bm ?_
  | with_reducible refine r_tup ?_
  | with_reducible refine r_lst ?_
  | with_reducible refine r_isN ?_
  | with_reducible refine r_notN ?_
  | with_reducible refine r_itt ?_
  | with_reducible refine r_iff ?_
  | with_reducible refine r_ittN ?_
  | with_reducible refine r_iffN ?_
  | ((with_reducible refine r_ittD ?rh ?_); (case rh => rfl))
  | ((with_reducible refine r_iffD ?rh ?_); (case rh => rfl))
  | ((with_reducible refine r_modP ?rh ?_); (case rh => decide))
  | ((with_reducible refine r_eq ?rh ?_); (case rh => rfl))
  | ((with_reducible refine r_ne ?rh ?_); (case rh => rfl)))
local macro_rules | `(tactic| walk_at "rd") => `(tactic| repeat walk_at "rd1")
local macro_rules | `(tactic| walk_at "isi") => `(tactic| first | refine r_isi (b := true) (by assumption) (by decide +kernel) ?_ | refine r_isi (b := false) (by assumption) (by decide +kernel) ?_)
local macro_rules | `(tactic| walk_at "rs1") => `(tactic| first
  | with_reducible refine r_seq ?_
  | with_reducible refine r_asg ?_
  | with_reducible refine r_gname ?_
  | with_reducible refine r_ret ?_)
local macro_rules | `(tactic| walk_at "rs") => `(tactic| repeat walk_at "rs1")

section
variable {P : Program} {w : World} {K : PySem.W.Frag} {mg : Str → Option Value} {base : Heap}
def spBent : Sp := fun vs H Q _ => ∃ (a f : Addr) (n : Int) (G : Hp) (xs : List V), vs = [.ref a, .ref f, .int n] ∧ Wd a G H ∧ G f = some (.lst xs) ∧ GRw G 8000 200 xs ∧
  ∀ p G' H' ys, Gr (· = a) G H G' H' → Stt H' a → G' p = some (.lst ys) → Rw G' ys → Q (.ref p) H'
/-- the row under way -/
structure Bn (a p : Addr) (G H G1 H1 : Hp) (ys : List V) : Prop where
  t : Gr (· = a) G H G1 H1
  st : Stt H1 a
  own : H1 p = some (.lst ys)
  gp : G1 p = none
  hp : H p = none
  len : ys.length ≤ 500
  thg : ∀ y ∈ ys, Thg G1 y
section
variable {a p : Addr} {G H G1 H1 G2 H2 : Hp} {ys : List V} {v : V}
theorem Bn.step (b : Bn a p G H G1 H1 ys) (t : Gr (· = a) G1 H1 G2 H2) (s : Stt H2 a) (pa : p ≠ a) : Bn a p G H G2 H2 ys :=
  ⟨b.t.trans t, s, t.hh _ _ pa b.own, t.nw _ _ b.own b.gp, b.hp, b.len, fun y hy => (b.thg y hy).up t.gg⟩
theorem Bn.put (b : Bn a p G H G1 H1 ys) (pa : p ≠ a) (zs : List V) (hl : zs.length ≤ 500) (ht : ∀ z ∈ zs, z ∈ ys ∨ Thg G1 z) : Bn a p G H G1 (upd H1 p (.lst zs)) zs :=
  ⟨b.t.mut (.inr b.hp) b.gp, b.st.put pa, upd_same, b.gp, b.hp, hl, fun z hz => (ht z hz).elim (b.thg z) id⟩
theorem Bn.setv (b : Bn a p G H G1 H1 ys) (pa : p ≠ a) (n : Nat) (hv : v ∈ ys ∨ Thg G1 v) : Bn a p G H G1 (upd H1 p (.lst (ys.set n v))) (ys.set n v) :=
  b.put pa _ (by rw [List.length_set]; exact b.len) fun z hz => (List.mem_or_eq_of_mem_set hz).elim .inl fun e => by
    rw [e]
    exact hv
theorem Bn.appv (b : Bn a p G H G1 H1 ys) (pa : p ≠ a) (hl : ys.length ≤ 450) (hv : v ∈ ys ∨ Thg G1 v) : Bn a p G H G1 (upd H1 p (.lst (ys ++ [v]))) (ys ++ [v]) :=
  b.put pa _ (by rw [List.length_append]; simp; omega) fun z hz => (List.mem_append.mp hz).elim .inl fun e => by
    rw [List.mem_singleton.mp e]
    exact hv
theorem Bn.wd (b : Bn a p G H G1 H1 ys) (W : Wd a G H) : Wd a G1 H1 := W.step b.t b.st
end
theorem ok_law_bent (T : Txt K mg) : FnOk P w K mg base CX0 4 T.a_law_bent T.d_law_bent ["_law_state", "_law_good", "_law_size"] spBent := by
  refine T.F_law_bent.ok sc_law_bent (fun vs H Q E h => ?_) (fun cdv A outer s H vs Q E hr h => ?_)
  · obtain ⟨a, f, n, G, xs, rfl, _⟩ := h
    rfl
  · obtain ⟨a, f, n, G, xs, rfl, W0, hf, gr, q⟩ := h
    have hpos : 0 < xs.length := List.length_pos_iff.mpr gr.ne
    have hlen := gr.len
    refine ⟨_, (pss_cons (ps_set (i := 3) sc_law_bent.nd rfl (Or.inl rfl) (pe_callTy call_listU (by rfl) T.n_list (by decide +kernel) (pa_cons (pv 1) pa_nil)))
        (pss_cons (ps_set (i := 4) sc_law_bent.nd rfl (Or.inl rfl) (pe_call (ok_law_draw T) (hr.mono (by decide)) (by rfl) T.g_law_draw T.F_law_draw.kp T.b_law_draw .nil pass0 (pa_cons (pv 0) (pa_cons (pe_callB call_lenU (by rfl) T.n_len (by decide +kernel) (pa_cons (pv 3) pa_nil)) pa_nil))))
        (pss_cons (ps_set (i := 5) sc_law_bent.nd rfl (Or.inl rfl) (pe_call (ok_law_draw T) (hr.mono (by decide)) (by rfl) T.g_law_draw T.F_law_draw.kp T.b_law_draw .nil pass0 (pa_cons (pv 0) (pa_cons pe_int pa_nil))))
        (Evl.pss_cut (ps_if (pt_cmpR op_lt (pv 5) pe_int (nomark _)) (pss_one (ps_asg (pe_call (ok_law_strange T) hr (by rfl) T.g_law_strange T.F_law_strange.kp T.b_law_strange .nil pass0 (pa_cons (pv 0) (pa_cons (pe_ix ix_seq (pv 1) (pv 4) (fun _ _ => rfl)) (pa_cons (pv 2) pa_nil)))) (pg_sub (pv 3) (pv 4) set_list))) (pss_one (ps_if (pt_cmpR (op_eqU hr.units) (pv 5) pe_int (nomark _)) (pss_one (ps_expr (pe_bm PySem.F.plainAttrs_list PySem.F.slot_list_append PySem.F.type_list_append mt_append (pv 3) (pa_cons (pe_call (ok_law_strange T) hr (by rfl) T.g_law_strange T.F_law_strange.kp T.b_law_strange .nil pass0 (pa_cons (pv 0) (pa_cons (pe_ix ix_seq (pv 1) (pe_op op_sub (pe_callB call_lenU (by rfl) T.n_len (by decide +kernel) (pa_cons (pv 1) pa_nil)) pe_int) (fun _ _ => rfl)) (pa_cons (pv 2) pa_nil)))) pa_nil)))) (pss_one (ps_if (pt_cmpR (op_eqU hr.units) (pv 5) pe_int (nomark _)) (pss_one (ps_set (i := 3) sc_law_bent.nd rfl (Or.inl rfl) (pe_op op_addU (pe_op op_addU (pe_slice sl_U (pv 3) po_none (po_some (pv 4))) (pe_lst (pa_cons (pe_ix ix_seq (pv 3) (pv 4) (fun _ _ => rfl)) pa_nil))) (pe_slice sl_U (pv 3) (po_some (pv 4)) po_none)))) (pss_one (ps_if (PW.pt (pw_and (pt_cmpR op_gt (pv 5) pe_int (nomark _)) (pw_and1 (pt_cmpR op_lt (pe_op op_addU (pv 4) pe_int) (pe_callB call_lenU (by rfl) T.n_len (by decide +kernel) (pa_cons (pv 1) pa_nil)) (nomark _))))) (pss_one (ps_asg (pe_tup (pa_cons (pe_ix ix_seq (pe_ix ix_seq (pv 1) (pv 4) (fun _ _ => rfl)) pe_int (fun _ _ => rfl)) (pa_cons (pe_op op_addU (pe_op op_sub (pe_ix ix_seq (pe_ix ix_seq (pv 1) (pe_op op_addU (pv 4) pe_int) (fun _ _ => rfl)) pe_int (fun _ _ => rfl)) (pe_ix ix_seq (pe_ix ix_seq (pv 1) (pv 4) (fun _ _ => rfl)) pe_int (fun _ _ => rfl))) (pe_call (ok_law_draw T) (hr.mono (by decide)) (by rfl) T.g_law_draw T.F_law_draw.kp T.b_law_draw .nil pass0 (pa_cons (pv 0) (pa_cons pe_int pa_nil)))) (pa_cons (pe_op op_addU (pe_ix ix_seq (pe_ix ix_seq (pv 1) (pv 4) (fun _ _ => rfl)) pe_int (fun _ _ => rfl)) pe_str) pa_nil)))) (pg_sub (pv 3) (pv 4) set_list))) (pss_one (ps_if (pt_cmpR (op_eqU hr.units) (pv 5) pe_int (nomark _)) (pss_cons (ps_set (i := 6) sc_law_bent.nd rfl (Or.inl rfl) (pe_call (ok_law_draw T) (hr.mono (by decide)) (by rfl) T.g_law_draw T.F_law_draw.kp T.b_law_draw .nil pass0 (pa_cons (pv 0) (pa_cons (pe_callB call_lenU (by rfl) T.n_len (by decide +kernel) (pa_cons (pv 3) pa_nil)) pa_nil))))
        (pss_one (ps_asg (pe_tup (pa_cons (pe_ix ix_seq (pv 1) (pv 6) (fun _ _ => rfl)) (pa_cons (pe_ix ix_seq (pv 1) (pv 4) (fun _ _ => rfl)) pa_nil))) (pg_tup rfl (pgs_cons (pg_sub (pv 3) (pv 4) set_list) (pgs_cons (pg_sub (pv 3) (pv 6) set_list) pgs_nil)))))) (pss_one (ps_set (i := 3) sc_law_bent.nd rfl (Or.inl rfl) (pe_op op_addU (pe_op op_addU (pe_slice sl_U (pv 3) po_none (po_some (pv 4))) (pe_lst (pa_cons (pe_tup (pa_cons (pe_ix ix_seq (pe_ix ix_seq (pv 1) (pv 4) (fun _ _ => rfl)) pe_int (fun _ _ => rfl)) (pa_cons pe_int (pa_cons pe_str pa_nil)))) pa_nil))) (pe_slice sl_U (pv 3) (po_some (pv 4)) po_none)))))))))))))
        (pss_cons (ps_if (pt_cmpR (op_eqU hr.units) (pe_call (ok_law_draw T) (hr.mono (by decide)) (by rfl) T.g_law_draw T.F_law_draw.kp T.b_law_draw .nil pass0 (pa_cons (pv 0) (pa_cons pe_int pa_nil))) pe_int (nomark _)) (pss_one (ps_expr (pe_bm PySem.F.plainAttrs_list PySem.F.slot_list_append PySem.F.type_list_append mt_append (pv 3) (pa_cons (pe_call (ok_law_strange T) hr (by rfl) T.g_law_strange T.F_law_strange.kp T.b_law_strange .nil pass0 (pa_cons (pv 0) (pa_cons (pe_ix ix_seq (pv 1) (pv 4) (fun _ _ => rfl)) (pa_cons (pv 2) pa_nil)))) pa_nil)))) pss_nil)
        (pss_one (ps_ret (pv 3)))))))), ?_⟩
    walk_at "rd"
    refine r_listL (sqL (W0.g _ _ hf)) fun p hp => ?_
    have pa : p ≠ a := W0.st.ne hp
    have B0 : Bn a p G H G (upd H p (.lst xs)) xs := ⟨Gr.own W0.g hp, W0.st.put pa, upd_same, W0.g.free hp, hp, by omega, fun y hy => (gr.all y hy).thg⟩
    walk_at "rd"
    refine r_lenL (sqL upd_same) ?_
    walk_at "rd"
    refine ⟨a, xs.length, rfl, B0.st, by omega, fun k H2 k0 k1 D2 => ?_⟩
    have B2 := B0.step ((B0.wd W0).gdr D2) D2.st pa
    walk_at "rd"
    refine ⟨a, 10, rfl, B2.st, by decide, fun wy H3 w0 w1 D3 => ?_⟩
    have B3 := B2.step ((B2.wd W0).gdr D3) D3.st pa
    walk_at "rs"
    -- behind the branches
    refine ⟨fun σ H' => ∃ (y : Option V) (p : Addr) (ys : List V) (G1 : Hp), σ = [some (.ref a), some (.ref f), some (.int n), some (.ref p), some (.int k), some (.int wy), y] ∧ p ≠ a ∧ ys.length ≤ 450 ∧ Bn a p G H G1 H' ys, ?_, ?_⟩
    · have gat : ∀ {G1 : Hp} {i : Int}, Ex G G1 → 0 ≤ i → i < (xs.length : Int) → ∃ x q b c t, atI xs i = some x ∧ Gd G1 8000 x q b c t := fun e h0 h1 => by
        obtain ⟨x, h, hm⟩ := atI_lt h0 h1
        obtain ⟨q, b, c, t, g⟩ := gr.all x hm
        exact ⟨x, q, b, c, t, h, g.up e⟩
      have hf3 : H3 f = some (.lst xs) := B3.t.g0 _ _ hf
      walk_at "rd"
      refine r_ite (fun h4 => ?_) (fun h4 => ?_)
      · -- way < 4
        walk_at "rd"
        obtain ⟨x, q1, b, c, t, hx, g⟩ := gat (G1 := G) (Same.refl G) k0 k1
        refine r_ixL (sqL hf3) hx ?_
        walk_at "rd"
        refine ⟨a, x, n, G, rfl, B3.wd W0, ⟨q1, b, c, t, g⟩, fun v G4 H4 t4 st4 hv => ?_⟩
        have B4 := B3.step t4 st4 pa
        walk_at "rd"
        refine r_setL B4.own (ixN_nat k0 k1) ?_
        walk_at "rd"
        exact ⟨_, p, _, G4, rfl, pa, by rw [List.length_set]; omega, B4.setv pa k.toNat (.inr hv)⟩
      walk_at "rd"
      refine r_ite (fun h5 => ?_) (fun h5 => ?_)
      · -- way == 4
        walk_at "rd"
        refine r_tyL (sqL B3.own) ?_
        walk_at "rd"
        refine r_lenL (sqL hf3) ?_
        walk_at "rd"
        obtain ⟨x, q1, b, c, t, hx, g⟩ := gat (G1 := G) (i := (xs.length : Nat) - 1) (Same.refl G) (by omega) (by omega)
        refine r_ixL (sqL hf3) hx ?_
        walk_at "rd"
        refine ⟨a, x, n, G, rfl, B3.wd W0, ⟨q1, b, c, t, g⟩, fun v G4 H4 t4 st4 hv => ?_⟩
        have B4 := B3.step t4 st4 pa
        walk_at "rd"
        refine r_app B4.own (Nat.lt_trans (show xs.length < 400 by omega) (by decide)) ?_
        walk_at "rd"
        exact ⟨_, p, xs ++ [v], G4, rfl, pa, by rw [List.length_append]; simp; omega, B4.appv pa (by omega) (.inr hv)⟩
      walk_at "rd"
      refine r_ite (fun h6 => ?_) (fun h6 => ?_)
      · -- way == 5
        walk_at "rd"
        refine r_slL (sqL B3.own) fun l1 n1 => ?_
        obtain ⟨G4, H4, k4, s4, h4⟩ := new_ex B3.t.gh n1 (.lst (cutV xs none (some k)))
        rw [← k4]
        have B4 := B3.step s4.of0 (B3.st.up s4.same) pa
        walk_at "rd"
        obtain ⟨x, hx, hm⟩ := atI_lt k0 k1
        refine r_ixL (sqL B4.own) hx ?_
        walk_at "rd"
        refine r_small nsz fun l2 n2 => ?_
        obtain ⟨G5, H5, k5, s5, h5⟩ := new_ex B4.t.gh n2 (.lst [x])
        rw [← k5]
        have B5 := B4.step s5.of0 (B4.st.up s5.same) pa
        refine r_addL (s5.same _ _ (s4.gh _ _ h4)) (s5.gh _ _ h5) (Nat.le_trans (Nat.add_le_add (Nat.le_trans cutV_len hlen) (show [x].length ≤ 1 by simp)) (by decide)) fun l3 n3 => ?_
        obtain ⟨G6, H6, k6, s6, h6⟩ := new_ex B5.t.gh n3 (.lst (cutV xs none (some k) ++ [x]))
        rw [← k6]
        have B6 := B5.step s6.of0 (B5.st.up s6.same) pa
        walk_at "rd"
        refine r_slL (sqL B6.own) fun l4 n4 => ?_
        obtain ⟨G7, H7, k7, s7, h7⟩ := new_ex B6.t.gh n4 (.lst (cutV xs (some k) none))
        rw [← k7]
        have B7 := B6.step s7.of0 (B6.st.up s7.same) pa
        have c1 := cutV_len (xs := xs) (lo := none) (hi := some k)
        have c2 := cutV_len (xs := xs) (lo := some k) (hi := none)
        have c3 : (cutV xs none (some k) ++ [x]).length ≤ 201 := by
          rw [List.length_append]
          simp
          omega
        refine r_addL (s7.same _ _ (s6.gh _ _ h6)) (s7.gh _ _ h7) (Nat.le_trans (Nat.add_le_add c3 (Nat.le_trans c2 hlen)) (by decide)) fun l5 n5 => ?_
        walk_at "rd"
        have l5a : l5 ≠ a := B7.st.ne n5
        have h450 : (cutV xs none (some k) ++ [x] ++ cutV xs (some k) none).length ≤ 450 := by
          rw [List.length_append]
          omega
        refine ⟨_, l5, _, G7, rfl, l5a, h450, B7.t.trans (Gr.own B7.t.gh n5), B7.st.put l5a, upd_same, B7.t.gh.free n5, B7.t.fresh n5, by omega, fun z hz => ?_⟩
        · rcases List.mem_append.mp hz with h | h
          · rcases List.mem_append.mp h with h | h
            · exact B7.thg z (cutV_mem h)
            · exact B7.thg z (List.mem_singleton.mp h ▸ hm)
          · exact B7.thg z (cutV_mem h)
      with_reducible refine r_ifS ?_
      obtain ⟨x, q1, b, c, t, hx, g⟩ := gat (G1 := G) (Same.refl G) k0 k1
      have hxr := g.ref
      subst hxr
      have g3 : H3 q1 = some (.tup [.int b, .int c, .str t]) := B3.t.g0 _ _ g.at_
      refine r_andB (b1 := decide (7 < wy)) (b2 := decide (k + 1 < (xs.length : Nat))) (fun QB q => ?_) (fun _ QB q => ?_) ?_
      · walk_at "rd"
        exact q
      · walk_at "rd"
        refine r_lenL (sqL hf3) ?_
        walk_at "rd"
        exact q
      refine r_iteB (fun h78 => ?_) (fun h78 => ?_)
      · have h8 : k + 1 < (xs.length : Nat) := of_decide_eq_true (Bool.and_eq_true_iff.mp h78).2
        walk_at "rd"
        refine r_ixL (sqL hf3) hx ?_
        walk_at "rd"
        refine r_ixT (sqT g3) (atI_nat (j := 0) rfl) ?_
        walk_at "rd"
        obtain ⟨x', q2, b2, c2, t2, hx2, g2⟩ := gat (G1 := G) (i := k + 1) (Same.refl G) (by omega) h8
        have hxr2 := g2.ref
        subst hxr2
        have g32 : H3 q2 = some (.tup [.int b2, .int c2, .str t2]) := B3.t.g0 _ _ g2.at_
        refine r_ixL (sqL hf3) hx2 ?_
        walk_at "rd"
        refine r_ixT (sqT g32) (atI_nat (j := 0) rfl) ?_
        walk_at "rd"
        refine r_ixL (sqL hf3) hx ?_
        walk_at "rd"
        refine r_ixT (sqT g3) (atI_nat (j := 0) rfl) ?_
        walk_at "rd"
        refine ⟨a, 2, rfl, B3.st, by decide, fun d H4 d0 d1 D4 => ?_⟩
        have B4 := B3.step ((B3.wd W0).gdr D4) D4.st pa
        walk_at "rd"
        refine r_ixL (sqL (B4.t.g0 _ _ hf)) hx ?_
        walk_at "rd"
        refine r_ixT (sqT (B4.t.g0 _ _ g.at_)) (atI_nat (j := 2) rfl) ?_
        walk_at "rd"
        have tl := g.tl
        refine r_addS (Nat.le_trans (Nat.add_le_add tl (show ("-" : Str).length ≤ 1 by decide)) (by decide)) ?_
        walk_at "rd"
        refine r_small nsz fun q5 n5 => ?_
        obtain ⟨G5, H5, k5, s5, h5⟩ := new_ex B4.t.gh n5 (.tup [.int b, .int (b2 - b + d), .str (t ++ "-")])
        rw [← k5]
        have B5 := B4.step s5.of0 (B4.st.up s5.same) pa
        walk_at "rd"
        refine r_setL B5.own (ixN_nat k0 k1) ?_
        walk_at "rd"
        refine ⟨_, p, _, G5, rfl, pa, by rw [List.length_set]; omega, B5.setv pa k.toNat (.inr (thg_tup h5 nsz fun y hy => ?_))⟩
        rcases List.mem_cons.mp hy with rfl | hy
        · exact ⟨_, .int _⟩
        rcases List.mem_cons.mp hy with rfl | hy
        · exact ⟨_, .int _⟩
        rw [List.mem_singleton.mp hy]
        refine ⟨_, .str _ ?_⟩
        rw [Str.length_append]
        have : ("-" : Str).length = 1 := rfl
        omega
      walk_at "rd"
      refine r_ite (fun h9 => ?_) (fun h9 => ?_)
      · -- way == 6
        walk_at "rd"
        refine r_lenL (sqL B3.own) ?_
        walk_at "rd"
        refine ⟨a, xs.length, rfl, B3.st, by omega, fun o H4 o0 o1 D4 => ?_⟩
        have B4 := B3.step ((B3.wd W0).gdr D4) D4.st pa
        walk_at "rd"
        obtain ⟨y, hy, hym⟩ := atI_lt o0 o1
        obtain ⟨x0, hx0, hxm⟩ := atI_lt k0 k1
        rw [hx] at hx0
        cases hx0
        have hf4 := B4.t.g0 _ _ hf
        refine r_ixL (sqL hf4) hy ?_
        walk_at "rd"
        refine r_ixL (sqL hf4) hx ?_
        walk_at "rd"
        refine r_small nsz fun q5 n5 => ?_
        obtain ⟨G5, H5, k5, s5, h5⟩ := new_ex B4.t.gh n5 (.tup [y, .ref q1])
        rw [← k5]
        have B5 := B4.step s5.of0 (B4.st.up s5.same) pa
        refine r_gtup (sqT (s5.gh _ _ h5)) rfl ?_
        walk_at "rd"
        refine r_setL B5.own (ixN_nat k0 k1) ?_
        walk_at "rd"
        refine r_setL upd_same (ixN_nat o0 (by rw [List.length_set]; exact o1)) ?_
        walk_at "rd"
        exact ⟨_, p, _, G5, rfl, pa, by rw [List.length_set, List.length_set]; omega, (B5.setv pa k.toNat (.inl hym)).setv pa o.toNat (.inr (B5.thg _ hxm))⟩
      · -- else
        walk_at "rd"
        refine r_slL (sqL B3.own) fun l1 n1 => ?_
        obtain ⟨G4, H4, k4, s4, h4⟩ := new_ex B3.t.gh n1 (.lst (cutV xs none (some k)))
        rw [← k4]
        have B4 := B3.step s4.of0 (B3.st.up s4.same) pa
        walk_at "rd"
        refine r_ixL (sqL (B4.t.g0 _ _ hf)) hx ?_
        walk_at "rd"
        refine r_ixT (sqT (B4.t.g0 _ _ g.at_)) (atI_nat (j := 0) rfl) ?_
        walk_at "rd"
        refine r_small nsz fun q5 n5 => ?_
        obtain ⟨G5, H5, k5, s5, h5⟩ := new_ex B4.t.gh n5 (.tup [.int b, .int 0, .str "#"])
        rw [← k5]
        have B5 := B4.step s5.of0 (B4.st.up s5.same) pa
        have tq : Thg G5 (.ref q5) := thg_tup h5 nsz fun y hy => by
          rcases List.mem_cons.mp hy with rfl | hy
          · exact ⟨_, .int _⟩
          rcases List.mem_cons.mp hy with rfl | hy
          · exact ⟨_, .int _⟩
          rw [List.mem_singleton.mp hy]
          exact ⟨_, .str _ (by decide)⟩
        walk_at "rd"
        refine r_small nsz fun l2 n2 => ?_
        obtain ⟨G6, H6, k6, s6, h6⟩ := new_ex B5.t.gh n2 (.lst [.ref q5])
        rw [← k6]
        have B6 := B5.step s6.of0 (B5.st.up s6.same) pa
        refine r_addL (s6.same _ _ (s5.same _ _ (s4.gh _ _ h4))) (s6.gh _ _ h6) (Nat.le_trans (Nat.add_le_add (Nat.le_trans cutV_len hlen) (show [V.ref q5].length ≤ 1 by simp)) (by decide)) fun l3 n3 => ?_
        obtain ⟨G7, H7, k7, s7, h7⟩ := new_ex B6.t.gh n3 (.lst (cutV xs none (some k) ++ [.ref q5]))
        rw [← k7]
        have B7 := B6.step s7.of0 (B6.st.up s7.same) pa
        walk_at "rd"
        refine r_slL (sqL B7.own) fun l4 n4 => ?_
        obtain ⟨G8, H8, k8, s8, h8⟩ := new_ex B7.t.gh n4 (.lst (cutV xs (some k) none))
        rw [← k8]
        have B8 := B7.step s8.of0 (B7.st.up s8.same) pa
        have c1 := cutV_len (xs := xs) (lo := none) (hi := some k)
        have c2 := cutV_len (xs := xs) (lo := some k) (hi := none)
        have c3 : (cutV xs none (some k) ++ [V.ref q5]).length ≤ 201 := by
          rw [List.length_append]
          simp
          omega
        refine r_addL (s8.same _ _ (s7.gh _ _ h7)) (s8.gh _ _ h8) (Nat.le_trans (Nat.add_le_add c3 (Nat.le_trans c2 hlen)) (by decide)) fun l5 n5 => ?_
        walk_at "rd"
        have l5a : l5 ≠ a := B8.st.ne n5
        have h450 : (cutV xs none (some k) ++ [V.ref q5] ++ cutV xs (some k) none).length ≤ 450 := by
          rw [List.length_append]
          omega
        refine ⟨_, l5, _, G8, rfl, l5a, h450, B8.t.trans (Gr.own B8.t.gh n5), B8.st.put l5a, upd_same, B8.t.gh.free n5, B8.t.fresh n5, by omega, fun z hz => ?_⟩
        rcases List.mem_append.mp hz with h | h
        · rcases List.mem_append.mp h with h | h
          · exact B8.thg z (cutV_mem h)
          · exact List.mem_singleton.mp h ▸ ((tq.up s6.gg).up s7.gg).up s8.gg
        · exact B8.thg z (cutV_mem h)
    · rintro σ H' ⟨y, p, ys, G1, rfl, pa, hys, B⟩
      walk_at "rd"
      refine ⟨a, 4, rfl, B.st, by decide, fun d H5 d0 d1 D5 => ?_⟩
      have B5 := B.step ((B.wd W0).gdr D5) D5.st pa
      have fin : ∀ {G6 H6 ys}, Bn a p G H G6 H6 ys → Q (.ref p) H6 := fun {G6 H6 ys} B6 =>
        q p _ _ ys (B6.t.give B6.hp B6.own B6.gp) B6.st upd_same ⟨Nat.le_trans B6.len (by decide), fun x hx => (B6.thg x hx).up (Same.new (Same.refl G6) B6.gp)⟩
      walk_at "rd"
      refine r_ite (fun h => ?_) (fun h => ?_)
      · walk_at "rd"
        refine r_tyL (sqL B5.own) ?_
        walk_at "rd"
        obtain ⟨x, hx, hm⟩ := atI_lt k0 k1
        refine r_ixL (sqL (B5.t.g0 _ _ hf)) hx ?_
        walk_at "rd"
        refine ⟨a, x, n, G1, rfl, B5.wd W0, (gr.all x hm).up B5.t.gg, fun v G6 H6 t6 st6 hv => ?_⟩
        have B6 := B5.step t6 st6 pa
        walk_at "rd"
        refine r_app B6.own (Nat.lt_of_le_of_lt B6.len (by decide)) ?_
        walk_at "rd"
        exact fin (B6.appv pa hys (.inr hv))
      · walk_at "rd"
        exact fin B5
end
end K14
namespace K14
open PySem PySem.Spec PyProof.Rows L2 Dk
/-- one step of a reading -/
local macro_rules | `(tactic| walk_at "rd1") => `(tactic| first
  | ((with_reducible refine r_var (v := ?rv) ?rh ?_); (case rh => rfl))
  | with_reducible refine r_c ?_
  | with_reducible refine r_seq ?_
  | with_reducible refine r_asg ?_
  | with_reducible refine r_gname ?_
  | with_reducible refine r_op ?_
  | with_reducible refine r_forLo ?_
  | with_reducible refine r_forTo ?_
  | with_reducible refine r_forSo ?_
  | with_reducible refine r_forRo ?_
  | with_reducible refine r_forR2o ?_
  | with_reducible refine r_forEo ?_
  | with_reducible refine r_forESo ?_
  | with_reducible refine r_xfo ?_
  | with_reducible refine r_noP ?_
  | with_reducible refine r_part ?_
  | with_reducible refine r_pI ?_
  | with_reducible refine r_gcons ?_
  | with_reducible refine r_gnil ?_
  | with_reducible refine r_mkO ?_
  | with_reducible refine r_un ?_
  | with_reducible refine r_addI ?_
  | with_reducible refine r_I0 ?_
  | with_reducible refine r_U ?_
  | with_reducible refine r_cons ?_
  | with_reducible refine r_nil ?_
  | with_reducible refine r_CB ?_
  | with_reducible refine r_call ?_
  | with_reducible refine r_callS ?_
  | with_reducible refine r_int ?_
  | with_reducible refine r_max ?_
  | with_reducible refine r_min ?_
  | with_reducible refine r_test ?_
  | with_reducible refine r_B ?_
  | with_reducible refine r_blv ?_
  | with_reducible refine r_and ?_
  | with_reducible refine r_or ?_
  | with_reducible refine r_not ?_
  | with_reducible refine r_andV ?_
  | with_reducible refine r_orV ?_
  | with_reducible refine r_notV ?_
  | with_reducible refine r_ifE ?_
  | with_reducible refine r_ifS ?_
  | with_reducible refine r_ret ?_
  | with_reducible refine r_retN ?_
  | with_reducible refine r_drop ?_
  | with_reducible refine r_next ?_
  | with_reducible refine r_sl ?_
  | with_reducible refine r_gsub ?_
  | with_reducible refine r_bm ?_
  | with_reducible refine r_tup ?_
  | with_reducible refine r_lst ?_
  | with_reducible refine r_isN ?_
  | with_reducible refine r_notN ?_
  | with_reducible refine r_itt ?_
  | with_reducible refine r_iff ?_
  | with_reducible refine r_ittN ?_
  | with_reducible refine r_iffN ?_
  | ((with_reducible refine r_ittD ?rh ?_); (case rh => rfl))
  | ((with_reducible refine r_iffD ?rh ?_); (case rh => rfl))
  | ((with_reducible refine r_modP ?rh ?_); (case rh => decide))
  | ((with_reducible refine r_eq ?rh ?_); (case rh => rfl))
  | ((with_reducible refine r_ne ?rh ?_); (case rh => rfl)))
local macro_rules | `(tactic| walk_at "rd") => `(tactic| repeat walk_at "rd1")
local macro_rules | `(tactic| walk_at "isi") => `(tactic| first | refine r_isi (b := true) (by assumption) (by decide +kernel) ?_ | refine r_isi (b := false) (by assumption) (by decide +kernel) ?_)
local macro_rules | `(tactic| walk_at "rs1") => `(tactic| first
  | with_reducible refine r_seq ?_
  | with_reducible refine r_asg ?_
  | with_reducible refine r_gname ?_
  | with_reducible refine r_ret ?_)
local macro_rules | `(tactic| walk_at "rs") => `(tactic| repeat walk_at "rs1")

section
variable {P : Program} {w : World} {K : PySem.W.Frag} {mg : Str → Option Value} {base : Heap}
def sp_law (K : PySem.W.Frag) : Sp := fun vs H Q _ => ∃ (a : Addr) (ns : List Int), vs = [.ref a] ∧ SqL K H a (ns.map V.int) ∧ ns.length ≤ 63 ∧ ∀ H', Q (.bl true) H'
theorem GRw.take {G : Hp} {n : Int} {m : Nat} {xs : List V} (h : GRw G n m xs) : GRw G n m (xs.take 12) := by
  obtain ⟨h1, h2, h3⟩ := h
  refine ⟨fun z => ?_, by rw [List.length_take]; omega, fun x hx => h3 x (List.mem_of_mem_take hx)⟩
  cases xs with
  | nil => exact h1 rfl
  | cons x r => cases z
theorem GRw.wide {G : Hp} {n n' : Int} {m m' : Nat} {xs : List V} (h : GRw G n m xs) (hn : n ≤ n') (hm : m ≤ m') : GRw G n' m' xs :=
  ⟨h.ne, Nat.le_trans h.len hm, fun x hx => by
    obtain ⟨q, b, c, t, g⟩ := h.all x hx
    exact ⟨q, b, c, t, { g with bn := Int.le_trans g.bn hn }⟩⟩
theorem ok_law (T : Txt K mg) : FnOk P w K mg base CX0 8 T.a_law T.d_law ["_law_script"] (sp_law K) := by
  refine T.F_law.ok sc_law (fun vs H Q E h => ?_) (fun cdv A outer s H vs Q E hr h => ?_)
  · obtain ⟨a, ns, rfl, _⟩ := h
    rfl
  · obtain ⟨a0, ns, rfl, hS, _, q⟩ := h
    refine ⟨_, (pss_cons (ps_set (i := 1) sc_law.nd rfl (Or.inl rfl) (pe_call (ok_law_start T) (hr.mono (by decide)) (by rfl) T.g_law_start T.F_law_start.kp T.b_law_start .nil pass0 (pa_cons (pv 0) pa_nil)))
        (pss_cons (ps_set (i := 2) sc_law.nd rfl (Or.inl rfl) (pe_call (ok_law_draw T) (hr.mono (by decide)) (by rfl) T.g_law_draw T.F_law_draw.kp T.b_law_draw .nil pass0 (pa_cons (pv 1) (pa_cons pe_int pa_nil))))
        (pss_cons (ps_set (i := 3) sc_law.nd rfl (Or.inl rfl) pe_int)
        (Evl.pss_cut (ps_if (pt_cmpR (op_eqU hr.units) (pe_call (ok_law_draw T) (hr.mono (by decide)) (by rfl) T.g_law_draw T.F_law_draw.kp T.b_law_draw .nil pass0 (pa_cons (pv 1) (pa_cons pe_int pa_nil))) pe_int (nomark _)) (pss_cons (ps_set (i := 2) sc_law.nd rfl (Or.inl rfl) (pe_op op_addU pe_int (pe_call (ok_law_draw T) (hr.mono (by decide)) (by rfl) T.g_law_draw T.F_law_draw.kp T.b_law_draw .nil pass0 (pa_cons (pv 1) (pa_cons pe_int pa_nil)))))
        (pss_one (ps_set (i := 3) sc_law.nd rfl (Or.inl rfl) pe_int))) pss_nil)
        (pss_cons (ps_set (i := 4) sc_law.nd rfl (Or.inl rfl) (pe_call (ok_law_text T) (hr.mono (by decide)) (by rfl) T.g_law_text T.F_law_text.kp T.b_law_text .nil pass0 (pa_cons (pv 1) (pa_cons (pv 2) pa_nil))))
        (pss_cons (ps_set (i := 5) sc_law.nd rfl (Or.inl rfl) (pe_call (ok_law_round T) (hr.mono (by decide)) (by rfl) T.g_law_round T.F_law_round.kp T.b_law_round .nil pass0 (pa_cons (pv 1) (pa_cons (pv 2) (pa_cons (pv 3) pa_nil)))))
        (pss_cons (ps_if (PW.pt (pw_or (pt_not (pt_val (pe_call (ok_law_holds T) hr (by rfl) T.g_law_holds T.F_law_holds.kp T.b_law_holds .nil pass0 (pa_cons (pv 4) (pa_cons (pv 5) pa_nil))))) (pw_or1 (pt_not (pt_val (pe_call (ok_law_holds T) hr (by rfl) T.g_law_holds T.F_law_holds.kp T.b_law_holds .nil pass0 (pa_cons (pv 4) (pa_cons (pe_lst pa_nil) pa_nil)))))))) (pss_one (ps_ret pe_bl)) pss_nil)
        (pss_cons (ps_for PassesOwn.never rfl (pi_range1 (by rfl) T.n_range (pa_cons pe_int pa_nil)) (pg_name (i := 6) sc_law.nd rfl (Or.inl rfl)) (pss_one (ps_if (pt_not (pt_val (pe_call (ok_law_holds T) hr (by rfl) T.g_law_holds T.F_law_holds.kp T.b_law_holds .nil pass0 (pa_cons (pv 4) (pa_cons (pe_call (ok_law_bent T) (hr.mono (by decide)) (by rfl) T.g_law_bent T.F_law_bent.kp T.b_law_bent .nil pass0 (pa_cons (pv 1) (pa_cons (pe_slice sl_U (pv 5) po_none (po_some pe_int)) (pa_cons (pv 2) pa_nil)))) pa_nil))))) (pss_one (ps_ret pe_bl)) pss_nil)))
        (pss_cons (ps_set (i := 7) sc_law.nd rfl (Or.inl rfl) (pe_call (ok_law_draw T) (hr.mono (by decide)) (by rfl) T.g_law_draw T.F_law_draw.kp T.b_law_draw .nil pass0 (pa_cons (pv 1) (pa_cons (pe_callB call_lenU (by rfl) T.n_len (by decide +kernel) (pa_cons (pe_slice sl_U (pv 5) po_none (po_some pe_int)) pa_nil)) pa_nil))))
        (pss_cons (ps_for PassesOwn.never rfl (pi_list (pe_call (ok_law_stranges T) (hr.mono (by decide)) (by rfl) T.g_law_stranges T.F_law_stranges.kp T.b_law_stranges .nil pass0 (pa_cons (pv 1) (pa_cons (pe_ix ix_seq (pv 5) (pv 7) (fun _ _ => rfl)) (pa_cons (pv 2) pa_nil))))) (pg_name (i := 8) sc_law.nd rfl (Or.inl rfl)) (pss_one (ps_if (pt_not (pt_val (pe_call (ok_law_holds T) hr (by rfl) T.g_law_holds T.F_law_holds.kp T.b_law_holds .nil pass0 (pa_cons (pv 4) (pa_cons (pe_op op_addU (pe_op op_addU (pe_slice sl_U (pv 5) po_none (po_some (pv 7))) (pe_lst (pa_cons (pv 8) pa_nil))) (pe_slice sl_U (pv 5) (po_some (pe_op op_addU (pv 7) pe_int)) (po_some pe_int))) pa_nil))))) (pss_one (ps_ret pe_bl)) pss_nil)))
        (pss_cons (ps_set (i := 9) sc_law.nd rfl (Or.inl rfl) (pe_call (ok_law_done T) (hr.mono (by decide)) (by rfl) T.g_law_done T.F_law_done.kp T.b_law_done .nil pass0 (pa_cons (pv 4) (pa_cons (pv 5) pa_nil))))
        (pss_cons (ps_for PassesOwn.never rfl (pi_range1 (by rfl) T.n_range (pa_cons (pe_call (ok_law_draw T) (hr.mono (by decide)) (by rfl) T.g_law_draw T.F_law_draw.kp T.b_law_draw .nil pass0 (pa_cons (pv 1) (pa_cons pe_int pa_nil))) pa_nil)) (pg_name (i := 6) sc_law.nd rfl (Or.inl rfl)) (pss_cons (ps_set (i := 10) sc_law.nd rfl (Or.inl rfl) (pe_call (ok_law_round T) (hr.mono (by decide)) (by rfl) T.g_law_round T.F_law_round.kp T.b_law_round .nil pass0 (pa_cons (pv 1) (pa_cons (pe_callB call_lenU (by rfl) T.n_len (by decide +kernel) (pa_cons (pv 9) pa_nil)) (pa_cons pe_int pa_nil)))))
        (pss_cons (ps_if (pt_not (pt_val (pe_call (ok_law_holds T) hr (by rfl) T.g_law_holds T.F_law_holds.kp T.b_law_holds .nil pass0 (pa_cons (pv 9) (pa_cons (pv 10) pa_nil))))) (pss_one (ps_ret pe_bl)) pss_nil)
        (pss_one (ps_set (i := 9) sc_law.nd rfl (Or.inl rfl) (pe_call (ok_law_done T) (hr.mono (by decide)) (by rfl) T.g_law_done T.F_law_done.kp T.b_law_done .nil pass0 (pa_cons (pv 9) (pa_cons (pv 10) pa_nil))))))))
        (pss_cons (ps_set (i := 11) sc_law.nd rfl (Or.inl rfl) (pe_op op_addU (pe_ix ix_seq (pe_ix ix_seq (pv 5) (pe_un un_neg pe_int) (fun _ _ => rfl)) pe_int (fun _ _ => rfl)) (pe_ix ix_seq (pe_ix ix_seq (pv 5) (pe_un un_neg pe_int) (fun _ _ => rfl)) pe_int (fun _ _ => rfl))))
        (pss_cons (ps_for PassesOwn.never rfl (pi_list (pe_lst (pa_cons pe_int (pa_cons (pv 11) (pa_cons (pe_callB (call_maxU rfl) (by rfl) T.n_max (by decide +kernel) (pa_cons pe_int (pa_cons (pe_op op_sub (pv 11) pe_int) pa_nil))) (pa_cons pe_int pa_nil)))))) (pg_name (i := 12) sc_law.nd rfl (Or.inl rfl)) (pss_cons (ps_set (i := 13) sc_law.nd rfl (Or.inl rfl) (pe_call (ok_law_asked T) (hr.mono (by decide)) (by rfl) T.g_law_asked T.F_law_asked.kp T.b_law_asked .nil pass0 (pa_cons (pv 12) (pa_cons (pe_callTy call_tupU (by rfl) T.n_tuple (by decide +kernel) (pa_cons (pv 5) pa_nil)) pa_nil))))
        (pss_cons (ps_set (i := 14) sc_law.nd rfl (Or.inl rfl) (pe_call (ok_law_judged T) (hr.mono (by decide)) (by rfl) T.g_law_judged T.F_law_judged.kp T.b_law_judged .nil pass0 (pa_cons (pv 12) (pa_cons (pv 5) pa_nil))))
        (pss_one (ps_if (pt_cmpR op_isU (pv 14) pe_non (nomark _)) (pss_one (ps_if (PW.pt (pw_or (pt_cmpR (op_neU hr.units) (pe_ix ix_seq (pv 13) pe_int (fun _ _ => rfl)) pe_str (nomark _)) (pw_or1 (pt_cmpR op_isnotU (pe_ix ix_seq (pv 13) pe_int (fun _ _ => rfl)) pe_non (nomark _))))) (pss_one (ps_ret pe_bl)) pss_nil)) (pss_one (ps_if (PW.pt (pw_or (pt_cmpR (op_neU hr.units) (pe_ix ix_seq (pv 13) pe_int (fun _ _ => rfl)) pe_str (nomark _)) (pw_or1 (pt_not (pt_val (pe_call (ok_law_same T) (hr.mono (by decide)) (by rfl) T.g_law_same T.F_law_same.kp T.b_law_same .nil pass0 (pa_cons (pv 14) (pa_cons (pe_ix ix_seq (pv 13) pe_int (fun _ _ => rfl)) pa_nil)))))))) (pss_one (ps_ret pe_bl)) pss_nil)))))))
        (pss_one (ps_ret (pe_call (ok_law_holds T) hr (by rfl) T.g_law_holds T.F_law_holds.kp T.b_law_holds .nil pass0 (pa_cons (pv 4) (pa_cons (pv 5) pa_nil))))))))))))))))))), ?_⟩
    walk_at "rd"
    refine ⟨a0, ns, rfl, hS, fun a H1 e1 n1 st1 => ?_⟩
    -- what is known so far: nothing
    have W1 : Wd a (fun _ => none) H1 := ⟨(fun _ _ z => nomatch z), rfl, st1⟩
    walk_at "rd"
    refine ⟨a, 15, rfl, W1.st, by decide, fun n0 H2 n00 n01 D2 => ?_⟩
    have W2 := W1.dr D2
    walk_at "rd"
    -- the sizes
    refine ⟨fun σ H' => ∃ (n m : Int), σ = [some (.ref a0), some (.ref a), some (.int n), some (.int m), none, none, none, none, none, none, none, none, none, none, none] ∧ Wd a (fun _ => none) H' ∧ 0 ≤ n ∧ n ≤ 3001 ∧ 1 ≤ m ∧ m ≤ 180, ?_, ?_⟩
    · walk_at "rd"
      refine ⟨a, 32, rfl, W2.st, by decide, fun d3 H3 d30 d31 D3 => ?_⟩
      have W3 := W2.dr D3
      walk_at "rd"
      refine r_ite (fun h => ?_) (fun h => ?_)
      · walk_at "rd"
        refine ⟨a, 2001, rfl, W3.st, by decide, fun d4 H4 d40 d41 D4 => ?_⟩
        walk_at "rd"
        exact ⟨_, _, rfl, W3.dr D4, by omega, by omega, by decide, by decide⟩
      · walk_at "rd"
        exact ⟨_, _, rfl, W3, by omega, by omega, by decide, by decide⟩
    rintro σ H4 ⟨n, m, rfl, W4, hn0, hn1, hm0, hm1⟩
    walk_at "rd"
    refine ⟨a, n, rfl, W4.st, hn0, by omega, fun z H5 D5 hz _ => ?_⟩
    have W5 := W4.dr D5
    have hz8 : z.length ≤ 3001 := by omega
    walk_at "rd"
    refine ⟨a, n, m, _, rfl, W5, hn0, by omega, hm0, by omega, fun f G6 H6 xs t6 st6 hf gr => ?_⟩
    have W6 := W5.step t6 st6
    have gr8 := gr.wide (n' := 8000) (m' := 180) (by omega) (by omega)
    walk_at "rd"
    refine ⟨z, f, xs, rfl, by omega, W6.g _ _ hf, (gr8.rw (by decide)).up W6.g, fun H7 e7 => ?_⟩
    have W7 := W6.ex e7
    walk_at "rd"
    refine r_small nsz fun p8 n8 => ?_
    obtain ⟨G8, H8, k8, s8, W8, h8⟩ := w_new W7 n8 (.lst [])
    rw [← k8]
    walk_at "rd"
    refine ⟨z, p8, [], rfl, by omega, W8.g _ _ h8, ⟨by decide, fun x hx => by simp at hx⟩, fun H9 e9 => ?_⟩
    have W9 := W8.ex e9
    walk_at "rd"
    have hfG : ∀ {G}, Ex G6 G → G f = some (.lst xs) := fun e => e _ _ hf
    -- the bent rounds
    refine l_R (by decide) (by decide) (fun i σ H' => ∃ y6 G', σ = [some (.ref a0), some (.ref a), some (.int n), some (.int m), some (.str z), some (.ref f), y6, none, none, none, none, none, none, none, none] ∧ Ex G6 G' ∧ Wd a G' H')
      ⟨none, G8, rfl, s8.gg, W9⟩ (fun i σ H' hi hP => ?_) (fun σ H' hP => ?_)
    · obtain ⟨y6, G', rfl, e, W⟩ := hP
      walk_at "rd"
      refine r_slL (sqL (W.g _ _ (hfG e))) fun l1 n1 => ?_
      obtain ⟨G1, H1', k1, s1, W1', h1⟩ := w_new W n1 (.lst (cutV xs none (some 12)))
      rw [← k1]
      walk_at "rd"
      have h1' : G1 l1 = some (.lst (xs.take 12)) := by
        rw [h1]
        exact congrArg (fun l => some (HO.lst l)) (cutV_to xs 12)
      walk_at "rd"
      refine ⟨a, l1, n, G1, _, rfl, W1', h1', ((gr8.wide (m' := 200) (Int.le_refl _) (by decide)).take.up e).up s1.gg, fun p2 G2 H2' ys t2 st2 h2 rw2 => ?_⟩
      have W2' := W1'.step t2 st2
      walk_at "rd"
      refine ⟨z, p2, ys, rfl, by omega, W2'.g _ _ h2, rw2.up W2'.g, fun H3' e3 => ?_⟩
      walk_at "rd"
      exact ⟨_, G2, rfl, (e.trans s1.gg).trans t2.gg, W2'.ex e3⟩
    obtain ⟨y6, G9, rfl, e9, W9⟩ := hP
    walk_at "rd"
    refine r_slL (sqL (W9.g _ _ (hfG e9))) fun l1 n1 => ?_
    obtain ⟨G10, H10, k10, s10, W10, h10⟩ := w_new W9 n1 (.lst (cutV xs none (some 12)))
    rw [← k10]
    walk_at "rd"
    have e10 := e9.trans s10.gg
    have hxs12 : cutV xs none (some 12) = xs.take 12 := cutV_to xs 12
    have hpos : 0 < (xs.take 12).length := List.length_pos_iff.mpr gr.take.ne
    refine r_lenL (sqL (W10.g _ _ h10)) ?_
    walk_at "rd"
    refine ⟨a, _, rfl, W10.st, by rw [hxs12]; omega, fun sp H11 sp0 sp1 D11 => ?_⟩
    have W11 := W10.dr D11
    have spx : sp < (xs.length : Nat) := by
      rw [hxs12, List.length_take] at sp1
      omega
    walk_at "rd"
    -- the strange ones
    obtain ⟨x0, hx0, hm0'⟩ := atI_lt sp0 spx
    refine r_ixL (sqL (W11.g _ _ (hfG e10))) hx0 ?_
    walk_at "rd"
    refine ⟨a, x0, n, G10, rfl, W11, (gr8.all x0 hm0').up e10, fun v G12 H12 t12 st12 lt => ?_⟩
    obtain ⟨p12, th, rfl, h12, _, hl12, ht12⟩ := lt
    have W12 := W11.step t12 st12
    have e12 := e10.trans t12.gg
    refine l_L (sqL (W12.g _ _ h12)) (fun i σ H' => ∃ y8 G', σ = [some (.ref a0), some (.ref a), some (.int n), some (.int m), some (.str z), some (.ref f), y6, some (.int sp), y8, none, none, none, none, none, none] ∧ Ex G12 G' ∧ Wd a G' H')
      ⟨none, G12, rfl, Same.refl _, W12⟩ (fun i σ H' hP => ?_) (fun i x σ H' hx hP => ?_) (fun σ H' hP => ?_)
    · obtain ⟨_, G', _, e, W⟩ := hP
      exact sqL (W.g _ _ (e _ _ h12))
    · obtain ⟨y8, G', rfl, e, W⟩ := hP
      have eg := e12.trans e
      have tx := (ht12 x (List.mem_of_getElem? hx)).up e
      walk_at "rd"
      refine r_slL (sqL (W.g _ _ (hfG eg))) fun l1 n1 => ?_
      obtain ⟨G1, H1', k1, s1, W1', h1⟩ := w_new W n1 (.lst (cutV xs none (some sp)))
      rw [← k1]
      walk_at "rd"
      refine r_small nsz fun l2 n2 => ?_
      obtain ⟨G2, H2', k2, s2, W2', h2⟩ := w_new W1' n2 (.lst [x])
      rw [← k2]
      walk_at "rd"
      have c1 := cutV_len (xs := xs) (lo := none) (hi := some sp)
      have c2 := cutV_len (xs := xs) (lo := some (sp + 1)) (hi := some 12)
      have hxl := gr8.len
      have c3 : (cutV xs none (some sp) ++ [x]).length ≤ 181 := by
        rw [List.length_append]
        simp
        omega
      refine r_addL (s2.same _ _ (W1'.g _ _ h1)) (W2'.g _ _ h2) (by rw [← List.length_append]; exact Nat.le_trans c3 (by decide)) fun l3 n3 => ?_
      obtain ⟨G3, H3', k3, s3, W3', h3⟩ := w_new W2' n3 (.lst (cutV xs none (some sp) ++ [x]))
      rw [← k3]
      walk_at "rd"
      refine r_slL (sqL (W3'.g _ _ (hfG (((eg.trans s1.gg).trans s2.gg).trans s3.gg)))) fun l4 n4 => ?_
      obtain ⟨G4, H4', k4, s4, W4', h4⟩ := w_new W3' n4 (.lst (cutV xs (some (sp + 1)) (some 12)))
      rw [← k4]
      walk_at "rd"
      refine r_addL (s4.same _ _ (W3'.g _ _ h3)) (W4'.g _ _ h4) (Nat.le_trans (Nat.add_le_add c3 (Nat.le_trans c2 hxl)) (by decide)) fun l5 n5 => ?_
      obtain ⟨G5, H5', k5, s5, W5', h5⟩ := w_new W4' n5 (.lst (cutV xs none (some sp) ++ [x] ++ cutV xs (some (sp + 1)) (some 12)))
      rw [← k5]
      walk_at "rd"
      have e5 : Ex G' G5 := (((s1.gg.trans s2.gg).trans s3.gg).trans s4.gg).trans s5.gg
      have all : ∀ y ∈ xs, Thg G5 y := fun y hy => ((gr8.all y hy).thg.up eg).up e5
      walk_at "rd"
      refine ⟨z, l5, _, rfl, by omega, W5'.g _ _ h5, Rw.up W5'.g ⟨by rw [List.length_append]; omega, fun y hy => ?_⟩, fun H6' e6 => ?_⟩
      · rcases List.mem_append.mp hy with h | h
        · rcases List.mem_append.mp h with h | h
          · exact all y (cutV_mem h)
          · rw [List.mem_singleton.mp h]
            exact tx.up e5
        · exact all y (cutV_mem h)
      · walk_at "rd"
        exact ⟨_, G5, rfl, e.trans e5, W5'.ex e6⟩
    obtain ⟨y8, G13, rfl, e13, W13⟩ := hP
    have eg13 := e12.trans e13
    walk_at "rd"
    obtain ⟨rs, hrs, hput⟩ := gr8.sps
    have hxl := gr8.len
    refine ⟨z, f, xs, rs, rfl, by omega, W13.g _ _ (hfG eg13), ((gr8.rw (by decide)).up eg13).up W13.g, by rw [sps_up W13.g ((gr8.rw (by decide)).up eg13), sps_up eg13 (gr8.rw (by decide)), hrs], fun H14 o e14 _ ho => ?_⟩
    have W14 := W13.ex e14
    have ho' : o.length ≤ 3600 := by omega
    walk_at "rd"
    refine ⟨a, 3, rfl, W14.st, by decide, fun lp H15 lp0 lp1 D15 => ?_⟩
    have W15 := W14.dr D15
    walk_at "rd"
    refine l_R (by omega) (by omega) (fun i σ H' => ∃ y6 y10 o G', σ = [some (.ref a0), some (.ref a), some (.int n), some (.int m), some (.str z), some (.ref f), y6, some (.int sp), y8, some (.str o), y10, none, none, none, none] ∧ Ex G13 G' ∧ Wd a G' H' ∧ o.length ≤ 3600 + 18 * i)
      ⟨y6, none, o, G13, rfl, Same.refl _, W15, by omega⟩ (fun i σ H' hi hP => ?_) (fun σ H' hP => ?_)
    · obtain ⟨y6, y10, o, G', rfl, e, W, ho⟩ := hP
      have ho8 : o.length ≤ 8000 := by omega
      walk_at "rd"
      refine r_lenS (small8 ho8) ?_
      walk_at "rd"
      refine ⟨a, _, 6, G', rfl, W, by omega, by omega, by decide, by decide, fun f1 G1 H1' ys t1 st1 h1 gr1 => ?_⟩
      have W1' := W.step t1 st1
      have gr1' := gr1.wide (n' := 8000) (m' := 6) (by omega) (by decide)
      walk_at "rd"
      refine ⟨o, f1, ys, rfl, ho8, W1'.g _ _ h1, (gr1'.rw (by decide)).up W1'.g, fun H2' e2 => ?_⟩
      have W2' := W1'.ex e2
      walk_at "rd"
      obtain ⟨rs1, hrs1, hput1⟩ := gr1'.sps
      have hyl := gr1'.len
      refine ⟨o, f1, ys, rs1, rfl, ho8, W2'.g _ _ h1, (gr1'.rw (by decide)).up W2'.g, by rw [sps_up W2'.g (gr1'.rw (by decide)), hrs1], fun H3' o' e3 _ ho3 => ?_⟩
      walk_at "rd"
      exact ⟨_, _, o', G1, rfl, e.trans t1.gg, W2'.ex e3, by omega⟩
    obtain ⟨y6, y10, o, G14, rfl, e14, W14, ho⟩ := hP
    have eg14 := eg13.trans e14
    walk_at "rd"
    -- the last splice
    have hlast : ∃ x q b c t, atI xs (-1) = some x ∧ Gd G6 8000 x q b c t := by
      obtain ⟨x, hx, hm⟩ := atI_m1 gr.ne
      obtain ⟨q, b, c, t, g⟩ := gr8.all x hm
      exact ⟨x, q, b, c, t, hx, g⟩
    obtain ⟨x9, q9, b9, c9, t9, hx9, g9⟩ := hlast
    have hxr := g9.ref
    subst hxr
    refine r_ixL (sqL (W14.g _ _ (hfG eg14))) hx9 ?_
    walk_at "rd"
    refine r_ixT (sqT (W14.g _ _ (eg14 _ _ g9.at_))) (atI_nat (j := 0) rfl) ?_
    walk_at "rd"
    refine r_ixL (sqL (W14.g _ _ (hfG eg14))) hx9 ?_
    walk_at "rd"
    refine r_ixT (sqT (W14.g _ _ (eg14 _ _ g9.at_))) (atI_nat (j := 1) rfl) ?_
    walk_at "rd"
    refine r_small nsz fun p15 n15 => ?_
    obtain ⟨G15, H15, k15, s15, W15, h15⟩ := w_new W14 n15 (.lst [.int 0, .int (b9 + c9), .int (max 0 (b9 + c9 - 1)), .int 4000])
    rw [← k15]
    walk_at "rd"
    have eg15 := eg14.trans s15.gg
    refine l_L (sqL (W15.g _ _ h15)) (fun i σ H' => ∃ y12 y13 y14 G', σ = [some (.ref a0), some (.ref a), some (.int n), some (.int m), some (.str z), some (.ref f), y6, some (.int sp), y8, some (.str o), y10, some (.int (b9 + c9)), y12, y13, y14] ∧ Ex G15 G' ∧ Wd a G' H')
      ⟨none, none, none, G15, rfl, Same.refl _, W15⟩ (fun i σ H' hP => ?_) (fun i x σ H' hx hP => ?_) (fun σ H' hP => ?_)
    · obtain ⟨_, _, _, G', _, e, W⟩ := hP
      exact sqL (W.g _ _ (e _ _ h15))
    · obtain ⟨y12, y13, y14, G', rfl, e, W⟩ := hP
      have eg := eg15.trans e
      obtain ⟨k, rfl⟩ : ∃ k, x = V.int k := by
        have hm := List.mem_of_getElem? hx
        rcases List.mem_cons.mp hm with h | hm
        · exact ⟨_, h⟩
        rcases List.mem_cons.mp hm with h | hm
        · exact ⟨_, h⟩
        rcases List.mem_cons.mp hm with h | hm
        · exact ⟨_, h⟩
        · exact ⟨_, List.mem_singleton.mp hm⟩
      have rwf := (gr8.rw (by decide)).up eg
      walk_at "rd"
      refine r_tupL (sqL (W.g _ _ (hfG eg))) fun l1 n1 => ?_
      obtain ⟨G1, H1', k1, s1, W1', h1⟩ := w_new W n1 (.tup xs)
      rw [← k1]
      walk_at "rd"
      refine ⟨k, l1, xs, rfl, W1'.g _ _ h1, (rwf.up s1.gg).up W1'.g, fun H2' p2 e2 h2 => ?_⟩
      rw [sps_up W1'.g (rwf.up s1.gg), sps_up s1.gg rwf] at h2
      have W2' := W1'.ex e2
      walk_at "rd"
      refine ⟨k, f, xs, rfl, W2'.g _ _ (hfG (eg.trans s1.gg)), (rwf.up s1.gg).up W2'.g, fun H3' e3 => ?_⟩
      rw [sps_up W2'.g (rwf.up s1.gg), sps_up s1.gg rwf]
      have h3 := e3 _ _ h2
      have W3' := W2'.ex e3
      walk_at "rd"
      cases hj : judge k (sps G' xs) with
      | none =>
        rw [hj] at h3
        walk_at "rd"
        refine r_ixL (sqL h3) (atI_nat (j := 0) rfl) ?_
        walk_at "rd"
        refine r_ixL (sqL h3) (atI_nat (j := 1) rfl) ?_
        walk_at "rd"
        exact ⟨_, _, _, G1, rfl, e.trans s1.gg, W3'⟩
      | some j =>
        rw [hj] at h3
        walk_at "rd"
        refine r_ixL (sqL h3) (atI_nat (j := 0) rfl) ?_
        walk_at "rd"
        refine r_ixL (sqL h3) (atI_nat (j := 1) rfl) ?_
        walk_at "rd"
        refine ⟨_, rfl, .inl ⟨_, rfl⟩, ?_⟩
        walk_at "rd"
        exact ⟨_, _, _, G1, rfl, e.trans s1.gg, W3'⟩
    obtain ⟨y12, y13, y14, G16, rfl, e16, W16⟩ := hP
    have eg16 := eg15.trans e16
    walk_at "rd"
    exact ⟨z, f, xs, rfl, by omega, W16.g _ _ (hfG eg16), ((gr8.rw (by decide)).up eg16).up W16.g, fun H17 _ => q H17⟩
end
end K14
namespace K14
open PySem PySem.Spec PyProof.Rows L2 Dk
/-- an error of the class at S is what «except S» names -/
theorem exm_self {K : PySem.W.Frag} {S : Addr} (h1 : PySem.W.subIn K (.ref S) (.type "BaseException") = some true) (h2 : PySem.W.isClsIn K S = true) (h3 : PySem.W.typeIn K (.ref S) = some (.type "type")) (h4 : PySem.W.subIn K (.ref S) (.ref S) = some true) :
    PySem.W.exmOne K (.ref S) (.ref S) = some true := by
  have e1 : (PySem.W.subIn K (.ref S) (.type "BaseException") == some true) = true := by rw [h1] <;> rfl
  have e2 : ((PySem.W.clsIn K S).isSome && PySem.W.typeIn K (.ref S) == some (.type "type")) = true := by
    have h2' : (PySem.W.clsIn K S).isSome = true := h2
    rw [h2', h3] <;> rfl
  show (if (PySem.W.subIn K (.ref S) (.type "BaseException") == some true) = true then (if ((PySem.W.clsIn K S).isSome && PySem.W.typeIn K (.ref S) == some (.type "type")) = true then PySem.W.subIn K (.ref S) (.ref S) else none) else none) = some true
  rw [if_pos e1, if_pos e2]
  exact h4
theorem all_mk {l : PySem.W.OpenLaw} {w : World} {K : PySem.W.Frag} {h : Heap} {mg : Str → Option Value} {fa : Addr} (X : K.In h) (G : h.Ns mainGlobals mg) (hfa : mg "law" = some (.ref fa))
    {f_first_strange : Addr} {od_first_strange an_first_strange : Option Addr} {sl_first_strange : Array (Option Value)} {oc_first_strange kV_first_strange dc_first_strange pm_first_strange cd_first_strange ct_first_strange : Value}
    {f_is_text : Addr} {od_is_text an_is_text : Option Addr} {sl_is_text : Array (Option Value)} {oc_is_text kV_is_text dc_is_text pm_is_text cd_is_text ct_is_text : Value}
    {f_is_number : Addr} {od_is_number an_is_number : Option Addr} {sl_is_number : Array (Option Value)} {oc_is_number kV_is_number dc_is_number pm_is_number cd_is_number ct_is_number : Value}
    {f_is_splice : Addr} {od_is_splice an_is_splice : Option Addr} {sl_is_splice : Array (Option Value)} {oc_is_splice kV_is_splice dc_is_splice pm_is_splice cd_is_splice ct_is_splice : Value}
    {f_follows : Addr} {od_follows an_follows : Option Addr} {sl_follows : Array (Option Value)} {oc_follows kV_follows dc_follows pm_follows cd_follows ct_follows : Value}
    {f_check_round : Addr} {od_check_round an_check_round : Option Addr} {sl_check_round : Array (Option Value)} {oc_check_round kV_check_round dc_check_round pm_check_round cd_check_round ct_check_round : Value}
    {f_spliced : Addr} {od_spliced an_spliced : Option Addr} {sl_spliced : Array (Option Value)} {oc_spliced kV_spliced dc_spliced pm_spliced cd_spliced ct_spliced : Value}
    {f_law_start : Addr} {od_law_start an_law_start : Option Addr} {sl_law_start : Array (Option Value)} {oc_law_start kV_law_start dc_law_start pm_law_start cd_law_start ct_law_start : Value}
    {f_law_draw : Addr} {od_law_draw an_law_draw : Option Addr} {sl_law_draw : Array (Option Value)} {oc_law_draw kV_law_draw dc_law_draw pm_law_draw cd_law_draw ct_law_draw : Value}
    {f_law_signs : Addr} {od_law_signs an_law_signs : Option Addr} {sl_law_signs : Array (Option Value)} {oc_law_signs kV_law_signs dc_law_signs pm_law_signs cd_law_signs ct_law_signs : Value}
    {f_law_text : Addr} {od_law_text an_law_text : Option Addr} {sl_law_text : Array (Option Value)} {oc_law_text kV_law_text dc_law_text pm_law_text cd_law_text ct_law_text : Value}
    {f_law_round : Addr} {od_law_round an_law_round : Option Addr} {sl_law_round : Array (Option Value)} {oc_law_round kV_law_round dc_law_round pm_law_round cd_law_round ct_law_round : Value}
    {f_law_is_number : Addr} {od_law_is_number an_law_is_number : Option Addr} {sl_law_is_number : Array (Option Value)} {oc_law_is_number kV_law_is_number dc_law_is_number pm_law_is_number cd_law_is_number ct_law_is_number : Value}
    {f_law_is_text : Addr} {od_law_is_text an_law_is_text : Option Addr} {sl_law_is_text : Array (Option Value)} {oc_law_is_text kV_law_is_text dc_law_is_text pm_law_is_text cd_law_is_text ct_law_is_text : Value}
    {f_law_is_splice : Addr} {od_law_is_splice an_law_is_splice : Option Addr} {sl_law_is_splice : Array (Option Value)} {oc_law_is_splice kV_law_is_splice dc_law_is_splice pm_law_is_splice cd_law_is_splice ct_law_is_splice : Value}
    {f_law_judged : Addr} {od_law_judged an_law_judged : Option Addr} {sl_law_judged : Array (Option Value)} {oc_law_judged kV_law_judged dc_law_judged pm_law_judged cd_law_judged ct_law_judged : Value}
    {f_law_done : Addr} {od_law_done an_law_done : Option Addr} {sl_law_done : Array (Option Value)} {oc_law_done kV_law_done dc_law_done pm_law_done cd_law_done ct_law_done : Value}
    {f_law_led : Addr} {od_law_led an_law_led : Option Addr} {sl_law_led : Array (Option Value)} {oc_law_led kV_law_led dc_law_led pm_law_led cd_law_led ct_law_led : Value}
    {f_law_same : Addr} {od_law_same an_law_same : Option Addr} {sl_law_same : Array (Option Value)} {oc_law_same kV_law_same dc_law_same pm_law_same cd_law_same ct_law_same : Value}
    {f_law_asked : Addr} {od_law_asked an_law_asked : Option Addr} {sl_law_asked : Array (Option Value)} {oc_law_asked kV_law_asked dc_law_asked pm_law_asked cd_law_asked ct_law_asked : Value}
    {f_law_spliced : Addr} {od_law_spliced an_law_spliced : Option Addr} {sl_law_spliced : Array (Option Value)} {oc_law_spliced kV_law_spliced dc_law_spliced pm_law_spliced cd_law_spliced ct_law_spliced : Value}
    {f_law_holds : Addr} {od_law_holds an_law_holds : Option Addr} {sl_law_holds : Array (Option Value)} {oc_law_holds kV_law_holds dc_law_holds pm_law_holds cd_law_holds ct_law_holds : Value}
    {f_law_stranges : Addr} {od_law_stranges an_law_stranges : Option Addr} {sl_law_stranges : Array (Option Value)} {oc_law_stranges kV_law_stranges dc_law_stranges pm_law_stranges cd_law_stranges ct_law_stranges : Value}
    {f_law_strange : Addr} {od_law_strange an_law_strange : Option Addr} {sl_law_strange : Array (Option Value)} {oc_law_strange kV_law_strange dc_law_strange pm_law_strange cd_law_strange ct_law_strange : Value}
    {f_law_bent : Addr} {od_law_bent an_law_bent : Option Addr} {sl_law_bent : Array (Option Value)} {oc_law_bent kV_law_bent dc_law_bent pm_law_bent cd_law_bent ct_law_bent : Value}
    {f_law : Addr} {od_law an_law : Option Addr} {sl_law : Array (Option Value)} {oc_law kV_law dc_law pm_law cd_law ct_law : Value}
    {C_BadSplice fi_BadSplice N_BadSplice : Addr} {nm_BadSplice qn_BadSplice : Str} {bs_BadSplice su_BadSplice : List Value} {sn_BadSplice : List Str} {ab_BadSplice : Bool} {col_BadSplice : Option Bool} {dd_BadSplice : Option Addr} {m0_BadSplice m1_BadSplice m2_BadSplice m3_BadSplice m5_BadSplice : Option Value}
    {od_BadSplice an_BadSplice : Option Addr} {sl_BadSplice : Array (Option Value)} {oc_BadSplice kV_BadSplice dc_BadSplice pm_BadSplice cd_BadSplice ct_BadSplice : Value}
    {B_BadSplice_DeskError : Addr}
    {tk_ALPHABET : Tok}
    (a_first_strange : PySem.W.nsIn K mainGlobals "first_strange" = some (some (.ref f_first_strange)))
    (l_first_strange : K.lookup f_first_strange = some ⟨oc_first_strange, od_first_strange, .func (PySem.W.fnOf "first_strange" "first_strange" (defArgs s_first_strange) (defBody s_first_strange) (defScope s_first_strange) .none kV_first_strange dc_first_strange pm_first_strange an_first_strange cd_first_strange ct_first_strange), sl_first_strange⟩)
    (c_first_strange : PySem.W.codeIn K cd_first_strange "first_strange" = true)
    (k_first_strange : PySem.W.keepIn K (.ref f_first_strange) = true)
    (a_is_text : PySem.W.nsIn K mainGlobals "is_text" = some (some (.ref f_is_text)))
    (l_is_text : K.lookup f_is_text = some ⟨oc_is_text, od_is_text, .func (PySem.W.fnOf "is_text" "is_text" (defArgs s_is_text) (defBody s_is_text) (defScope s_is_text) .none kV_is_text dc_is_text pm_is_text an_is_text cd_is_text ct_is_text), sl_is_text⟩)
    (c_is_text : PySem.W.codeIn K cd_is_text "is_text" = true)
    (k_is_text : PySem.W.keepIn K (.ref f_is_text) = true)
    (a_is_number : PySem.W.nsIn K mainGlobals "is_number" = some (some (.ref f_is_number)))
    (l_is_number : K.lookup f_is_number = some ⟨oc_is_number, od_is_number, .func (PySem.W.fnOf "is_number" "is_number" (defArgs s_is_number) (defBody s_is_number) (defScope s_is_number) .none kV_is_number dc_is_number pm_is_number an_is_number cd_is_number ct_is_number), sl_is_number⟩)
    (c_is_number : PySem.W.codeIn K cd_is_number "is_number" = true)
    (k_is_number : PySem.W.keepIn K (.ref f_is_number) = true)
    (a_is_splice : PySem.W.nsIn K mainGlobals "is_splice" = some (some (.ref f_is_splice)))
    (l_is_splice : K.lookup f_is_splice = some ⟨oc_is_splice, od_is_splice, .func (PySem.W.fnOf "is_splice" "is_splice" (defArgs s_is_splice) (defBody s_is_splice) (defScope s_is_splice) .none kV_is_splice dc_is_splice pm_is_splice an_is_splice cd_is_splice ct_is_splice), sl_is_splice⟩)
    (c_is_splice : PySem.W.codeIn K cd_is_splice "is_splice" = true)
    (k_is_splice : PySem.W.keepIn K (.ref f_is_splice) = true)
    (a_follows : PySem.W.nsIn K mainGlobals "follows" = some (some (.ref f_follows)))
    (l_follows : K.lookup f_follows = some ⟨oc_follows, od_follows, .func (PySem.W.fnOf "follows" "follows" (defArgs s_follows) (defBody s_follows) (defScope s_follows) .none kV_follows dc_follows pm_follows an_follows cd_follows ct_follows), sl_follows⟩)
    (c_follows : PySem.W.codeIn K cd_follows "follows" = true)
    (k_follows : PySem.W.keepIn K (.ref f_follows) = true)
    (a_check_round : PySem.W.nsIn K mainGlobals "check_round" = some (some (.ref f_check_round)))
    (l_check_round : K.lookup f_check_round = some ⟨oc_check_round, od_check_round, .func (PySem.W.fnOf "check_round" "check_round" (defArgs s_check_round) (defBody s_check_round) (defScope s_check_round) .none kV_check_round dc_check_round pm_check_round an_check_round cd_check_round ct_check_round), sl_check_round⟩)
    (c_check_round : PySem.W.codeIn K cd_check_round "check_round" = true)
    (k_check_round : PySem.W.keepIn K (.ref f_check_round) = true)
    (a_spliced : PySem.W.nsIn K mainGlobals "spliced" = some (some (.ref f_spliced)))
    (l_spliced : K.lookup f_spliced = some ⟨oc_spliced, od_spliced, .func (PySem.W.fnOf "spliced" "spliced" (defArgs s_spliced) (defBody s_spliced) (defScope s_spliced) .none kV_spliced dc_spliced pm_spliced an_spliced cd_spliced ct_spliced), sl_spliced⟩)
    (c_spliced : PySem.W.codeIn K cd_spliced "spliced" = true)
    (k_spliced : PySem.W.keepIn K (.ref f_spliced) = true)
    (a_law_start : PySem.W.nsIn K mainGlobals "_law_start" = some (some (.ref f_law_start)))
    (l_law_start : K.lookup f_law_start = some ⟨oc_law_start, od_law_start, .func (PySem.W.fnOf "_law_start" "_law_start" (defArgs s_law_start) (defBody s_law_start) (defScope s_law_start) .none kV_law_start dc_law_start pm_law_start an_law_start cd_law_start ct_law_start), sl_law_start⟩)
    (c_law_start : PySem.W.codeIn K cd_law_start "_law_start" = true)
    (k_law_start : PySem.W.keepIn K (.ref f_law_start) = true)
    (a_law_draw : PySem.W.nsIn K mainGlobals "_law_draw" = some (some (.ref f_law_draw)))
    (l_law_draw : K.lookup f_law_draw = some ⟨oc_law_draw, od_law_draw, .func (PySem.W.fnOf "_law_draw" "_law_draw" (defArgs s_law_draw) (defBody s_law_draw) (defScope s_law_draw) .none kV_law_draw dc_law_draw pm_law_draw an_law_draw cd_law_draw ct_law_draw), sl_law_draw⟩)
    (c_law_draw : PySem.W.codeIn K cd_law_draw "_law_draw" = true)
    (k_law_draw : PySem.W.keepIn K (.ref f_law_draw) = true)
    (a_law_signs : PySem.W.nsIn K mainGlobals "_law_signs" = some (some (.ref f_law_signs)))
    (l_law_signs : K.lookup f_law_signs = some ⟨oc_law_signs, od_law_signs, .func (PySem.W.fnOf "_law_signs" "_law_signs" (defArgs s_law_signs) (defBody s_law_signs) (defScope s_law_signs) .none kV_law_signs dc_law_signs pm_law_signs an_law_signs cd_law_signs ct_law_signs), sl_law_signs⟩)
    (c_law_signs : PySem.W.codeIn K cd_law_signs "_law_signs" = true)
    (k_law_signs : PySem.W.keepIn K (.ref f_law_signs) = true)
    (a_law_text : PySem.W.nsIn K mainGlobals "_law_text" = some (some (.ref f_law_text)))
    (l_law_text : K.lookup f_law_text = some ⟨oc_law_text, od_law_text, .func (PySem.W.fnOf "_law_text" "_law_text" (defArgs s_law_text) (defBody s_law_text) (defScope s_law_text) .none kV_law_text dc_law_text pm_law_text an_law_text cd_law_text ct_law_text), sl_law_text⟩)
    (c_law_text : PySem.W.codeIn K cd_law_text "_law_text" = true)
    (k_law_text : PySem.W.keepIn K (.ref f_law_text) = true)
    (a_law_round : PySem.W.nsIn K mainGlobals "_law_round" = some (some (.ref f_law_round)))
    (l_law_round : K.lookup f_law_round = some ⟨oc_law_round, od_law_round, .func (PySem.W.fnOf "_law_round" "_law_round" (defArgs s_law_round) (defBody s_law_round) (defScope s_law_round) .none kV_law_round dc_law_round pm_law_round an_law_round cd_law_round ct_law_round), sl_law_round⟩)
    (c_law_round : PySem.W.codeIn K cd_law_round "_law_round" = true)
    (k_law_round : PySem.W.keepIn K (.ref f_law_round) = true)
    (a_law_is_number : PySem.W.nsIn K mainGlobals "_law_is_number" = some (some (.ref f_law_is_number)))
    (l_law_is_number : K.lookup f_law_is_number = some ⟨oc_law_is_number, od_law_is_number, .func (PySem.W.fnOf "_law_is_number" "_law_is_number" (defArgs s_law_is_number) (defBody s_law_is_number) (defScope s_law_is_number) .none kV_law_is_number dc_law_is_number pm_law_is_number an_law_is_number cd_law_is_number ct_law_is_number), sl_law_is_number⟩)
    (c_law_is_number : PySem.W.codeIn K cd_law_is_number "_law_is_number" = true)
    (k_law_is_number : PySem.W.keepIn K (.ref f_law_is_number) = true)
    (a_law_is_text : PySem.W.nsIn K mainGlobals "_law_is_text" = some (some (.ref f_law_is_text)))
    (l_law_is_text : K.lookup f_law_is_text = some ⟨oc_law_is_text, od_law_is_text, .func (PySem.W.fnOf "_law_is_text" "_law_is_text" (defArgs s_law_is_text) (defBody s_law_is_text) (defScope s_law_is_text) .none kV_law_is_text dc_law_is_text pm_law_is_text an_law_is_text cd_law_is_text ct_law_is_text), sl_law_is_text⟩)
    (c_law_is_text : PySem.W.codeIn K cd_law_is_text "_law_is_text" = true)
    (k_law_is_text : PySem.W.keepIn K (.ref f_law_is_text) = true)
    (a_law_is_splice : PySem.W.nsIn K mainGlobals "_law_is_splice" = some (some (.ref f_law_is_splice)))
    (l_law_is_splice : K.lookup f_law_is_splice = some ⟨oc_law_is_splice, od_law_is_splice, .func (PySem.W.fnOf "_law_is_splice" "_law_is_splice" (defArgs s_law_is_splice) (defBody s_law_is_splice) (defScope s_law_is_splice) .none kV_law_is_splice dc_law_is_splice pm_law_is_splice an_law_is_splice cd_law_is_splice ct_law_is_splice), sl_law_is_splice⟩)
    (c_law_is_splice : PySem.W.codeIn K cd_law_is_splice "_law_is_splice" = true)
    (k_law_is_splice : PySem.W.keepIn K (.ref f_law_is_splice) = true)
    (a_law_judged : PySem.W.nsIn K mainGlobals "_law_judged" = some (some (.ref f_law_judged)))
    (l_law_judged : K.lookup f_law_judged = some ⟨oc_law_judged, od_law_judged, .func (PySem.W.fnOf "_law_judged" "_law_judged" (defArgs s_law_judged) (defBody s_law_judged) (defScope s_law_judged) .none kV_law_judged dc_law_judged pm_law_judged an_law_judged cd_law_judged ct_law_judged), sl_law_judged⟩)
    (c_law_judged : PySem.W.codeIn K cd_law_judged "_law_judged" = true)
    (k_law_judged : PySem.W.keepIn K (.ref f_law_judged) = true)
    (a_law_done : PySem.W.nsIn K mainGlobals "_law_done" = some (some (.ref f_law_done)))
    (l_law_done : K.lookup f_law_done = some ⟨oc_law_done, od_law_done, .func (PySem.W.fnOf "_law_done" "_law_done" (defArgs s_law_done) (defBody s_law_done) (defScope s_law_done) .none kV_law_done dc_law_done pm_law_done an_law_done cd_law_done ct_law_done), sl_law_done⟩)
    (c_law_done : PySem.W.codeIn K cd_law_done "_law_done" = true)
    (k_law_done : PySem.W.keepIn K (.ref f_law_done) = true)
    (a_law_led : PySem.W.nsIn K mainGlobals "_law_led" = some (some (.ref f_law_led)))
    (l_law_led : K.lookup f_law_led = some ⟨oc_law_led, od_law_led, .func (PySem.W.fnOf "_law_led" "_law_led" (defArgs s_law_led) (defBody s_law_led) (defScope s_law_led) .none kV_law_led dc_law_led pm_law_led an_law_led cd_law_led ct_law_led), sl_law_led⟩)
    (c_law_led : PySem.W.codeIn K cd_law_led "_law_led" = true)
    (k_law_led : PySem.W.keepIn K (.ref f_law_led) = true)
    (a_law_same : PySem.W.nsIn K mainGlobals "_law_same" = some (some (.ref f_law_same)))
    (l_law_same : K.lookup f_law_same = some ⟨oc_law_same, od_law_same, .func (PySem.W.fnOf "_law_same" "_law_same" (defArgs s_law_same) (defBody s_law_same) (defScope s_law_same) .none kV_law_same dc_law_same pm_law_same an_law_same cd_law_same ct_law_same), sl_law_same⟩)
    (c_law_same : PySem.W.codeIn K cd_law_same "_law_same" = true)
    (k_law_same : PySem.W.keepIn K (.ref f_law_same) = true)
    (a_law_asked : PySem.W.nsIn K mainGlobals "_law_asked" = some (some (.ref f_law_asked)))
    (l_law_asked : K.lookup f_law_asked = some ⟨oc_law_asked, od_law_asked, .func (PySem.W.fnOf "_law_asked" "_law_asked" (defArgs s_law_asked) (defBody s_law_asked) (defScope s_law_asked) .none kV_law_asked dc_law_asked pm_law_asked an_law_asked cd_law_asked ct_law_asked), sl_law_asked⟩)
    (c_law_asked : PySem.W.codeIn K cd_law_asked "_law_asked" = true)
    (k_law_asked : PySem.W.keepIn K (.ref f_law_asked) = true)
    (a_law_spliced : PySem.W.nsIn K mainGlobals "_law_spliced" = some (some (.ref f_law_spliced)))
    (l_law_spliced : K.lookup f_law_spliced = some ⟨oc_law_spliced, od_law_spliced, .func (PySem.W.fnOf "_law_spliced" "_law_spliced" (defArgs s_law_spliced) (defBody s_law_spliced) (defScope s_law_spliced) .none kV_law_spliced dc_law_spliced pm_law_spliced an_law_spliced cd_law_spliced ct_law_spliced), sl_law_spliced⟩)
    (c_law_spliced : PySem.W.codeIn K cd_law_spliced "_law_spliced" = true)
    (k_law_spliced : PySem.W.keepIn K (.ref f_law_spliced) = true)
    (a_law_holds : PySem.W.nsIn K mainGlobals "_law_holds" = some (some (.ref f_law_holds)))
    (l_law_holds : K.lookup f_law_holds = some ⟨oc_law_holds, od_law_holds, .func (PySem.W.fnOf "_law_holds" "_law_holds" (defArgs s_law_holds) (defBody s_law_holds) (defScope s_law_holds) .none kV_law_holds dc_law_holds pm_law_holds an_law_holds cd_law_holds ct_law_holds), sl_law_holds⟩)
    (c_law_holds : PySem.W.codeIn K cd_law_holds "_law_holds" = true)
    (k_law_holds : PySem.W.keepIn K (.ref f_law_holds) = true)
    (a_law_stranges : PySem.W.nsIn K mainGlobals "_law_stranges" = some (some (.ref f_law_stranges)))
    (l_law_stranges : K.lookup f_law_stranges = some ⟨oc_law_stranges, od_law_stranges, .func (PySem.W.fnOf "_law_stranges" "_law_stranges" (defArgs s_law_stranges) (defBody s_law_stranges) (defScope s_law_stranges) .none kV_law_stranges dc_law_stranges pm_law_stranges an_law_stranges cd_law_stranges ct_law_stranges), sl_law_stranges⟩)
    (c_law_stranges : PySem.W.codeIn K cd_law_stranges "_law_stranges" = true)
    (k_law_stranges : PySem.W.keepIn K (.ref f_law_stranges) = true)
    (a_law_strange : PySem.W.nsIn K mainGlobals "_law_strange" = some (some (.ref f_law_strange)))
    (l_law_strange : K.lookup f_law_strange = some ⟨oc_law_strange, od_law_strange, .func (PySem.W.fnOf "_law_strange" "_law_strange" (defArgs s_law_strange) (defBody s_law_strange) (defScope s_law_strange) .none kV_law_strange dc_law_strange pm_law_strange an_law_strange cd_law_strange ct_law_strange), sl_law_strange⟩)
    (c_law_strange : PySem.W.codeIn K cd_law_strange "_law_strange" = true)
    (k_law_strange : PySem.W.keepIn K (.ref f_law_strange) = true)
    (a_law_bent : PySem.W.nsIn K mainGlobals "_law_bent" = some (some (.ref f_law_bent)))
    (l_law_bent : K.lookup f_law_bent = some ⟨oc_law_bent, od_law_bent, .func (PySem.W.fnOf "_law_bent" "_law_bent" (defArgs s_law_bent) (defBody s_law_bent) (defScope s_law_bent) .none kV_law_bent dc_law_bent pm_law_bent an_law_bent cd_law_bent ct_law_bent), sl_law_bent⟩)
    (c_law_bent : PySem.W.codeIn K cd_law_bent "_law_bent" = true)
    (k_law_bent : PySem.W.keepIn K (.ref f_law_bent) = true)
    (a_law : PySem.W.nsIn K mainGlobals "law" = some (some (.ref f_law)))
    (l_law : K.lookup f_law = some ⟨oc_law, od_law, .func (PySem.W.fnOf "law" "law" (defArgs s_law) (defBody s_law) (defScope s_law) .none kV_law dc_law pm_law an_law cd_law ct_law), sl_law⟩)
    (c_law : PySem.W.codeIn K cd_law "law" = true)
    (k_law : PySem.W.keepIn K (.ref f_law) = true)
    (aC_BadSplice : PySem.W.nsIn K mainGlobals "BadSplice" = some (some (.ref C_BadSplice)))
    (xL_BadSplice : K.lookup C_BadSplice = some (excClassObj nm_BadSplice qn_BadSplice C_BadSplice N_BadSplice bs_BadSplice [.ref B_BadSplice_DeskError, .type "ValueError", .type "Exception", .type "BaseException", .type "object"] true sn_BadSplice su_BadSplice ab_BadSplice col_BadSplice dd_BadSplice m0_BadSplice m1_BadSplice m2_BadSplice m3_BadSplice m5_BadSplice "ValueError.__new__"))
    (sa_BadSplice : PySem.W.findIn K (.ref C_BadSplice) "__setattr__" = some (some (.builtin "object.__setattr__")))
    (ga_BadSplice : PySem.W.findIn K (.ref C_BadSplice) "__getattribute__" = some (some (.builtin "BaseException.__getattribute__")))
    (gg_BadSplice : PySem.W.findIn K (.ref C_BadSplice) "__getattr__" = some none)
    (na_BadSplice_at : PySem.W.findIn K (.ref C_BadSplice) "at" = some none)
    (iC_BadSplice : PySem.W.findIn K (.ref C_BadSplice) "__init__" = some (some (.ref fi_BadSplice)))
    (ti_BadSplice : PySem.W.typeIn K (.ref fi_BadSplice) = some (.type "function"))
    (li_BadSplice : K.lookup fi_BadSplice = some ⟨oc_BadSplice, od_BadSplice, .func (PySem.W.fnOf "__init__" "BadSplice.__init__" (defArgs s_init_BadSplice) (defBody s_init_BadSplice) (defScope s_init_BadSplice) .none kV_BadSplice dc_BadSplice pm_BadSplice an_BadSplice cd_BadSplice ct_BadSplice), sl_BadSplice⟩)
    (ci_BadSplice : PySem.W.codeIn K cd_BadSplice "BadSplice.__init__" = true)
    (ki_BadSplice : PySem.W.keepIn K (.ref fi_BadSplice) = true)
    (kC_BadSplice : PySem.W.keepIn K (.ref C_BadSplice) = true)
    (eC_BadSplice : PySem.W.subIn K (.ref C_BadSplice) (.type "BaseException") = some true)
    (tC_BadSplice : PySem.W.typeIn K (.ref C_BadSplice) = some (.type "type"))
    (hC_BadSplice : PySem.W.hasDictIn K C_BadSplice = true)
    (yC_BadSplice : PySem.W.isClsIn K C_BadSplice = true)
    (sC_BadSplice : PySem.W.subIn K (.ref C_BadSplice) (.ref C_BadSplice) = some true)
    (v_ALPHABET : PySem.W.nsIn K mainGlobals "ALPHABET" = some (some (.str "\n !\"#$&'()*+,-./0123456789:;<=>?@ABCDEFGHIJKLMNOPQRSTUVWXYZ[\\]^_`abcdefghijklmnopqrstuvwxyz{|}~" tk_ALPHABET)))
    (z_bool : PySem.W.nsIn K mainGlobals "bool" = some none)
    (z_enumerate : PySem.W.nsIn K mainGlobals "enumerate" = some none)
    (z_int : PySem.W.nsIn K mainGlobals "int" = some none)
    (z_isinstance : PySem.W.nsIn K mainGlobals "isinstance" = some none)
    (z_len : PySem.W.nsIn K mainGlobals "len" = some none)
    (z_list : PySem.W.nsIn K mainGlobals "list" = some none)
    (z_max : PySem.W.nsIn K mainGlobals "max" = some none)
    (z_min : PySem.W.nsIn K mainGlobals "min" = some none)
    (z_range : PySem.W.nsIn K mainGlobals "range" = some none)
    (z_str : PySem.W.nsIn K mainGlobals "str" = some none)
    (z_tuple : PySem.W.nsIn K mainGlobals "tuple" = some none) :
    ∃ fd : FuncData, (∀ (s : Shared) (v : Value), BindsTo s fd ⟨[v], []⟩ [("_law_script", v)]) ∧ ∀ base : Heap, K.In base → base.Ns mainGlobals mg → FnOk l.prog w K mg base CX0 8 fa fd ["_law_script"] (sp_law K) := by
  have e := hfa.symm.trans (PySem.W.mg_of X G a_law)
  cases e
  have F_first_strange := fun_mk (st := s_first_strange) l_first_strange c_first_strange k_first_strange
  have F_is_text := fun_mk (st := s_is_text) l_is_text c_is_text k_is_text
  have F_is_number := fun_mk (st := s_is_number) l_is_number c_is_number k_is_number
  have F_is_splice := fun_mk (st := s_is_splice) l_is_splice c_is_splice k_is_splice
  have F_follows := fun_mk (st := s_follows) l_follows c_follows k_follows
  have F_check_round := fun_mk (st := s_check_round) l_check_round c_check_round k_check_round
  have F_spliced := fun_mk (st := s_spliced) l_spliced c_spliced k_spliced
  have F_law_start := fun_mk (st := s_law_start) l_law_start c_law_start k_law_start
  have F_law_draw := fun_mk (st := s_law_draw) l_law_draw c_law_draw k_law_draw
  have F_law_signs := fun_mk (st := s_law_signs) l_law_signs c_law_signs k_law_signs
  have F_law_text := fun_mk (st := s_law_text) l_law_text c_law_text k_law_text
  have F_law_round := fun_mk (st := s_law_round) l_law_round c_law_round k_law_round
  have F_law_is_number := fun_mk (st := s_law_is_number) l_law_is_number c_law_is_number k_law_is_number
  have F_law_is_text := fun_mk (st := s_law_is_text) l_law_is_text c_law_is_text k_law_is_text
  have F_law_is_splice := fun_mk (st := s_law_is_splice) l_law_is_splice c_law_is_splice k_law_is_splice
  have F_law_judged := fun_mk (st := s_law_judged) l_law_judged c_law_judged k_law_judged
  have F_law_done := fun_mk (st := s_law_done) l_law_done c_law_done k_law_done
  have F_law_led := fun_mk (st := s_law_led) l_law_led c_law_led k_law_led
  have F_law_same := fun_mk (st := s_law_same) l_law_same c_law_same k_law_same
  have F_law_asked := fun_mk (st := s_law_asked) l_law_asked c_law_asked k_law_asked
  have F_law_spliced := fun_mk (st := s_law_spliced) l_law_spliced c_law_spliced k_law_spliced
  have F_law_holds := fun_mk (st := s_law_holds) l_law_holds c_law_holds k_law_holds
  have F_law_stranges := fun_mk (st := s_law_stranges) l_law_stranges c_law_stranges k_law_stranges
  have F_law_strange := fun_mk (st := s_law_strange) l_law_strange c_law_strange k_law_strange
  have F_law_bent := fun_mk (st := s_law_bent) l_law_bent c_law_bent k_law_bent
  have F_law := fun_mk (st := s_law) l_law c_law k_law
  have F_BadSplice := fun_mk (st := s_init_BadSplice) li_BadSplice ci_BadSplice ki_BadSplice
  let T : Txt K mg := {
    a_first_strange := _, d_first_strange := _, F_first_strange := F_first_strange, b_first_strange := F_first_strange.binds (ps := ["text"]) (fun _ _ _ _ _ _ us hl => match us, hl with | [_], _ => rfl), g_first_strange := PySem.W.mg_of X G a_first_strange,
    a_is_text := _, d_is_text := _, F_is_text := F_is_text, b_is_text := F_is_text.binds (ps := ["thing"]) (fun _ _ _ _ _ _ us hl => match us, hl with | [_], _ => rfl), g_is_text := PySem.W.mg_of X G a_is_text,
    a_is_number := _, d_is_number := _, F_is_number := F_is_number, b_is_number := F_is_number.binds (ps := ["thing"]) (fun _ _ _ _ _ _ us hl => match us, hl with | [_], _ => rfl), g_is_number := PySem.W.mg_of X G a_is_number,
    a_is_splice := _, d_is_splice := _, F_is_splice := F_is_splice, b_is_splice := F_is_splice.binds (ps := ["thing"]) (fun _ _ _ _ _ _ us hl => match us, hl with | [_], _ => rfl), g_is_splice := PySem.W.mg_of X G a_is_splice,
    a_follows := _, d_follows := _, F_follows := F_follows, b_follows := F_follows.binds (ps := ["before", "splice"]) (fun _ _ _ _ _ _ us hl => match us, hl with | [_, _], _ => rfl), g_follows := PySem.W.mg_of X G a_follows,
    a_check_round := _, d_check_round := _, F_check_round := F_check_round, b_check_round := F_check_round.binds (ps := ["size", "splices"]) (fun _ _ _ _ _ _ us hl => match us, hl with | [_, _], _ => rfl), g_check_round := PySem.W.mg_of X G a_check_round,
    a_spliced := _, d_spliced := _, F_spliced := F_spliced, b_spliced := F_spliced.binds (ps := ["text", "splices"]) (fun _ _ _ _ _ _ us hl => match us, hl with | [_, _], _ => rfl), g_spliced := PySem.W.mg_of X G a_spliced,
    a_law_start := _, d_law_start := _, F_law_start := F_law_start, b_law_start := F_law_start.binds (ps := ["_law_script"]) (fun _ _ _ _ _ _ us hl => match us, hl with | [_], _ => rfl), g_law_start := PySem.W.mg_of X G a_law_start,
    a_law_draw := _, d_law_draw := _, F_law_draw := F_law_draw, b_law_draw := F_law_draw.binds (ps := ["_law_state", "_law_many"]) (fun _ _ _ _ _ _ us hl => match us, hl with | [_, _], _ => rfl), g_law_draw := PySem.W.mg_of X G a_law_draw,
    a_law_signs := _, d_law_signs := _, F_law_signs := F_law_signs, b_law_signs := F_law_signs.binds (ps := []) (fun _ _ _ _ _ _ us hl => match us, hl with | [], _ => rfl), g_law_signs := PySem.W.mg_of X G a_law_signs,
    a_law_text := _, d_law_text := _, F_law_text := F_law_text, b_law_text := F_law_text.binds (ps := ["_law_state", "_law_size"]) (fun _ _ _ _ _ _ us hl => match us, hl with | [_, _], _ => rfl), g_law_text := PySem.W.mg_of X G a_law_text,
    a_law_round := _, d_law_round := _, F_law_round := F_law_round, b_law_round := F_law_round.binds (ps := ["_law_state", "_law_size", "_law_most"]) (fun _ _ _ _ _ _ us hl => match us, hl with | [_, _, _], _ => rfl), g_law_round := PySem.W.mg_of X G a_law_round,
    a_law_is_number := _, d_law_is_number := _, F_law_is_number := F_law_is_number, b_law_is_number := F_law_is_number.binds (ps := ["_law_thing"]) (fun _ _ _ _ _ _ us hl => match us, hl with | [_], _ => rfl), g_law_is_number := PySem.W.mg_of X G a_law_is_number,
    a_law_is_text := _, d_law_is_text := _, F_law_is_text := F_law_is_text, b_law_is_text := F_law_is_text.binds (ps := ["_law_thing"]) (fun _ _ _ _ _ _ us hl => match us, hl with | [_], _ => rfl), g_law_is_text := PySem.W.mg_of X G a_law_is_text,
    a_law_is_splice := _, d_law_is_splice := _, F_law_is_splice := F_law_is_splice, b_law_is_splice := F_law_is_splice.binds (ps := ["_law_thing"]) (fun _ _ _ _ _ _ us hl => match us, hl with | [_], _ => rfl), g_law_is_splice := PySem.W.mg_of X G a_law_is_splice,
    a_law_judged := _, d_law_judged := _, F_law_judged := F_law_judged, b_law_judged := F_law_judged.binds (ps := ["_law_size", "_law_row"]) (fun _ _ _ _ _ _ us hl => match us, hl with | [_, _], _ => rfl), g_law_judged := PySem.W.mg_of X G a_law_judged,
    a_law_done := _, d_law_done := _, F_law_done := F_law_done, b_law_done := F_law_done.binds (ps := ["_law_text_here", "_law_row"]) (fun _ _ _ _ _ _ us hl => match us, hl with | [_, _], _ => rfl), g_law_done := PySem.W.mg_of X G a_law_done,
    a_law_led := _, d_law_led := _, F_law_led := F_law_led, b_law_led := F_law_led.binds (ps := ["_law_text_here", "_law_row"]) (fun _ _ _ _ _ _ us hl => match us, hl with | [_, _], _ => rfl), g_law_led := PySem.W.mg_of X G a_law_led,
    a_law_same := _, d_law_same := _, F_law_same := F_law_same, b_law_same := F_law_same.binds (ps := ["_law_due", "_law_told"]) (fun _ _ _ _ _ _ us hl => match us, hl with | [_, _], _ => rfl), g_law_same := PySem.W.mg_of X G a_law_same,
    a_law_asked := _, d_law_asked := _, F_law_asked := F_law_asked, b_law_asked := F_law_asked.binds (ps := ["_law_size", "_law_row"]) (fun _ _ _ _ _ _ us hl => match us, hl with | [_, _], _ => rfl), g_law_asked := PySem.W.mg_of X G a_law_asked,
    a_law_spliced := _, d_law_spliced := _, F_law_spliced := F_law_spliced, b_law_spliced := F_law_spliced.binds (ps := ["_law_text_here", "_law_row"]) (fun _ _ _ _ _ _ us hl => match us, hl with | [_, _], _ => rfl), g_law_spliced := PySem.W.mg_of X G a_law_spliced,
    a_law_holds := _, d_law_holds := _, F_law_holds := F_law_holds, b_law_holds := F_law_holds.binds (ps := ["_law_text_here", "_law_row"]) (fun _ _ _ _ _ _ us hl => match us, hl with | [_, _], _ => rfl), g_law_holds := PySem.W.mg_of X G a_law_holds,
    a_law_stranges := _, d_law_stranges := _, F_law_stranges := F_law_stranges, b_law_stranges := F_law_stranges.binds (ps := ["_law_state", "_law_splice", "_law_size"]) (fun _ _ _ _ _ _ us hl => match us, hl with | [_, _, _], _ => rfl), g_law_stranges := PySem.W.mg_of X G a_law_stranges,
    a_law_strange := _, d_law_strange := _, F_law_strange := F_law_strange, b_law_strange := F_law_strange.binds (ps := ["_law_state", "_law_splice", "_law_size"]) (fun _ _ _ _ _ _ us hl => match us, hl with | [_, _, _], _ => rfl), g_law_strange := PySem.W.mg_of X G a_law_strange,
    a_law_bent := _, d_law_bent := _, F_law_bent := F_law_bent, b_law_bent := F_law_bent.binds (ps := ["_law_state", "_law_good", "_law_size"]) (fun _ _ _ _ _ _ us hl => match us, hl with | [_, _, _], _ => rfl), g_law_bent := PySem.W.mg_of X G a_law_bent,
    a_law := _, d_law := _, F_law := F_law, b_law := F_law.binds (ps := ["_law_script"]) (fun _ _ _ _ _ _ us hl => match us, hl with | [_], _ => rfl), g_law := PySem.W.mg_of X G a_law,
    c_BadSplice := C_BadSplice, ai_BadSplice := fi_BadSplice, d_BadSplice := _, F_BadSplice := F_BadSplice, b_BadSplice := F_BadSplice.binds (ps := ["self", "at"]) (fun _ _ _ _ _ _ us hl => match us, hl with | [_, _], _ => rfl), g_BadSplice := PySem.W.mg_of X G aC_BadSplice,
    o_BadSplice := ⟨⟨_, _, _, _, _, _, _, _, _, _, _, _, _, _, _, xL_BadSplice, rfl⟩, sa_BadSplice, eC_BadSplice, tC_BadSplice, kC_BadSplice⟩, x_BadSplice := ⟨ga_BadSplice, gg_BadSplice, eC_BadSplice, hC_BadSplice⟩,
    i_BadSplice := iC_BadSplice, ti_BadSplice := ti_BadSplice, e_BadSplice := exm_self eC_BadSplice yC_BadSplice tC_BadSplice sC_BadSplice,
    na_BadSplice_at := na_BadSplice_at,
    t_ALPHABET := tk_ALPHABET, g_ALPHABET := PySem.W.mg_of X G v_ALPHABET,
    n_bool := PySem.W.mg_none_of X G z_bool,
    n_enumerate := PySem.W.mg_none_of X G z_enumerate,
    n_int := PySem.W.mg_none_of X G z_int,
    n_isinstance := PySem.W.mg_none_of X G z_isinstance,
    n_len := PySem.W.mg_none_of X G z_len,
    n_list := PySem.W.mg_none_of X G z_list,
    n_max := PySem.W.mg_none_of X G z_max,
    n_min := PySem.W.mg_none_of X G z_min,
    n_range := PySem.W.mg_none_of X G z_range,
    n_str := PySem.W.mg_none_of X G z_str,
    n_tuple := PySem.W.mg_none_of X G z_tuple }
  exact ⟨PySem.W.fnOf "law" "law" (defArgs s_law) (defBody s_law) (defScope s_law) .none kV_law dc_law pm_law an_law cd_law ct_law, fun s v => .of_eq rfl, fun base _ _ => ok_law T⟩
end K14
open PySem PySem.W PyProof.Rows
set_option maxHeartbeats 0 in
theorem PySem.Challenge.cw_deedstand_k14_whole_rounds_holds : PySem.Challenge.rw_deedstand_k14_whole_rounds.Holds := by
  w_on; o_law; k_head; (case hw => w_witness2)
  k_fill
  refine L2.walk_of (l := PySem.Challenge.rw_deedstand_k14_whole_rounds) (n := 63) (k := 8) (x := "_law_script") (CX := fun _ => L2.CX0) (sp := fun w => K14.sp_law _) rfl (by decide) rfl ⟨rfl, by decide, by decide⟩ (fun w h Y => PySem.W.kIn_of Y) ?F (fun _ _ a ns hl _ hS => ⟨a, ns, rfl, hS, hl, fun _ => rfl⟩) (fun _ _ _ _ _ h => h)
  case F =>
    intro w mg fa h KX G hmg
    refine' K14.all_mk KX G hmg ?a_first_strange ?l_first_strange ?c_first_strange ?k_first_strange ?a_is_text ?l_is_text ?c_is_text ?k_is_text ?a_is_number ?l_is_number ?c_is_number ?k_is_number ?a_is_splice ?l_is_splice ?c_is_splice ?k_is_splice ?a_follows ?l_follows ?c_follows ?k_follows ?a_check_round ?l_check_round ?c_check_round ?k_check_round ?a_spliced ?l_spliced ?c_spliced ?k_spliced ?a_law_start ?l_law_start ?c_law_start ?k_law_start ?a_law_draw ?l_law_draw ?c_law_draw ?k_law_draw ?a_law_signs ?l_law_signs ?c_law_signs ?k_law_signs ?a_law_text ?l_law_text ?c_law_text ?k_law_text ?a_law_round ?l_law_round ?c_law_round ?k_law_round ?a_law_is_number ?l_law_is_number ?c_law_is_number ?k_law_is_number ?a_law_is_text ?l_law_is_text ?c_law_is_text ?k_law_is_text ?a_law_is_splice ?l_law_is_splice ?c_law_is_splice ?k_law_is_splice ?a_law_judged ?l_law_judged ?c_law_judged ?k_law_judged ?a_law_done ?l_law_done ?c_law_done ?k_law_done ?a_law_led ?l_law_led ?c_law_led ?k_law_led ?a_law_same ?l_law_same ?c_law_same ?k_law_same ?a_law_asked ?l_law_asked ?c_law_asked ?k_law_asked ?a_law_spliced ?l_law_spliced ?c_law_spliced ?k_law_spliced ?a_law_holds ?l_law_holds ?c_law_holds ?k_law_holds ?a_law_stranges ?l_law_stranges ?c_law_stranges ?k_law_stranges ?a_law_strange ?l_law_strange ?c_law_strange ?k_law_strange ?a_law_bent ?l_law_bent ?c_law_bent ?k_law_bent ?a_law ?l_law ?c_law ?k_law ?aC_BadSplice ?xL_BadSplice ?sa_BadSplice ?ga_BadSplice ?gg_BadSplice ?na_BadSplice_at ?iC_BadSplice ?ti_BadSplice ?li_BadSplice ?ci_BadSplice ?ki_BadSplice ?kC_BadSplice ?eC_BadSplice ?tC_BadSplice ?hC_BadSplice ?yC_BadSplice ?sC_BadSplice ?v_ALPHABET ?z_bool ?z_enumerate ?z_int ?z_isinstance ?z_len ?z_list ?z_max ?z_min ?z_range ?z_str ?z_tuple
    (case a_first_strange => k_is)
    (case l_first_strange => k_is)
    (case c_first_strange => k_is)
    (case k_first_strange => k_is)
    (case a_is_text => k_is)
    (case l_is_text => k_is)
    (case c_is_text => k_is)
    (case k_is_text => k_is)
    (case a_is_number => k_is)
    (case l_is_number => k_is)
    (case c_is_number => k_is)
    (case k_is_number => k_is)
    (case a_is_splice => k_is)
    (case l_is_splice => k_is)
    (case c_is_splice => k_is)
    (case k_is_splice => k_is)
    (case a_follows => k_is)
    (case l_follows => k_is)
    (case c_follows => k_is)
    (case k_follows => k_is)
    (case a_check_round => k_is)
    (case l_check_round => k_is)
    (case c_check_round => k_is)
    (case k_check_round => k_is)
    (case a_spliced => k_is)
    (case l_spliced => k_is)
    (case c_spliced => k_is)
    (case k_spliced => k_is)
    (case a_law_start => k_is)
    (case l_law_start => k_is)
    (case c_law_start => k_is)
    (case k_law_start => k_is)
    (case a_law_draw => k_is)
    (case l_law_draw => k_is)
    (case c_law_draw => k_is)
    (case k_law_draw => k_is)
    (case a_law_signs => k_is)
    (case l_law_signs => k_is)
    (case c_law_signs => k_is)
    (case k_law_signs => k_is)
    (case a_law_text => k_is)
    (case l_law_text => k_is)
    (case c_law_text => k_is)
    (case k_law_text => k_is)
    (case a_law_round => k_is)
    (case l_law_round => k_is)
    (case c_law_round => k_is)
    (case k_law_round => k_is)
    (case a_law_is_number => k_is)
    (case l_law_is_number => k_is)
    (case c_law_is_number => k_is)
    (case k_law_is_number => k_is)
    (case a_law_is_text => k_is)
    (case l_law_is_text => k_is)
    (case c_law_is_text => k_is)
    (case k_law_is_text => k_is)
    (case a_law_is_splice => k_is)
    (case l_law_is_splice => k_is)
    (case c_law_is_splice => k_is)
    (case k_law_is_splice => k_is)
    (case a_law_judged => k_is)
    (case l_law_judged => k_is)
    (case c_law_judged => k_is)
    (case k_law_judged => k_is)
    (case a_law_done => k_is)
    (case l_law_done => k_is)
    (case c_law_done => k_is)
    (case k_law_done => k_is)
    (case a_law_led => k_is)
    (case l_law_led => k_is)
    (case c_law_led => k_is)
    (case k_law_led => k_is)
    (case a_law_same => k_is)
    (case l_law_same => k_is)
    (case c_law_same => k_is)
    (case k_law_same => k_is)
    (case a_law_asked => k_is)
    (case l_law_asked => k_is)
    (case c_law_asked => k_is)
    (case k_law_asked => k_is)
    (case a_law_spliced => k_is)
    (case l_law_spliced => k_is)
    (case c_law_spliced => k_is)
    (case k_law_spliced => k_is)
    (case a_law_holds => k_is)
    (case l_law_holds => k_is)
    (case c_law_holds => k_is)
    (case k_law_holds => k_is)
    (case a_law_stranges => k_is)
    (case l_law_stranges => k_is)
    (case c_law_stranges => k_is)
    (case k_law_stranges => k_is)
    (case a_law_strange => k_is)
    (case l_law_strange => k_is)
    (case c_law_strange => k_is)
    (case k_law_strange => k_is)
    (case a_law_bent => k_is)
    (case l_law_bent => k_is)
    (case c_law_bent => k_is)
    (case k_law_bent => k_is)
    (case a_law => k_is)
    (case l_law => k_is)
    (case c_law => k_is)
    (case k_law => k_is)
    (case aC_BadSplice => k_is)
    (case xL_BadSplice => k_is)
    (case sa_BadSplice => k_is)
    (case ga_BadSplice => k_is)
    (case gg_BadSplice => k_is)
    (case na_BadSplice_at => k_is)
    (case iC_BadSplice => k_is)
    (case ti_BadSplice => k_is)
    (case li_BadSplice => k_is)
    (case ci_BadSplice => k_is)
    (case ki_BadSplice => k_is)
    (case kC_BadSplice => k_is)
    (case eC_BadSplice => k_is)
    (case tC_BadSplice => k_is)
    (case hC_BadSplice => k_is)
    (case yC_BadSplice => k_is)
    (case sC_BadSplice => first | rfl | k_is)
    (case v_ALPHABET => k_is)
    (case z_bool => k_is)
    (case z_enumerate => k_is)
    (case z_int => k_is)
    (case z_isinstance => k_is)
    (case z_len => k_is)
    (case z_list => k_is)
    (case z_max => k_is)
    (case z_min => k_is)
    (case z_range => k_is)
    (case z_str => k_is)
    (case z_tuple => k_is)
