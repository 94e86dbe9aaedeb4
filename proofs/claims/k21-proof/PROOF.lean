import PyProof.Rows.All
import Wide.All
import OpenK.AllK
import Wide.FinOn
import HandS.ForMost
import HandS.Walk
import KE.GoesEnum
import HandS.Exc
import HandS.ExcOwn
import HandS.ExcInit
import HandS.ExcField
import HandS.TryOnly
import HandS.WordsExc
import HandS.IsInst
import HandS.Wide
import HandS.TupAny
import HandS.Flow
import HandS.Evl
import HandS.Deep
import HandS.Conv
import HandS.WideBits
import HandS.NoneIn
import KE.DataMinMax
import HandS.SortRule
import KE.SortData
import PySem.Challenge.RW_deedstand_k21_whole_meets_and_joins
set_option Elab.async false
set_option linter.all false
set_option maxRecDepth 100000
set_option maxHeartbeats 4000000
/-! enumerate over a tuple and over a text, one argument -/
namespace Dk
open PySem PySem.Spec PyProof.Rows L2
/-- the object that enumerate(v) makes -/
abbrev enObj (it : Addr) : Obj := { cls := .type "enumerate", data := .fields #[.none, .bool false, .ref it, rawInt 0, .none, .none] }
theorem enum_new1 {v : Value} {o : Obj} {G : Heap → Prop} (B : Begins v o G) :
    Meets (Builtin.«enumerate.__new__» ⟨[.type "enumerate", v], []⟩) fun _ R s =>
      G s.heap ∧ R (.ok (.ret (.ref (s.heap.push o).objs.size))) { s with heap := (s.heap.push o).push (enObj s.heap.objs.size) } := by
  refine .of_wp fun prog w A R s hh => ?_
  rcases s with ⟨hp, gs, dr, tk, os⟩
  obtain ⟨hG, hR⟩ := hh
  have hs := sub_enumerate
  have go : ∀ {A' : Around} {E : Value → Shared → Prop} {Q : Value → Shared → Prop},
      Q (.ref hp.objs.size) ⟨hp.push o, gs, dr, tk, os⟩ → wpAny (model prog w) A' (pyIter v) Q E ⟨hp, gs, dr, tk, os⟩ :=
    fun q => B.iter prog w _ _ ⟨hp, gs, dr, tk, os⟩ _ hG q
  wp_walk using go
  refine wpAny_stack_any fun st => ?_
  refine wpAny_pure ?_
  split
  · rename_i c _ _ _ _ _
    cases (c == Value.type "enumerate") <;> (wp_walk using go; exact ⟨_, rfl, hR⟩)
  · wp_walk using go
    exact ⟨_, rfl, hR⟩
section
variable {prog : Program} {w : World} {A : Around} {E : Value → Shared → Prop} {s : Shared}
theorem enum_call1 {v : Value} {o : Obj} {G : Heap → Prop} {Q : Value → Shared → Prop} (B : Begins v o G) (hG : G s.heap)
    (q : ∀ h', IsEnum h' (s.heap.objs.size + 1) s.heap.objs.size 0 .none → h'.get? s.heap.objs.size = some o →
      (∀ b u, s.heap.get? b = some u → h'.get? b = some u) → Q (.ref (s.heap.objs.size + 1)) { s with heap := h' }) :
    wpAny (model prog w) A (call (.type "enumerate") [v]) Q E s := by
  have sz : (s.heap.push o).objs.size = s.heap.objs.size + 1 := Heap.size_push ..
  have he : IsEnum ((s.heap.push o).push (enObj s.heap.objs.size)) (s.heap.objs.size + 1) s.heap.objs.size 0 .none := by
    have z := Heap.get?_push_size (s.heap.push o) (o := enObj s.heap.objs.size) rfl
    rw [sz] at z
    exact z
  refine callType_new F.called_enumerate (by decide) (F.typeCall_enumerate_1 _) (F.newCall_enumerate_1 _)
    (fun obj => F.args_object_init_2 obj _) F.entry_enumerate_new (enum_new1 B) ⟨hG, ?_⟩
  show _ ∧ _
  rw [sz]
  exact ⟨⟨_, he, rfl⟩, q _ he (Heap.get?_push_of_some _ (Heap.get?_push_size _ B.free))
    fun b u z => Heap.get?_push_of_some _ (Heap.get?_push_of_some _ z)⟩
end
/-- a new pair of the turn's number and f i -/
def ItE (G : Hp → Prop) (n : Nat) (Y : Nat → Hp → V → Prop) : It :=
  ⟨fun i H => G H ∧ i < n, fun i H v H' => ∃ T x, v = .ref T ∧ H T = none ∧ H' = upd H T (.tup [.int (i : Nat), x]) ∧ Y i H x, fun i H => G H ∧ i = n⟩
/-- what the source's own iterator does while the heap is so -/
structure Src (P : Program) (w : World) (K : PySem.W.Frag) (it : Addr) (G : Hp → Prop) (n : Nat) (Y : Nat → Hp → V → Prop) (Tn : Nat → Heap → Prop) : Prop where
  live : ∀ i h, Tn i h → ∃ o, h.get? it = some o ∧ ∀ v, o.data ≠ .cell v
  keep : ∀ i h h', Tn i h → (∀ o, h.get? it = some o → h'.get? it = some o) → Tn i h'
  draw : ∀ (X : Cx), X.prog = P → X.w = w → X.K = K → ∀ (pins : List (Addr × Obj)) (σ : L2.St) (H : Hp) (s : Shared) (i : Nat), Inv X pins σ H s → H it = none → G H → Tn i s.heap → X.A.handled = none →
    ∃ (fp : List Addr) (Pv : Nat → Value → Prop) (St' : Nat → Heap → Prop), Draws P w X.A.in1 it fp n Pv St' ∧ St' i s.heap ∧ (∀ e, H e = none → (∃ old j, IsEnum s.heap e it j old) → e ∉ fp) ∧
      (∀ j u, Pv j u → ∃ x, RelV x u ∧ Y j H x) ∧ ∀ j h, St' j h → Tn j h
theorem turn_E {P : Program} {w : World} {K : PySem.W.Frag} {elts : List Expr} {kk : Nat} {tpos : Pos} {e it : Addr} {G : Hp → Prop} {n : Nat} {Y : Nat → Hp → V → Prop} {Tn : Nat → Heap → Prop} (S : Src P w K it G n Y Tn) :
    Turn P w K (.Tuple elts kk tpos) (ItE G n Y) [e, it] e (fun i h => (∃ old, IsEnum h e it ((i : Nat) : Int) old) ∧ Tn i h ∧ e ≠ it) where
  mem := List.mem_cons_self ..
  obj := fun i h st b hb => by
    obtain ⟨⟨old, he⟩, hs, _⟩ := st
    rcases List.mem_cons.mp hb with z | z
    · subst z
      exact ⟨_, he, fun v q => nomatch q⟩
    · have z' := List.mem_singleton.mp z
      subst z'
      exact S.live i h hs
  keep := fun i h h' st k =>
    ⟨⟨st.1.choose, k e (List.mem_cons_self ..) _ st.1.choose_spec⟩, S.keep i h h' st.2.1 fun o q => k it (List.mem_cons_of_mem _ (List.mem_singleton.mpr rfl)) o q, st.2.2⟩
  item := by
    intro X hP hw hK hc i pins s σ H E I hf st hg
    obtain ⟨⟨old, he⟩, hs, hne⟩ := st
    have fe := hf e (by simp)
    have fi := hf it (by simp)
    obtain ⟨fp, Pv, St', D, hs', hef, hy, back⟩ := S.draw X hP hw hK pins σ H s i I fi.1 hg.1 hs (I.ok.hd hc)
    subst hP hw hK
    have hel : e < s.heap.objs.size := Heap.lt_size he
    obtain ⟨oi, hoi, _⟩ := S.live i _ hs
    have hil : it < s.heap.objs.size := Heap.lt_size hoi
    refine wpAny_pyNext_enum_itemC D he hs' hg.2 hne (hef e fe.1 ⟨_, _, he⟩) fun u h' tk hu ho hst hT hsz hk => ?_
    refine ⟨_, rfl, wpAny_letOwnedTupleGo_enum (s := { s with heap := h', toks := tk + 1 }) ho fun h2 he2 sb => ?_⟩
    obtain ⟨x, rx, yx⟩ := hy i u hu
    have hT2 : h2.get? s.heap.objs.size = some { cls := .type "tuple", data := .seq #[.int i tk, u] } := (sb.2 _ (Nat.ne_of_gt hel)).trans hT
    have new : ObjOk X.prog X.w (upd H s.heap.objs.size (.tup [.int (i : Nat), x])) h2 s.heap.objs.size (.tup [.int (i : Nat), x]) :=
      ⟨by show 2 ≤ sizeLine; decide, [.int i tk, u], .cons ⟨_, rfl⟩ (.cons rx .nil), _, hT2, rfl, _, rfl⟩
    have I1 : Inv X pins σ (upd H s.heap.objs.size (.tup [.int (i : Nat), x])) { s with heap := h2, toks := tk + 1 } := by
      refine I.turnedNew (ch := [e, it]) (fun b o hb q => ?_) hf (Nat.le_refl _) new
      have n1 : b ≠ e := fun z => hb (by simp [z])
      have n2 : b ≠ it := fun z => hb (by simp [z])
      exact (sb.2 b n1).trans (hk b o n1 n2 q)
    refine ⟨.ref s.heap.objs.size, _, I1, rfl, ⟨_, x, rfl, I.hok.fresh (Nat.le_refl _), rfl, yx⟩, ⟨⟨u, ?_⟩, ?_, hne⟩, fun b hb => ?_⟩
    · have e1 : ((i + 1 : Nat) : Int) = (i : Int) + 1 := by omega
      rw [e1]
      exact he2
    · exact S.keep _ _ _ (back _ _ hst) fun o q => (sb.2 it (Ne.symm hne)).trans q
    · have hb' : b < s.heap.objs.size := by
        rcases List.mem_cons.mp hb with z | z
        · exact z ▸ hel
        · exact (List.mem_singleton.mp z) ▸ hil
      rw [upd_ne (Nat.ne_of_lt hb')]
      exact (hf b hb).1
  done := by
    intro X hP hw hK hc i pins s σ H E I hf st hg
    obtain ⟨⟨old, he⟩, hs, hne⟩ := st
    obtain ⟨f0, f1, f2, f3, f4, f5⟩ := hf it (by simp)
    obtain ⟨fp, Pv, St', D, hs', hef, hy, back⟩ := S.draw X hP hw hK pins σ H s i I f0 hg.1 hs (I.ok.hd hc)
    subst hP hw hK
    rw [hg.2] at hs'
    exact wpAny_pyNext_enum_endD D he hs' fun h' eb => ⟨rfl, I.turned (t' := s.toks) (fun b o hb q => eb b o hb q) f0 f1 f3 f4 f5⟩
  self := fun A i s Q E st h => wpAny_pyIter_enum st.1.choose_spec h
theorem src_tup {P : Program} {w : World} {K : PySem.W.Frag} {a it : Addr} {xs : List V} :
    Src P w K it (fun H => SqT K H a xs) xs.length (fun i _ x => xs[i]? = some x) (fun i h => h.IsTupleIter it a i) where
  live := fun i h st => by
    obtain ⟨o, e, c, d⟩ := st
    exact ⟨o, e, fun v z => by rw [d] at z; cases z⟩
  keep := fun i h h' st k => st.at fun o e => k o e
  draw := by
    intro X hP hw hK pins σ H s i I hn hG st hh
    subst hP hw hK
    obtain ⟨its, rv, p, hz⟩ := I.tuple hG
    have pt : s.heap.IsTuple a its.toArray := p
    have hne : a ≠ it := by
      rintro rfl
      obtain ⟨o, e, c, _⟩ := pt
      obtain ⟨o', e', c', _⟩ := id st
      rw [e] at e'
      cases e'
      rw [c] at c'
      injection c' with q
      exact absurd q (by decide)
    have hl := rv.length
    refine ⟨[it, a], fun i v => its.toArray[i]? = some v, fun i h => h.IsTupleIter it a i ∧ h.IsTuple a its.toArray, ?_, ⟨st, pt⟩, fun e he hq => ?_, fun j u hu => ?_, fun j h z => z.1⟩
    · have D := Draws.tuple (prog := X.prog) (w := X.w) (A := X.A.in1) hh it a hne its.toArray
      rw [show its.toArray.size = xs.length by simp; omega] at D
      exact D
    · obtain ⟨old, j, hq⟩ := hq
      intro hm
      rcases List.mem_cons.mp hm with z | z
      · subst z
        obtain ⟨o, e', c, _⟩ := id st
        have hq' : s.heap.get? e = _ := hq
        rw [e'] at hq'
        cases hq'
        injection c with q
        exact absurd q (by decide)
      · have z' := List.mem_singleton.mp z
        subst z'
        obtain ⟨o, e', c, _⟩ := pt
        have hq' : s.heap.get? e = _ := hq
        rw [e'] at hq'
        cases hq'
        injection c with q
        exact absurd q (by decide)
    · have hu' : its[j]? = some u := by simpa using hu
      have hj : j < its.length := (List.getElem?_eq_some_iff.mp hu').1
      have hx : xs[j]? = some (xs[j]'(by omega)) := List.getElem?_eq_getElem (by omega)
      obtain ⟨u', h1, h2⟩ := rv.get hx
      rw [hu'] at h1
      cases h1
      exact ⟨_, h2, hx⟩
theorem src_str {P : Program} {w : World} {K : PySem.W.Frag} {it : Addr} {z : Str} {t : Tok} :
    Src P w K it (fun _ => True) z.cps.size (fun i _ x => ∃ c, z.cps[i]? = some c ∧ x = .str ⟨#[c]⟩) (fun i h => h.IsStrIter it (strIterType z) z t i) where
  live := fun i h st => by
    obtain ⟨o, e, c, d⟩ := st
    exact ⟨o, e, fun v z => by rw [d] at z; cases z⟩
  keep := fun i h h' st k => by
    obtain ⟨o, e, r⟩ := st
    exact ⟨o, k o e, r⟩
  draw := by
    intro X hP hw hK pins σ H s i I hn hG st hh
    subst hP hw hK
    refine ⟨[it], _, _, Draws.text (prog := X.prog) (w := X.w) (A := X.A.in1) hh it z t, st, fun e he hq hm => ?_, fun j u hu => ?_, fun j h z => z⟩
    · obtain ⟨old, j, hq⟩ := hq
      have z' := List.mem_singleton.mp hm
      subst z'
      obtain ⟨o, e', c, _⟩ := id st
      have hq' : s.heap.get? e = _ := hq
      rw [e'] at hq'
      cases hq'
      have c' : strIterType z = "enumerate" := by injection c with q; exact q.symm
      unfold strIterType at c'
      split at c' <;> exact absurd c' (by decide)
    · obtain ⟨c, u', h1, h2⟩ := hu
      exact ⟨.str ⟨#[c]⟩, ⟨u', h2⟩, c, h1, rfl⟩
def iEnumT (K : PySem.W.Frag) (ta : TA) : TI := fun σ H R => ta σ H fun vs H1 => ∃ a xs, vs = [.ref a] ∧ SqT K H1 a xs ∧ R (ItE (fun H => SqT K H a xs) xs.length fun i _ x => xs[i]? = some x) H1
def iEnumS (ta : TA) : TI := fun σ H R => ta σ H fun vs H1 => ∃ z, vs = [.str z] ∧ R (ItE (fun _ => True) z.cps.size fun i _ x => ∃ c, z.cps[i]? = some c ∧ x = .str ⟨#[c]⟩) H1
section
variable {X : Cx} {e : Expr} {ta : TA} {p pos tpos : Pos} {elts : List Expr} {kk : Nat}
theorem pi_enumT (hg : Gl X "enumerate") (hm : X.mg "enumerate" = none) (ha : PA X [e] ta) (hs : starEach [e] X.env = [(false, eval e X.env)] := by rfl) :
    PI X (.Tuple elts kk tpos) (.Call (.Name "enumerate" p) [e] [] pos) (iEnumT X.K ta) := by
  refine ⟨fun pins s σ H R I h => Call_ (ld_blt I hg hm boot_enumerate (PyProof.Rows.callWith_type1 (thn (ha.run pos pins s σ H _ I h) fun us s1 hh => ?_) hs rfl))⟩
  obtain ⟨vs, H1, I1, r1, a, xs, rfl, hq, q⟩ := hh
  obtain ⟨u, rfl, rx⟩ := vals1 r1
  cases rx
  obtain ⟨its, rv, pt, hz⟩ := I1.tuple hq
  refine enum_call1 (begins_tuple a its.toArray) pt fun h' he hit hk => wpAny_pyIter_enum he ?_
  have I2 : Inv X pins σ H1 { s1 with heap := h' } := I1.kept (t' := s1.toks) hk
  refine ⟨s1.heap.objs.size + 1, [s1.heap.objs.size + 1, s1.heap.objs.size], _, _, H1, rfl, I2, turn_E src_tup, ⟨⟨.none, he⟩, ⟨_, hit, rfl, rfl⟩, Nat.succ_ne_self _⟩, fun b hb => ?_, q⟩
  have hle : s1.heap.objs.size ≤ b := by
    rcases List.mem_cons.mp hb with z | z
    · exact z ▸ Nat.le_add_right _ _
    · exact (List.mem_singleton.mp z) ▸ Nat.le_refl _
  exact I1.fpOk hle (I1.hok.fresh hle)
theorem pi_enumS (hg : Gl X "enumerate") (hm : X.mg "enumerate" = none) (ha : PA X [e] ta) (hs : starEach [e] X.env = [(false, eval e X.env)] := by rfl) :
    PI X (.Tuple elts kk tpos) (.Call (.Name "enumerate" p) [e] [] pos) (iEnumS ta) := by
  refine ⟨fun pins s σ H R I h => Call_ (ld_blt I hg hm boot_enumerate (PyProof.Rows.callWith_type1 (thn (ha.run pos pins s σ H _ I h) fun us s1 hh => ?_) hs rfl))⟩
  obtain ⟨vs, H1, I1, r1, z, rfl, q⟩ := hh
  obtain ⟨u, rfl, rx⟩ := vals1 r1
  obtain ⟨t, rfl⟩ := rx
  refine enum_call1 (begins_text z t) trivial fun h' he hit hk => wpAny_pyIter_enum he ?_
  have I2 : Inv X pins σ H1 { s1 with heap := h' } := I1.kept (t' := s1.toks) hk
  refine ⟨s1.heap.objs.size + 1, [s1.heap.objs.size + 1, s1.heap.objs.size], _, _, H1, rfl, I2, turn_E src_str, ⟨⟨.none, he⟩, ⟨_, hit, rfl, rfl⟩, Nat.succ_ne_self _⟩, fun b hb => ?_, q⟩
  have hle : s1.heap.objs.size ≤ b := by
    rcases List.mem_cons.mp hb with z | z
    · exact z ▸ Nat.le_add_right _ _
    · exact (List.mem_singleton.mp z) ▸ Nat.le_refl _
  exact I1.fpOk hle (I1.hok.fresh hle)
end
end Dk
/-! the layer: what grows, steps of readings -/
namespace Dk
open PySem PySem.Spec PyProof.Rows L2

/-! ### what is known grows -/
abbrev A0 : Addr → Prop := fun _ => False
abbrev Ex := Same
/-- G: what is known for good; H: the heap; A: what may change -/
structure Gr (A : Addr → Prop) (G H G' H' : Hp) : Prop where
  gg : Ex G G'
  gh : Ex G' H'
  hh : ∀ b o, ¬ A b → H b = some o → H' b = some o
  th : ∀ b o, H b = some o → ∃ o', H' b = some o'
  nw : ∀ b o, H b = some o → G b = none → G' b = none
section
variable {A : Addr → Prop} {G H G1 H1 G2 H2 : Hp} {p q m : Addr} {o o' u : HO}
theorem Gr.refl (g : Ex G H) : Gr A G H G H := ⟨Same.refl G, g, fun _ _ _ h => h, fun _ o h => ⟨o, h⟩, fun _ _ _ h => h⟩
theorem Gr.trans (a : Gr A G H G1 H1) (b : Gr A G1 H1 G2 H2) : Gr A G H G2 H2 :=
  ⟨a.gg.trans b.gg, b.gh, fun x o n h => b.hh x o n (a.hh x o n h), fun x o h => by
    obtain ⟨o1, h1⟩ := a.th x o h
    exact b.th x o1 h1, fun x o h n => by
    obtain ⟨o1, h1⟩ := a.th x o h
    exact b.nw x o1 h1 (a.nw x o h n)⟩
theorem Gr.wide {B : Addr → Prop} (a : Gr A G H G1 H1) (h : ∀ x, A x → B x) : Gr B G H G1 H1 :=
  ⟨a.gg, a.gh, fun x o n => a.hh x o fun z => n (h x z), a.th, a.nw⟩
theorem Gr.of0 (a : Gr A0 G H G1 H1) : Gr A G H G1 H1 := a.wide fun _ z => z.elim
theorem Gr.same (a : Gr A0 G H G1 H1) : Ex H H1 := fun b o h => a.hh b o (fun z => z) h
/-- a new object, known for good -/
theorem Gr.new (g : Ex G H) (hp : H p = none) : Gr A G H (upd G p o) (upd H p o) where
  gg := fun b x e => by
    rw [upd_ne (ne_of_none e (g.free hp))]
    exact e
  gh := fun b x e => by
    by_cases hb : b = p
    · subst hb
      rw [upd_same] at e ⊢
      exact e
    · rw [upd_ne hb] at e ⊢
      exact g b x e
  hh := fun b x _ e => by
    rw [upd_ne (ne_of_none e hp)]
    exact e
  th := fun b x e => ⟨x, by
    rw [upd_ne (ne_of_none e hp)]
    exact e⟩
  nw := fun b x e n => by
    rw [upd_ne (ne_of_none e hp)]
    exact n
/-- a new object of our own -/
theorem Gr.own (g : Ex G H) (hp : H p = none) : Gr A G H G (upd H p o) where
  gg := Same.refl G
  gh := fun b x e => by
    rw [upd_ne (ne_of_none e (g.free hp))]
    exact g b x e
  hh := fun b x _ e => by
    rw [upd_ne (ne_of_none e hp)]
    exact e
  th := fun b x e => ⟨x, by
    rw [upd_ne (ne_of_none e hp)]
    exact e⟩
  nw := fun b x e n => n
/-- an object of our own is written -/
theorem Gr.mut (t : Gr A G H G1 H1) (h0 : A p ∨ H p = none) (hp : G1 p = none) : Gr A G H G1 (upd H1 p o) where
  gg := t.gg
  gh := fun b x e => by
    rw [upd_ne (ne_of_none e hp)]
    exact t.gh b x e
  hh := fun b x n e => by
    have hb : b ≠ p := fun z => by
      subst z
      rcases h0 with h0 | h0
      · exact n h0
      · rw [h0] at e
        cases e
    rw [upd_ne hb]
    exact t.hh b x n e
  th := fun b x e => by
    by_cases hb : b = p
    · exact ⟨o, by rw [hb, upd_same]⟩
    · rw [upd_ne hb]
      exact t.th b x e
  nw := t.nw
/-- an object of our own is known for good from here on -/
theorem Gr.give (t : Gr A G H G1 H1) (h0 : H p = none) (hp : H1 p = some o) (hn : G1 p = none) : Gr A G H (upd G1 p o) H1 where
  gg := fun b x e => by
    have z := t.gg b x e
    rw [upd_ne (ne_of_none z hn)]
    exact z
  gh := fun b x e => by
    by_cases hb : b = p
    · subst hb
      rw [upd_same] at e
      cases e
      exact hp
    · rw [upd_ne hb] at e
      exact t.gh b x e
  hh := t.hh
  th := t.th
  nw := fun b x e n => by
    have hb : b ≠ p := ne_of_none e h0
    rw [upd_ne hb]
    exact t.nw b x e n
theorem Gr.g0 (t : Gr A G H G1 H1) : Ex G H1 := t.gg.trans t.gh
theorem ne_g (h : G p = some o) (n : G q = none) : p ≠ q := ne_of_none h n
end

/-! ### what is read at an address -/
theorem SqL.up {K : PySem.W.Frag} {G G' : Hp} {a : Addr} {xs : List V} (e : Ex G G') (h : SqL K G a xs) : SqL K G' a xs := e.seq h
theorem SqT.up {K : PySem.W.Frag} {G G' : Hp} {a : Addr} {xs : List V} (e : Ex G G') (h : SqT K G a xs) : SqT K G' a xs := by
  rcases h with (h | ⟨o, h⟩) | h
  · exact .inl (.inl (e _ _ h))
  · exact .inl (.inr ⟨o, e _ _ h⟩)
  · exact .inr h
theorem sqL {K : PySem.W.Frag} {H : Hp} {a : Addr} {xs : List V} (h : H a = some (.lst xs)) : SqL K H a xs := .inl (.inl h)
theorem sqT {K : PySem.W.Frag} {H : Hp} {a : Addr} {xs : List V} (h : H a = some (.tup xs)) : SqT K H a xs := .inl (.inl h)

/-! ### unions of rules -/
def rStr2 : R2 := fun x y H Q => ∃ i j, x = .str i ∧ y = .str j ∧ i.length + j.length ≤ sizeLine ∧ Q (.str (i ++ j)) H
def rAddU (K : PySem.W.Frag) : R2 := fun x y H Q => rI0 (fun i j => .int (i + j)) x y H Q ∨ (rStr2 x y H Q ∨ (rCat x y H Q ∨ rCatA K x y H Q))
def rInS1 : R2 := fun x y H Q => ∃ (c : Nat) (z : Str), x = .str ⟨#[c]⟩ ∧ y = .str z ∧ Q (.bl (decide (c ∈ z.cps.toList))) H
def rNotInS1 : R2 := fun x y H Q => ∃ (c : Nat) (z : Str), x = .str ⟨#[c]⟩ ∧ y = .str z ∧ Q (.bl (!decide (c ∈ z.cps.toList))) H
def rInU (K : PySem.W.Frag) : R2 := fun x y H Q => rInS1 x y H Q ∨ rIn K false x y H Q
def rNotInU (K : PySem.W.Frag) : R2 := fun x y H Q => rNotInS1 x y H Q ∨ rIn K true x y H Q
def rEqU (K : PySem.W.Frag) : R2 := fun x y H Q => rEq x y H Q ∨ rEqD K x y H Q
def rNeU (K : PySem.W.Frag) : R2 := fun x y H Q => rNe x y H Q ∨ rNeD K x y H Q
def rSlU (K : PySem.W.Frag) : V → Option Int → Option Int → Hp → VK → Prop := fun x lo hi H Q => rSlS x lo hi H Q ∨ (rSlL K x lo hi H Q ∨ rSlA K x lo hi H Q)
def rLenU (K : PySem.W.Frag) : List V → Hp → VK → Prop := fun xs H Q => ∃ x n, xs = [x] ∧ LenV K x H n ∧ Q (.int (n : Nat)) H
def rInt1 : List V → Hp → VK → Prop := fun xs H Q => (∃ i, xs = [.int i] ∧ Q (.int i) H) ∨ ∃ k, xs = [.bl k] ∧ Q (.int (if k then 1 else 0)) H
def rMax : List V → Hp → VK → Prop := fun xs H Q => ∃ i j, xs = [.int i, .int j] ∧ Q (.int (if j > i then j else i)) H
def rMin : List V → Hp → VK → Prop := fun xs H Q => ∃ i j, xs = [.int i, .int j] ∧ Q (.int (if j < i then j else i)) H
def rListU (K : PySem.W.Frag) : List V → Hp → VK → Prop := fun xs H Q => ∃ p ys, xs = [.ref p] ∧ (SqL K H p ys ∨ SqT K H p ys) ∧ ∀ l, H l = none → Q (.ref l) (upd H l (.lst ys))
def rTupU (K : PySem.W.Frag) : List V → Hp → VK → Prop := fun xs H Q => ∃ p ys, xs = [.ref p] ∧ ((SqL K H p ys ∧ ∀ l, H l = none → Q (.ref l) (upd H l (.tup ys))) ∨ (SqT K H p ys ∧ Q (.ref p) H))
def rJoin (K : PySem.W.Frag) : V → List V → Hp → VK → Prop := fun x xs H Q => ∃ a p, ∃ ys : List Str, x = .str a ∧ xs = [.ref p] ∧ (SqL K H p (ys.map V.str) ∨ SqT K H p (ys.map V.str)) ∧
  (ys.map (·.length)).sum + ys.length * a.length ≤ 16777216 ∧ Q (.str (Txt.join a ys)) H
def rIsN1 : R2 := fun x y H Q => y = .non ∧ Q (.bl (decide (x = .non))) H
def rNotN1 : R2 := fun x y H Q => y = .non ∧ Q (.bl (!decide (x = .non))) H
def rDivW : R2 := rI CDivW fun i j => .int (i / j)
def rModP : R2 := rI (fun _ j => 0 < j) fun i j => .int (i % j)
def rMulW : R2 := rI CMulW fun i j => .int (i * j)
section
variable {X : Cx}
theorem op_addU : OpR X (binaryOp .Add) (rAddU X.K) := op_add.or (op_add_str.or (op_cat.or op_catA))
theorem op_inU : OpR X (compareOp .In) (rInU X.K) := op_in_sign.or op_in_seq
theorem op_notInU : OpR X (compareOp .NotIn) (rNotInU X.K) := op_notIn_sign.or op_notIn_seq
theorem op_eqU (hu : X.A.units + 64 < cLine) : OpR X (compareOp .Eq) (rEqU X.K) := op_eq.or (op_eqD hu)
theorem op_neU (hu : X.A.units + 64 < cLine) : OpR X (compareOp .NotEq) (rNeU X.K) := op_ne.or (op_neD hu)
theorem sl_U : SlR X (rSlU X.K) := sl_str.or (sl_list.or sl_tupA)
theorem call_lenU : CallR X (.builtin "len") (rLenU X.K) := call_len
theorem call_intU : CallR X (.type "int") rInt1 := call_int1
theorem call_maxU (hc : X.calm = true) : CallR X (.builtin "max") rMax := call_max2 hc
theorem call_minU (hc : X.calm = true) : CallR X (.builtin "min") rMin := call_min2 hc
theorem call_listU : CallR X (.type "list") (rListU X.K) := call_list_of
theorem call_tupU : CallR X (.type "tuple") (rTupU X.K) := call_tuple_of
theorem op_isU : OpR X (compareOp .Is) rIsN1 := op_isN
theorem op_isnotU : OpR X (compareOp .IsNot) rNotN1 := op_notN
theorem op_divW : OpR X (binaryOp .FloorDiv) rDivW := op_fdivW
theorem op_modP : OpR X (binaryOp .Mod) rModP := op_mod
theorem op_mulWW : OpR X (binaryOp .Mult) rMulW := op_mulW
end

/-! within a comprehension -/
section
variable {X : Cx} {K : PySem.W.Frag}
theorem k_add (h : X.K = K) : OpR X (binaryOp .Add) (rAddU K) := h ▸ op_addU
theorem k_in (h : X.K = K) : OpR X (compareOp .In) (rInU K) := h ▸ op_inU
theorem k_notIn (h : X.K = K) : OpR X (compareOp .NotIn) (rNotInU K) := h ▸ op_notInU
theorem k_ix (h : X.K = K) : IxR X (rIx K) := h ▸ ix_seq
theorem k_sl (h : X.K = K) : SlR X (rSlU K) := h ▸ sl_U
theorem k_len (h : X.K = K) : CallR X (.builtin "len") (rLenU K) := h ▸ call_lenU
theorem k_list (h : X.K = K) : CallR X (.type "list") (rListU K) := h ▸ call_listU
theorem k_tup (h : X.K = K) : CallR X (.type "tuple") (rTupU K) := h ▸ call_tupU
theorem k_isi (h : X.K = K) : CallR X (.builtin "isinstance") (rIsi K) := h ▸ call_isi
end
/-! ### steps -/
section
variable {K : PySem.W.Frag} {σ : L2.St} {H H' : Hp} {Q : VK} {v x y : V} {ta tb te : TE} {i j : Int} {D : Ends} {t u : TS} {tt tu : TT} {QB : Bool → Hp → Prop} {ar : TA} {QL : List V → Hp → Prop}
theorem r_var {n : Nat} (h : σ[n]? = some (some v)) (q : Q v H) : tVar n σ H Q := ⟨v, h, q⟩
theorem r_c (q : Q v H) : tC v σ H Q := q
theorem r_op {r : R2} (h : ta σ H fun x H1 => tb σ H1 fun y H2 => r x y H2 Q) : tOp r ta tb σ H Q := h
theorem r_un {r : V → Hp → VK → Prop} (h : ta σ H fun x H1 => r x H1 Q) : tUn r ta σ H Q := h
theorem r_I0 {g : Int → Int → V} (q : Q (g i j) H) : rI0 g (.int i) (.int j) H Q := ⟨i, j, rfl, rfl, q⟩
theorem r_I {C : Int → Int → Prop} {g : Int → Int → V} (c : C i j) (q : Q (g i j) H) : rI C g (.int i) (.int j) H Q := ⟨i, j, rfl, rfl, c, q⟩
theorem r_mulW (c : CMulW i j) (q : Q (.int (i * j)) H) : rMulW (.int i) (.int j) H Q := ⟨i, j, rfl, rfl, c, q⟩
theorem r_divW (c : CDivW i j) (q : Q (.int (i / j)) H) : rDivW (.int i) (.int j) H Q := ⟨i, j, rfl, rfl, c, q⟩
theorem r_modP (c : 0 < j) (q : Q (.int (i % j)) H) : rModP (.int i) (.int j) H Q := ⟨i, j, rfl, rfl, c, q⟩
theorem r_U {g : Int → V} (q : Q (g i) H) : rU g (.int i) H Q := ⟨i, rfl, q⟩
theorem r_addI (q : Q (.int (i + j)) H) : rAddU K (.int i) (.int j) H Q := .inl ⟨i, j, rfl, rfl, q⟩
theorem r_addS {a b : Str} (h : a.length + b.length ≤ sizeLine) (q : Q (.str (a ++ b)) H) : rAddU K (.str a) (.str b) H Q := .inr (.inl ⟨a, b, rfl, rfl, h, q⟩)
theorem r_addL {p q : Addr} {xs ys : List V} (hp : H p = some (.lst xs)) (hq : H q = some (.lst ys)) (hz : xs.length + ys.length ≤ sizeLine) (k : ∀ l, H l = none → Q (.ref l) (upd H l (.lst (xs ++ ys)))) : rAddU K (.ref p) (.ref q) H Q :=
  .inr (.inr (.inl ⟨p, q, xs, ys, rfl, rfl, hp, hq, hz, k⟩))
theorem r_sub (q : Q (.int (i - j)) H) : rI0 (fun i j => .int (i - j)) (.int i) (.int j) H Q := ⟨i, j, rfl, rfl, q⟩
theorem r_inS {c : Nat} {z : Str} (q : Q (.bl (decide (c ∈ z.cps.toList))) H) : rInU K (.str ⟨#[c]⟩) (.str z) H Q := .inl ⟨c, z, rfl, rfl, q⟩
theorem r_niS {c : Nat} {z : Str} (q : Q (.bl (!decide (c ∈ z.cps.toList))) H) : rNotInU K (.str ⟨#[c]⟩) (.str z) H Q := .inl ⟨c, z, rfl, rfl, q⟩
theorem r_eq (h : scal x y = true) (q : Q (.bl (decide (x = y))) H) : rEqU K x y H Q := .inl ⟨h, q⟩
theorem r_ne (h : scal x y = true) (q : Q (.bl (!decide (x = y))) H) : rNeU K x y H Q := .inl ⟨h, q⟩
theorem r_isN (q : Q (.bl (decide (x = .non))) H) : rIsN1 x .non H Q := ⟨rfl, q⟩
theorem r_notN (q : Q (.bl (!decide (x = .non))) H) : rNotN1 x .non H Q := ⟨rfl, q⟩
theorem r_ixL {p : Addr} {xs : List V} (h : SqL K H p xs) (a : atI xs i = some v) (q : Q v H) : rIx K (.ref p) (.int i) H Q := .inl ⟨p, xs, i, v, rfl, rfl, h, a, q⟩
theorem r_ixT {p : Addr} {xs : List V} (h : SqT K H p xs) (a : atI xs i = some v) (q : Q v H) : rIx K (.ref p) (.int i) H Q := .inr (.inl ⟨p, xs, i, v, rfl, rfl, h, a, q⟩)
theorem r_ixS {z : Str} {c : Nat} (h : z.length ≤ sizeLine) (a : atI z.cps.toList i = some c) (q : Q (.str ⟨#[c]⟩) H) : rIx K (.str z) (.int i) H Q := .inr (.inr ⟨z, i, c, rfl, rfl, h, a, q⟩)
theorem r_slS {z : Str} {lo hi : Option Int} (h : z.length ≤ sizeLine) (q : Q (.str (cutS z lo hi)) H) : rSlU K (.str z) lo hi H Q := .inl ⟨z, rfl, h, q⟩
theorem r_slL {p : Addr} {xs : List V} {lo hi : Option Int} (h : SqL K H p xs) (q : ∀ l, H l = none → Q (.ref l) (upd H l (.lst (cutV xs lo hi)))) : rSlU K (.ref p) lo hi H Q := .inr (.inl ⟨p, xs, rfl, h, q⟩)
theorem r_lenS {z : Str} (h : z.length ≤ sizeLine) (q : Q (.int (z.length : Nat)) H) : rLenU K [.str z] H Q := ⟨_, _, rfl, ⟨h, rfl⟩, q⟩
theorem r_lenL {p : Addr} {xs : List V} (h : SqL K H p xs) (q : Q (.int (xs.length : Nat)) H) : rLenU K [.ref p] H Q := ⟨_, _, rfl, .inl ⟨xs, h, rfl⟩, q⟩
theorem r_lenT {p : Addr} {xs : List V} (h : SqT K H p xs) (q : Q (.int (xs.length : Nat)) H) : rLenU K [.ref p] H Q := ⟨_, _, rfl, .inr ⟨xs, h, rfl⟩, q⟩
theorem r_int (q : Q (.int i) H) : rInt1 [.int i] H Q := .inl ⟨i, rfl, q⟩
theorem r_max (q : Q (.int (max i j)) H) : rMax [.int i, .int j] H Q := ⟨i, j, rfl, by
  have e : (if j > i then j else i) = max i j := by omega
  rw [e]
  exact q⟩
theorem r_min (q : Q (.int (min i j)) H) : rMin [.int i, .int j] H Q := ⟨i, j, rfl, by
  have e : (if j < i then j else i) = min i j := by omega
  rw [e]
  exact q⟩
theorem r_listL {p : Addr} {xs : List V} (h : SqL K H p xs) (q : ∀ l, H l = none → Q (.ref l) (upd H l (.lst xs))) : rListU K [.ref p] H Q := ⟨p, xs, rfl, .inl h, q⟩
theorem r_listT {p : Addr} {xs : List V} (h : SqT K H p xs) (q : ∀ l, H l = none → Q (.ref l) (upd H l (.lst xs))) : rListU K [.ref p] H Q := ⟨p, xs, rfl, .inr h, q⟩
theorem r_tupL {p : Addr} {xs : List V} (h : SqL K H p xs) (q : ∀ l, H l = none → Q (.ref l) (upd H l (.tup xs))) : rTupU K [.ref p] H Q := ⟨p, xs, rfl, .inl ⟨h, q⟩⟩
theorem r_tupT {p : Addr} {xs : List V} (h : SqT K H p xs) (q : Q (.ref p) H) : rTupU K [.ref p] H Q := ⟨p, xs, rfl, .inr ⟨h, q⟩⟩
theorem r_isi {n a : String} {b : Bool} (ty : TyX K H x (.type a)) (e : kitB a n = some b) (q : Q (.bl b) H) : rIsi K [x, .ty n] H Q := ⟨x, .ty n, .type a, .type n, b, rfl, .ty n, ty, kit_ty e, q⟩
theorem r_nil (q : QL [] H) : tNil σ H QL := q
theorem r_cons (h : ta σ H fun x H1 => ar σ H1 fun xs H2 => QL (x :: xs) H2) : tCons ta ar σ H QL := h
theorem r_tup (h : ar σ H fun xs H1 => xs.length ≤ sizeLine ∧ ∀ p, H1 p = none → Q (.ref p) (upd H1 p (.tup xs))) : tTup ar σ H Q := h
theorem r_lst (h : ar σ H fun xs H1 => xs.length ≤ sizeLine ∧ ∀ p, H1 p = none → Q (.ref p) (upd H1 p (.lst xs))) : tLst ar σ H Q := h
theorem r_small {xs : List V} {P : Prop} (h : xs.length ≤ 1000) (k : P) : xs.length ≤ sizeLine ∧ P := ⟨Nat.le_of_lt (small1000 h), k⟩
theorem r_CB {r : List V → Hp → VK → Prop} (h : ar σ H fun vs H1 => r vs H1 Q) : tCB r ar σ H Q := h
theorem r_call {sp : Sp} {dvs : List V} {E : XK} (h : ar σ H fun vs H1 => sp (vs ++ dvs) H1 Q E) : tCall sp dvs E ar σ H Q := h
theorem r_callS {sp : Sp} {E : L2.St → XK} (h : ar σ H fun vs H1 => sp vs H1 Q (E σ)) : tCallS sp E ar σ H Q := h
theorem r_bl {b : Bool} (q : QB b H) : ∃ k, V.bl b = .bl k ∧ QB k H := ⟨b, rfl, q⟩
theorem r_test (h : te σ H fun x H1 => ∃ k, x = .bl k ∧ QB k H1) : tTest te σ H QB := h
theorem r_B (h : te σ H fun x H1 => ∃ k, x = .bl k ∧ QB k H1) : tB te σ H QB := h
theorem r_and (h : tt σ H fun c H1 => if c = true then tu σ H1 QB else QB false H1) : tAnd tt tu σ H QB := h
theorem r_andB {b1 b2 : Bool} (h1 : ∀ QB : Bool → Hp → Prop, QB b1 H → tt σ H QB) (h2 : b1 = true → ∀ QB : Bool → Hp → Prop, QB b2 H → tu σ H QB) (k : QB (b1 && b2) H) : tAnd tt tu σ H QB := by
  refine h1 _ ?_
  cases b1 with
  | true => exact h2 rfl _ k
  | false => exact k
theorem r_orB {b1 b2 : Bool} (h1 : ∀ QB : Bool → Hp → Prop, QB b1 H → tt σ H QB) (h2 : b1 = false → ∀ QB : Bool → Hp → Prop, QB b2 H → tu σ H QB) (k : QB (b1 || b2) H) : tOr tt tu σ H QB := by
  refine h1 _ ?_
  cases b1 with
  | true => exact k
  | false => exact h2 rfl _ k
theorem r_or (h : tt σ H fun c H1 => if c = true then QB true H1 else tu σ H1 QB) : tOr tt tu σ H QB := h
theorem r_not (h : tt σ H fun c H1 => QB (!c) H1) : tNot tt σ H QB := h
theorem r_andV (h : ta σ H fun x H1 => ∃ c, x = .bl c ∧ if c = true then tb σ H1 Q else Q (.bl false) H1) : tAndV ta tb σ H Q := h
theorem r_orV (h : ta σ H fun x H1 => ∃ c, x = .bl c ∧ if c = true then Q (.bl true) H1 else tb σ H1 Q) : tOrV ta tb σ H Q := h
theorem r_notV (h : ta σ H fun x H1 => ∃ c, x = .bl c ∧ Q (.bl (!c)) H1) : tNotV ta σ H Q := h
theorem r_ifE (h : tt σ H fun c H1 => if c = true then ta σ H1 Q else tb σ H1 Q) : tIf tt ta tb σ H Q := h
theorem r_blv {b : Bool} {P : Bool → Prop} (q : P b) : ∃ c, V.bl b = .bl c ∧ P c := ⟨b, rfl, q⟩
theorem r_sl {r : V → Option Int → Option Int → Hp → VK → Prop} {tl th : TO} (h : te σ H fun x H1 => tl σ H1 fun l H2 => th σ H2 fun u H3 => r x l u H3 Q) : tSl r te tl th σ H Q := h
theorem r_seq (h : t { D with nx := u D } σ H) : tSeq t u D σ H := h
theorem r_next (q : D.nx σ H) : tNext D σ H := q
theorem r_asg {g : TG} (h : te σ H fun x H1 => g x σ H1 D.nx) : tAsg te g D σ H := h
theorem r_gname {n : Nat} {N : L2.St → Hp → Prop} (q : N (σ.set n (some v)) H) : gName n v σ H N := q
theorem r_ret (h : te σ H D.rt) : tRet te D σ H := h
theorem r_retN (h : D.rt .non H) : tRetN D σ H := h
theorem r_drop (h : te σ H fun _ H1 => D.nx σ H1) : tDrop te D σ H := h
theorem r_ifS (h : tt σ H fun b H1 => if b = true then t D σ H1 else u D σ H1) : tIfS tt t u D σ H := h
theorem r_app {p : Addr} {xs : List V} (h : H p = some (.lst xs)) (z : xs.length < sizeLine) (q : Q .non (upd H p (.lst (xs ++ [v])))) : rAppend (.ref p) [v] H Q := ⟨p, xs, v, rfl, rfl, h, z, q⟩
theorem r_bm {T : String} {r : V → List V → Hp → VK → Prop} (h : te σ H fun x H1 => tyV K T x H1 ∧ ar σ H1 fun xs H2 => r x xs H2 Q) : tBM K T r te ar σ H Q := h
theorem r_tyL {p : Addr} {xs : List V} {P : Prop} (h : SqL K H p xs) (k : P) : tyV K "list" (.ref p) H ∧ P := ⟨.inl ⟨rfl, xs, h⟩, k⟩
theorem r_setL {p : Addr} {xs : List V} {n : Nat} {N : Hp → Prop} (h : H p = some (.lst xs)) (a : ixN xs.length i = some n) (q : N (upd H p (.lst (xs.set n v)))) : rSetL (.ref p) (.int i) v H N := ⟨p, xs, i, n, rfl, rfl, h, a, q⟩
theorem r_gsub {ti : TE} {to : TE} {ts : TSet} {N : L2.St → Hp → Prop} (h : to σ H fun o H1 => ti σ H1 fun i H2 => ts o i v H2 fun H3 => N σ H3) : gSub to ti ts v σ H N := h
theorem r_ite {c A B : Prop} [Decidable c] (h1 : c → A) (h2 : ¬ c → B) : if decide c = true then A else B := by
  by_cases h : c
  · rw [if_pos (decide_eq_true h)]
    exact h1 h
  · rw [if_neg (by rw [decide_eq_false h]; decide)]
    exact h2 h
theorem r_iteN {c A B : Prop} [Decidable c] (h1 : ¬ c → A) (h2 : c → B) : if (!decide c) = true then A else B := by
  by_cases h : c
  · rw [if_neg (by rw [decide_eq_true h]; decide)]
    exact h2 h
  · rw [if_pos (by rw [decide_eq_false h]; rfl)]
    exact h1 h
theorem r_iteB {b : Bool} {A B : Prop} (h1 : b = true → A) (h2 : b = false → B) : if b = true then A else B := by
  cases b with
  | true => exact h1 rfl
  | false => exact h2 rfl
theorem r_itt {A B : Prop} (h : A) : if true = true then A else B := by
  rw [if_pos rfl]
  exact h
theorem r_iff {A B : Prop} (h : B) : if false = true then A else B := by
  rw [if_neg Bool.false_ne_true]
  exact h
theorem r_ittD {b : Bool} {A B : Prop} (e : b = true) (h : A) : if b = true then A else B := by
  rw [if_pos e]
  exact h
theorem r_iffD {b : Bool} {A B : Prop} (e : b = false) (h : B) : if b = true then A else B := by
  rw [e]
  exact r_iff h
theorem r_ittN {A B : Prop} (h : A) : if (!false) = true then A else B := r_itt h
theorem r_iffN {A B : Prop} (h : B) : if (!true) = true then A else B := r_iff h
end

/-! ### growth, further -/
section
variable {A : Addr → Prop} {G H G1 H1 G2 H2 : Hp} {p q m : Addr} {o o' u : HO} {K : PySem.W.Frag} {xs : List V} {Q : VK}
theorem Gr.ex (g : Ex G H) (e : Ex H H1) : Gr A G H G H1 := ⟨Same.refl G, g.trans e, fun b o _ h => e b o h, fun b o h => ⟨o, e b o h⟩, fun _ _ _ n => n⟩
/-- a step of one that leaves everything as it was -/
theorem Gr.then (t : Gr A G H G1 H1) (e : Ex H1 H2) : Gr A G H G1 H2 := t.trans (.ex t.gh e)
theorem Gr.none_of (t : Gr A G H G1 H1) (h : H p = some o) (n : G p = none) : G1 p = none := t.nw p o h n
/-- a new tuple, known for good -/
theorem a_tup (g : Ex G H) (hl : xs.length ≤ 1000) (k : ∀ p G' H', Gr A0 G H G' H' → G' p = some (.tup xs) → H p = none → Q (.ref p) H') :
    xs.length ≤ sizeLine ∧ ∀ p, H p = none → Q (.ref p) (upd H p (.tup xs)) :=
  ⟨Nat.le_of_lt (small1000 hl), fun p hp => k p _ _ (Gr.new g hp) upd_same hp⟩
theorem a_lst (g : Ex G H) (hl : xs.length ≤ 1000) (k : ∀ p G' H', Gr A0 G H G' H' → G' p = some (.lst xs) → H p = none → Q (.ref p) H') :
    xs.length ≤ sizeLine ∧ ∀ p, H p = none → Q (.ref p) (upd H p (.lst xs)) :=
  ⟨Nat.le_of_lt (small1000 hl), fun p hp => k p _ _ (Gr.new g hp) upd_same hp⟩
/-- a new list of our own -/
theorem a_own (g : Ex G H) (hl : xs.length ≤ 1000) (k : ∀ p H', Gr A0 G H G H' → H' p = some (.lst xs) → H p = none → G p = none → Q (.ref p) H') :
    xs.length ≤ sizeLine ∧ ∀ p, H p = none → Q (.ref p) (upd H p (.lst xs)) :=
  ⟨Nat.le_of_lt (small1000 hl), fun p hp => k p _ (Gr.own g hp) upd_same hp (g.free hp)⟩
theorem n_tup (g : Ex G H) (k : ∀ p G' H', Gr A0 G H G' H' → G' p = some (.tup xs) → H p = none → Q (.ref p) H') :
    ∀ p, H p = none → Q (.ref p) (upd H p (.tup xs)) := fun p hp => k p _ _ (Gr.new g hp) upd_same hp
theorem n_lst (g : Ex G H) (k : ∀ p G' H', Gr A0 G H G' H' → G' p = some (.lst xs) → H p = none → Q (.ref p) H') :
    ∀ p, H p = none → Q (.ref p) (upd H p (.lst xs)) := fun p hp => k p _ _ (Gr.new g hp) upd_same hp
theorem n_own (g : Ex G H) (k : ∀ p H', Gr A0 G H G H' → H' p = some (.lst xs) → H p = none → G p = none → Q (.ref p) H') :
    ∀ p, H p = none → Q (.ref p) (upd H p (.lst xs)) := fun p hp => k p _ (Gr.own g hp) upd_same hp (g.free hp)
end
/-! ### raising a class of one field -/
section
variable {K : PySem.W.Frag} {σ : L2.St} {H : Hp} {C : Addr} {f : Str} {v : V} {W : XK}
/-- the promise of its __init__ -/
def spInit1 (C : Addr) (f : Str) : Sp := fun vs H Q _ => ∃ (a : Addr) (v : V), vs = [.ref a, v] ∧ H a = some (exo a C none) ∧
  ∀ dx, H dx = none → dx ≠ a → Q .non (upd (upd H dx (exd dx [(f, v)])) a (exo a C (some dx)))
theorem r_raise1 (q : ∀ d, H d = none → W (.ref C) (some d) (upd H d (.xd [(f, v)]))) :
    ([v] : List V).length ≤ 1000 ∧ ∀ a, H a = none → spInit1 C f (.ref a :: ([v] ++ [])) (upd H a (exo a C none))
      (fun v H2 => v = .non ∧ ∃ (d : Addr) (fs : List (Str × V)), H2 a = some (exo a C (some d)) ∧ H2 d = some (exd d fs) ∧ H d = none ∧ W (.ref C) (some d) (upd (del H2 a) d (.xd fs))) (fun _ _ _ => False) := by
  refine ⟨by show 1 ≤ 1000; decide, fun a ha => ⟨a, v, rfl, upd_same, fun dx hdx hne => ⟨rfl, dx, [(f, v)], upd_same, ?_, ?_, ?_⟩⟩⟩
  · rw [upd_ne hne]
    exact upd_same
  · rw [upd_ne hne] at hdx
    exact hdx
  · rw [upd_ne hne] at hdx
    have e : upd (del (upd (upd (upd H a (exo a C none)) dx (exd dx [(f, v)])) a (exo a C (some dx))) a) dx (.xd [(f, v)]) = upd H dx (.xd [(f, v)]) := by
      funext b
      by_cases h1 : b = dx
      · rw [h1, upd_same, upd_same]
      · rw [upd_ne h1, upd_ne h1]
        by_cases h2 : b = a
        · rw [h2, del_same, ha]
        · rw [del_ne h2, upd_ne h2, upd_ne h1, upd_ne h2]
    rw [e]
    exact q dx hdx
end
theorem Same.mut {H H' : Hp} {p : Addr} {o : HO} (e : Ex H H') (h : H p = none) : Ex H (upd H' p o) := fun a u ha => by
  rw [upd_ne (ne_of_none ha h)]
  exact e a u ha
theorem Same.new {H H' : Hp} {p : Addr} {o : HO} (e : Ex H H') (h : H' p = none) : Ex H (upd H' p o) := fun a u ha => by
  rw [upd_ne (ne_of_none (e a u ha) h)]
  exact e a u ha
/-! ### texts by their codes -/
abbrev cs (z : Str) : List Nat := z.cps.toList
theorem cs_ext {a b : Str} (h : cs a = cs b) : a = b := by
  cases a
  cases b
  exact congrArg Str.mk (Array.toList_inj.mp h)
theorem cs_len (z : Str) : (cs z).length = z.length := Array.length_toList
theorem cs_app (a b : Str) : cs (a ++ b) = cs a ++ cs b := Array.toList_append
theorem cs_join : ∀ ys : List Str, cs (Txt.join "" ys) = (ys.map cs).flatten := fun ys => by
  rw [TL.join_eq]
  induction ys with
  | nil => rfl
  | cons y r ih =>
    cases r with
    | nil => simp [PySem.Str.join, cs]
    | cons x r' =>
      have e : PySem.Str.join "" (y :: x :: r') = y ++ "" ++ PySem.Str.join "" (x :: r') := rfl
      rw [e, cs_app, cs_app, ih]
      have e0 : cs ("" : Str) = [] := by decide
      rw [e0, List.append_nil]
      rfl
theorem cut_list (l : List Nat) (a b : Nat) : (l.drop (min a l.length)).take (min b l.length - min a l.length) = (l.drop a).take (b - a) := by
  by_cases h : a ≤ l.length
  · rw [Nat.min_eq_left h]
    by_cases hb : b ≤ l.length
    · rw [Nat.min_eq_left hb]
    · have hb' : l.length ≤ b := by omega
      rw [Nat.min_eq_right hb', List.take_of_length_le (by rw [List.length_drop]; omega), List.take_of_length_le (by rw [List.length_drop]; omega)]
  · have ha' : l.length ≤ a := by omega
    rw [Nat.min_eq_right ha', List.drop_of_length_le (Nat.le_refl _), List.drop_of_length_le ha', List.take_nil, List.take_nil]
theorem cs_cut (z : Str) (a b : Nat) : cs (cutS z (some (a : Int)) (some (b : Int))) = ((cs z).drop a).take (b - a) := by
  show ((z.cps.toList.drop (HT.sIx z.length 0 (some (a : Int)))).take (HT.sIx z.length z.length (some (b : Int)) - HT.sIx z.length 0 (some (a : Int)))) = _
  rw [HT.sIx_nat, HT.sIx_nat, ← cs_len z]
  exact cut_list _ a b
theorem cs_from (z : Str) (a : Nat) : cs (cutS z (some (a : Int)) none) = (cs z).drop a := by
  show ((z.cps.toList.drop (HT.sIx z.length 0 (some (a : Int)))).take (HT.sIx z.length z.length none - HT.sIx z.length 0 (some (a : Int)))) = _
  rw [HT.sIx_nat, HT.sIx_none, ← cs_len z]
  have h := cut_list (cs z) a (cs z).length
  rw [Nat.min_self] at h
  rw [h, List.take_of_length_le (by rw [List.length_drop]; omega)]
theorem cs_to (z : Str) (b : Nat) : cs (cutS z none (some (b : Int))) = (cs z).take b := by
  show ((z.cps.toList.drop (HT.sIx z.length 0 none)).take (HT.sIx z.length z.length (some (b : Int)) - HT.sIx z.length 0 none)) = _
  rw [HT.sIx_nat, HT.sIx_none, ← cs_len z]
  have h := cut_list (cs z) 0 b
  rw [Nat.zero_min] at h
  exact h
theorem cut_len (z : Str) (lo hi : Option Int) : (cutS z lo hi).length ≤ z.length := cutS_length z lo hi
theorem int_nat {i : Int} (h : 0 ≤ i) : i = ((i.toNat : Nat) : Int) := by omega
theorem at_g {α : Type} {xs : List α} {z : Int} {j : Nat} {v : α} (e : z = (j : Int)) (h : xs[j]? = some v) : atI xs z = some v := by
  rw [e]
  exact atI_nat h
theorem sum_ones {α : Type} : ∀ l : List α, (l.map fun _ => 1).sum = l.length
  | [] => rfl
  | _ :: r => by rw [List.map_cons, List.sum_cons, sum_ones r, List.length_cons, Nat.add_comm]
theorem nsz {xs : List V} (h : Nat.ble xs.length 1000 = true := by rfl) : xs.length ≤ 1000 := Nat.le_of_ble_eq_true h
/-! ### loops -/
section
variable {K : PySem.W.Frag} {σ : L2.St} {H : Hp} {tl : TE} {ta : TA} {g : TG} {tb : TS} {D : Ends}
theorem r_forT (h : tl σ H fun x H1 => ∃ (a : Addr) (xs : List V), x = .ref a ∧ SqT K H1 a xs ∧ ∃ Pv : Nat → L2.St → Hp → Prop, Pv 0 σ H1 ∧ (∀ i σ H, Pv i σ H → SqT K H a xs) ∧
    (∀ i x σ H, xs[i]? = some x → Pv i σ H → g x σ H fun σ2 H2 => tb { D with nx := Pv (i + 1), ct := Pv (i + 1), bk := D.nx } σ2 H2) ∧ ∀ σ H, Pv xs.length σ H → D.nx σ H)
    (mono : ∀ Q Q' : VK, (∀ v H, Q v H → Q' v H) → tl σ H Q → tl σ H Q') : tFor (iTup K tl) g tb D σ H := by
  refine mono _ _ (fun v H1 hh => ?_) h
  obtain ⟨a, xs, rfl, hs, Pv, p0, hl, ht, hd⟩ := hh
  exact ⟨a, rfl, ⟨xs, hs⟩, for_it walk_tup Pv p0 (fun i σ H _ p => hl i σ H p) (fun i x σ H H' hi p y => by
    obtain ⟨rfl, hx⟩ := y
    exact ht i x σ _ hx p) hd⟩
theorem r_forL (h : tl σ H fun x H1 => ∃ (a : Addr) (xs : List V), x = .ref a ∧ SqL K H1 a xs ∧ ∃ Pv : Nat → L2.St → Hp → Prop, Pv 0 σ H1 ∧ (∀ i σ H, Pv i σ H → SqL K H a xs) ∧
    (∀ i x σ H, xs[i]? = some x → Pv i σ H → g x σ H fun σ2 H2 => tb { D with nx := Pv (i + 1), ct := Pv (i + 1), bk := D.nx } σ2 H2) ∧ ∀ σ H, Pv xs.length σ H → D.nx σ H)
    (mono : ∀ Q Q' : VK, (∀ v H, Q v H → Q' v H) → tl σ H Q → tl σ H Q') : tFor (iList K tl) g tb D σ H := by
  refine mono _ _ (fun v H1 hh => ?_) h
  obtain ⟨a, xs, rfl, hs, Pv, p0, hl, ht, hd⟩ := hh
  exact ⟨a, rfl, ⟨xs, hs⟩, for_it walk_list Pv p0 (fun i σ H _ p => hl i σ H p) (fun i x σ H H' hi p y => by
    obtain ⟨rfl, hx⟩ := y
    exact ht i x σ _ hx p) hd⟩
theorem m_var {n : Nat} : ∀ Q Q' : VK, (∀ v H, Q v H → Q' v H) → tVar n σ H Q → tVar n σ H Q' := fun Q Q' h t => by
  obtain ⟨v, e, q⟩ := t
  exact ⟨v, e, h v _ q⟩
/-- over a name's list, tuple, text -/
theorem r_forTv {n : Nat} {a : Addr} {xs : List V} (e : σ[n]? = some (some (.ref a))) (hs : SqT K H a xs) (Pv : Nat → L2.St → Hp → Prop) (p0 : Pv 0 σ H) (hl : ∀ i σ H, Pv i σ H → SqT K H a xs)
    (ht : ∀ i x σ H, xs[i]? = some x → Pv i σ H → g x σ H fun σ2 H2 => tb { D with nx := Pv (i + 1), ct := Pv (i + 1), bk := D.nx } σ2 H2) (hd : ∀ σ H, Pv xs.length σ H → D.nx σ H) : tFor (iTup K (tVar n)) g tb D σ H :=
  r_forT ⟨_, e, a, xs, rfl, hs, Pv, p0, hl, ht, hd⟩ m_var
theorem r_forLv {n : Nat} {a : Addr} {xs : List V} (e : σ[n]? = some (some (.ref a))) (hs : SqL K H a xs) (Pv : Nat → L2.St → Hp → Prop) (p0 : Pv 0 σ H) (hl : ∀ i σ H, Pv i σ H → SqL K H a xs)
    (ht : ∀ i x σ H, xs[i]? = some x → Pv i σ H → g x σ H fun σ2 H2 => tb { D with nx := Pv (i + 1), ct := Pv (i + 1), bk := D.nx } σ2 H2) (hd : ∀ σ H, Pv xs.length σ H → D.nx σ H) : tFor (iList K (tVar n)) g tb D σ H :=
  r_forL ⟨_, e, a, xs, rfl, hs, Pv, p0, hl, ht, hd⟩ m_var
theorem r_forSv {n : Nat} {z : Str} (e : σ[n]? = some (some (.str z))) (Pv : Nat → L2.St → Hp → Prop) (p0 : Pv 0 σ H)
    (ht : ∀ i c σ H, (cs z)[i]? = some c → Pv i σ H → g (.str ⟨#[c]⟩) σ H fun σ2 H2 => tb { D with nx := Pv (i + 1), ct := Pv (i + 1), bk := D.nx } σ2 H2) (hd : ∀ σ H, Pv z.length σ H → D.nx σ H) : tFor (iStr (tVar n)) g tb D σ H := by
  refine ⟨_, e, z, rfl, for_it walk_str Pv p0 (fun _ _ _ _ _ => trivial) (fun i x σ H H' hi p y => ?_) hd⟩
  obtain ⟨rfl, c, hc, rfl⟩ := y
  exact ht i c σ _ (by rw [Array.getElem?_toList]; exact hc) p
theorem walk_E {G : Hp → Prop} {n : Nat} {Y : Nat → Hp → V → Prop} : Walk (ItE G n Y) n G (fun i H v H' => ∃ T x, v = .ref T ∧ H T = none ∧ H' = upd H T (.tup [.int (i : Nat), x]) ∧ Y i H x) :=
  ⟨fun i H hi g => ⟨g, hi⟩, fun H g => ⟨g, rfl⟩, fun i H x H' hi g y => y⟩
theorem r_forETv {n : Nat} {a : Addr} {xs : List V} (e : σ[n]? = some (some (.ref a))) (hs : SqT K H a xs) (Pv : Nat → L2.St → Hp → Prop) (p0 : Pv 0 σ H) (hl : ∀ i σ H, Pv i σ H → SqT K H a xs)
    (ht : ∀ i x σ H p, xs[i]? = some x → Pv i σ H → H p = none → g (.ref p) σ (upd H p (.tup [.int (i : Nat), x])) fun σ2 H2 => tb { D with nx := Pv (i + 1), ct := Pv (i + 1), bk := D.nx } σ2 H2)
    (hd : ∀ σ H, Pv xs.length σ H → D.nx σ H) : tFor (Dk.iEnumT K (tCons (tVar n) tNil)) g tb D σ H := by
  refine ⟨_, e, a, xs, rfl, hs, for_it walk_E Pv p0 (fun i σ H _ p => hl i σ H p) (fun i x σ H H' hi p y => ?_) hd⟩
  obtain ⟨T, x', rfl, hT, rfl, hx⟩ := y
  exact ht i x' σ H T hx p hT
theorem r_forESv {n : Nat} {z : Str} (e : σ[n]? = some (some (.str z))) (Pv : Nat → L2.St → Hp → Prop) (p0 : Pv 0 σ H)
    (ht : ∀ i c σ H p, (cs z)[i]? = some c → Pv i σ H → H p = none → g (.ref p) σ (upd H p (.tup [.int (i : Nat), .str ⟨#[c]⟩])) fun σ2 H2 => tb { D with nx := Pv (i + 1), ct := Pv (i + 1), bk := D.nx } σ2 H2)
    (hd : ∀ σ H, Pv z.length σ H → D.nx σ H) : tFor (Dk.iEnumS (tCons (tVar n) tNil)) g tb D σ H := by
  refine ⟨_, e, z, rfl, for_it walk_E Pv p0 (fun _ _ _ _ _ => trivial) (fun i x σ H H' hi p y => ?_) hd⟩
  obtain ⟨T, x', rfl, hT, rfl, c, hc, rfl⟩ := y
  exact ht i c σ H T (by rw [Array.getElem?_toList]; exact hc) p hT
/-- over range(n) -/
theorem r_forR1 (h : ta σ H fun vs H1 => ∃ n : Int, vs = [.int n] ∧ -1000000 ≤ n ∧ n ≤ 1000000 ∧ ∃ Pv : Nat → L2.St → Hp → Prop, Pv 0 σ H1 ∧
    (∀ (i : Nat) σ H, (i : Int) < n → Pv i σ H → g (.int (i : Nat)) σ H fun σ2 H2 => tb { D with nx := Pv (i + 1), ct := Pv (i + 1), bk := D.nx } σ2 H2) ∧ ∀ σ H, Pv n.toNat σ H → D.nx σ H)
    (mono : ∀ Q Q' : List V → Hp → Prop, (∀ v H, Q v H → Q' v H) → ta σ H Q → ta σ H Q') : tFor (iRng1 ta) g tb D σ H := by
  refine mono _ _ (fun v H1 hh => ?_) h
  obtain ⟨n, rfl, h1, h2, Pv, p0, ht, hd⟩ := hh
  refine ⟨n, rfl, by omega, by omega, for_range Pv p0 (fun i σ H hi p => ?_) hd⟩
  have z := ht i σ H (by omega) p
  rw [Int.zero_add]
  exact z
end
section
variable {K : PySem.W.Frag} {σ : L2.St} {H : Hp} {N : L2.St → Hp → Prop} {v : V} {vs : List V} {t : TG} {u : TGs}
theorem r_gtup {n : Nat} {a : Addr} (h : SqT K H a vs) (hl : vs.length = n) (k : u vs σ H N) : gTup K n u (.ref a) σ H N := ⟨a, vs, rfl, h, hl, k⟩
theorem r_gcons (k : t v σ H fun σ' H' => u vs σ' H' N) : gCons t u (v :: vs) σ H N := ⟨v, vs, rfl, k⟩
theorem r_gnil (k : N σ H) : gNil [] σ H N := ⟨rfl, k⟩
theorem r_mkO {C : Addr} {sp : Sp} {dvs : List V} {ta : TA} {Q : XK} (h : ta σ H fun vs H1 => vs.length ≤ 1000 ∧ ∀ a, H1 a = none → sp (.ref a :: (vs ++ dvs)) (upd H1 a (exo a C none))
  (fun v H2 => v = .non ∧ ∃ (d : Addr) (fs : List (Str × V)), H2 a = some (exo a C (some d)) ∧ H2 d = some (exd d fs) ∧ H1 d = none ∧ Q (.ref C) (some d) (upd (del H2 a) d (.xd fs))) (fun _ _ _ => False)) : tMkO C sp dvs ta σ H Q := h
theorem r_xfo {a C : Addr} {cls : Value} {d : Option Addr} {f : Str} {te : TE} {Q : VK} (h : te σ H fun x H1 => x = .ref a ∧ cls = .ref C ∧ ∃ (dd : Addr) (fs : List (Str × V)) (v : V), d = some dd ∧ H1 dd = some (.xd fs) ∧ fs.lookup f = some v ∧ Q v H1) : tXf a cls d C f te σ H Q := h
theorem r_noP {QO : Option Int → Hp → Prop} (q : QO none H) : tNoPart σ H QO := q
theorem r_part {te : TE} {QO : Option Int → Hp → Prop} (h : te σ H fun x H1 => ∃ i, x = .int i ∧ QO (some i) H1) : tPart te σ H QO := h
theorem r_pI {i : Int} {PO : Int → Prop} (q : PO i) : ∃ j, V.int i = .int j ∧ PO j := ⟨i, rfl, q⟩
end
/-! ### draws -/
def M61 : Int := 2305843009213693951
/-- the state of the draws stands at a -/
def Stt (H : Hp) (a : Addr) : Prop := ∃ z : Int, H a = some (.lst [.int z]) ∧ 0 ≤ z ∧ z < M61
theorem nat61 {z : Int} (h0 : 0 ≤ z) (h : z < M61) : z.natAbs < 2 ^ 61 := by
  unfold M61 at h
  have e : (2 : Nat) ^ 61 = 2305843009213693952 := by decide
  omega
/-- draws were made: the state at a turned, all else is as it was -/
structure Dr (a : Addr) (H H' : Hp) : Prop where
  hh : ∀ b o, b ≠ a → H b = some o → H' b = some o
  st : Stt H' a
section
variable {A : Addr → Prop} {a p : Addr} {G H G1 H1 H2 : Hp} {o : HO}
theorem Stt.up (s : Stt H a) (e : Ex H H1) : Stt H1 a := s.imp fun _ z => ⟨e _ _ z.1, z.2⟩
theorem Stt.ne (s : Stt H a) (h : H p = none) : p ≠ a := fun z => by
  obtain ⟨v, e, _⟩ := s
  rw [← z, h] at e
  cases e
theorem Stt.put (s : Stt H a) (h : p ≠ a) : Stt (upd H p o) a := s.imp fun _ z => ⟨by rw [upd_ne (Ne.symm h)]; exact z.1, z.2⟩
theorem Dr.refl (s : Stt H a) : Dr a H H := ⟨fun _ _ _ h => h, s⟩
theorem Dr.trans (x : Dr a H H1) (y : Dr a H1 H2) : Dr a H H2 := ⟨fun b o n h => y.hh b o n (x.hh b o n h), y.st⟩
theorem Dr.ex (s : Stt H a) (e : Ex H H1) : Dr a H H1 := ⟨fun b o _ h => e b o h, s.up e⟩
theorem Dr.then (x : Dr a H H1) (e : Ex H1 H2) : Dr a H H2 := x.trans (.ex x.st e)
theorem Dr.set {z : Int} (h0 : 0 ≤ z) (h : z < M61) : Dr a H (upd H a (.lst [.int z])) := ⟨fun b o n e => by rw [upd_ne n]; exact e, z, upd_same, h0, h⟩
theorem Dr.mut (x : Dr a H H1) (hp : H p = none) (ne : p ≠ a) : Dr a H (upd H1 p o) :=
  ⟨fun b u n e => by rw [upd_ne (ne_of_none e hp)]; exact x.hh b u n e, x.st.put ne⟩
theorem Dr.new (x : Dr a H H1) (hp : H1 p = none) : Dr a H (upd H1 p o) := x.then (Same.new (Same.refl H1) hp)
theorem Dr.gr (g : Ex G H) (n : G a = none) (s : Stt H a) (d : Dr a H H1) : Gr (· = a) G H G H1 where
  gg := Same.refl G
  gh := fun b x e => d.hh b x (ne_of_none e n) (g b x e)
  hh := fun b x z e => d.hh b x z e
  th := fun b x e => by
    by_cases h : b = a
    · obtain ⟨v, z, _⟩ := d.st
      exact ⟨_, by rw [h]; exact z⟩
    · exact ⟨x, d.hh b x h e⟩
  nw := fun b x e z => z
theorem Gr.na (t : Gr A G H G1 H1) (n : G a = none) (s : Stt H a) : G1 a = none := by
  obtain ⟨z, e, _⟩ := s
  exact t.nw a _ e n
theorem Gr.dr (t : Gr (· = a) G H G1 H1) (n : G a = none) (s : Stt H a) (s1 : Stt H1 a) (d : Dr a H1 H2) : Gr (· = a) G H G1 H2 :=
  t.trans (Dr.gr t.gh (t.na n s) s1 d)
end
/-! ### the laws' own draws -/
def AL : Str := "\n !\"#$&'()*+,-./0123456789:;<=>?@ABCDEFGHIJKLMNOPQRSTUVWXYZ[\\]^_`abcdefghijklmnopqrstuvwxyz{|}~"
def InAL (z : Str) : Prop := ∀ c ∈ cs z, c ∈ cs AL
theorem AL_len : AL.length = 95 := by decide +kernel
def spDraw : Sp := fun vs H Q _ => ∃ (a : Addr) (n : Int), vs = [.ref a, .int n] ∧ Stt H a ∧ 0 < n ∧ ∀ (d : Int) H', 0 ≤ d → d < n → Dr a H H' → Q (.int d) H'
def spStart (K : PySem.W.Frag) : Sp := fun vs H Q _ => ∃ (s : Addr) (ns : List Int), vs = [.ref s] ∧ SqL K H s (ns.map V.int) ∧ ∀ p H', Ex H H' → H p = none → Stt H' p → Q (.ref p) H'
def spSigns : Sp := fun vs H Q _ => vs = [] ∧ Q (.str AL) H
def spText : Sp := fun vs H Q _ => ∃ (a : Addr) (n : Int), vs = [.ref a, .int n] ∧ Stt H a ∧ 0 ≤ n ∧ n ≤ 8000 ∧ ∀ o H', Dr a H H' → (o.length : Int) = n → InAL o → Q (.str o) H'
theorem mix_next {z : Int} (e : Int) : 0 ≤ e % M61 ∧ e % M61 < M61 := ⟨Int.emod_nonneg _ (by decide), Int.emod_lt_of_pos _ (by decide)⟩
/-! ### what is known at a place of a drawing def -/
structure Wd (a : Addr) (G H : Hp) : Prop where
  g : Ex G H
  na : G a = none
  st : Stt H a
section
variable {a p : Addr} {G H G1 H1 G2 H2 : Hp} {o : HO} {xs : List V} {Q : VK}
theorem Wd.step (x : Wd a G H) (t : Gr (· = a) G H G1 H1) (s : Stt H1 a) : Wd a G1 H1 := ⟨t.gh, t.na x.na x.st, s⟩
theorem Wd.pure (x : Wd a G H) (t : Gr A0 G H G1 H1) : Wd a G1 H1 := ⟨t.gh, t.na x.na x.st, x.st.up t.same⟩
theorem Wd.ex (x : Wd a G H) (e : Ex H H1) : Wd a G H1 := ⟨x.g.trans e, x.na, x.st.up e⟩
theorem Wd.dr (x : Wd a G H) (d : Dr a H H1) : Wd a G H1 := ⟨(Dr.gr x.g x.na x.st d).gh, x.na, d.st⟩
theorem Wd.gdr (x : Wd a G H) (d : Dr a H H1) : Gr (· = a) G H G H1 := Dr.gr x.g x.na x.st d
/-- a new list, known for good -/
theorem w_lst (x : Wd a G H) (k : ∀ p G' H', Gr A0 G H G' H' → Wd a G' H' → G' p = some (.lst xs) → Q (.ref p) H') :
    ∀ p, H p = none → Q (.ref p) (upd H p (.lst xs)) := fun p hp => k p _ _ (Gr.new x.g hp) (x.pure (Gr.new x.g hp)) upd_same
theorem w_tup (x : Wd a G H) (k : ∀ p G' H', Gr A0 G H G' H' → Wd a G' H' → G' p = some (.tup xs) → Q (.ref p) H') :
    ∀ p, H p = none → Q (.ref p) (upd H p (.tup xs)) := fun p hp => k p _ _ (Gr.new x.g hp) (x.pure (Gr.new x.g hp)) upd_same
end
theorem new_ex {G H : Hp} {p : Addr} (g : Ex G H) (hp : H p = none) (o : HO) : ∃ G' H', H' = upd H p o ∧ Gr A0 G H G' H' ∧ G' p = some o :=
  ⟨_, _, rfl, Gr.new g hp, upd_same⟩
theorem w_new {a p : Addr} {G H : Hp} (x : Wd a G H) (hp : H p = none) (o : HO) : ∃ G' H', H' = upd H p o ∧ Gr A0 G H G' H' ∧ Wd a G' H' ∧ G' p = some o :=
  ⟨_, _, rfl, Gr.new x.g hp, x.pure (Gr.new x.g hp), upd_same⟩
theorem atI_m1 {xs : List V} (h : xs ≠ []) : ∃ x, atI xs (-1) = some x ∧ x ∈ xs := by
  obtain ⟨l, y, rfl⟩ : ∃ l y, xs = l ++ [y] := ⟨_, _, (List.dropLast_concat_getLast h).symm⟩
  exact ⟨y, atI_last _ _, by simp⟩
theorem own_ex {G H : Hp} {p : Addr} (g : Ex G H) (hp : H p = none) (o : HO) : ∃ H', H' = upd H p o ∧ Gr A0 G H G H' ∧ H' p = some o ∧ G p = none :=
  ⟨_, rfl, Gr.own g hp, upd_same, g.free hp⟩
theorem Gr.fresh {A : Addr → Prop} {G H G1 H1 : Hp} {p : Addr} (t : Gr A G H G1 H1) (h : H1 p = none) : H p = none := by
  cases e : H p with
  | none => rfl
  | some o =>
    obtain ⟨o', z⟩ := t.th p o e
    rw [h] at z
    cases z
theorem ixN_nat {n : Nat} {i : Int} (h0 : 0 ≤ i) (h : i < (n : Int)) : ixN n i = some i.toNat := by
  unfold ixN
  rw [if_pos h0, if_pos h]
/-! loops whose source is reckoned -/
section
variable {K : PySem.W.Frag} {σ : L2.St} {H : Hp} {tl : TE} {ta : TA} {g : TG} {tb : TS} {D : Ends}
def LoopW (J : It) (g : TG) (tb : TS) (D : Ends) (σ : L2.St) (H1 : Hp) : Prop := ∃ W : Nat → Nat → L2.St → Hp → Prop, (∃ m, W 0 m σ H1) ∧ ∀ i m σ H, W i m σ H →
  (J.stop i H ∧ D.nx σ H) ∨ (J.go i H ∧ ∃ N : L2.St → Hp → Prop, (∀ σ' H', N σ' H' → ∃ m', m' < m ∧ W (i + 1) m' σ' H') ∧ ∀ x H', J.yld i H x H' → g x σ H' fun σ2 H2 => tb { D with nx := N, ct := N, bk := D.nx } σ2 H2)
theorem r_forLo (h : tl σ H fun x H1 => ∃ a, x = .ref a ∧ (∃ xs, SqL K H1 a xs) ∧ LoopW (Itl K a) g tb D σ H1) : tFor (iList K tl) g tb D σ H := h
theorem r_forTo (h : tl σ H fun x H1 => ∃ a, x = .ref a ∧ (∃ xs, SqT K H1 a xs) ∧ LoopW (Itt K a) g tb D σ H1) : tFor (iTup K tl) g tb D σ H := h
theorem r_forSo (h : tl σ H fun x H1 => ∃ z, x = .str z ∧ LoopW (Its z) g tb D σ H1) : tFor (iStr tl) g tb D σ H := h
theorem r_forRo (h : ta σ H fun vs H1 => ∃ j : Int, vs = [.int j] ∧ -(2 ^ 62) ≤ j ∧ j < 2 ^ 62 ∧ LoopW (Itr 0 j.toNat) g tb D σ H1) : tFor (iRng1 ta) g tb D σ H := h
theorem r_forR2o (h : ta σ H fun vs H1 => ∃ i j : Int, vs = [.int i, .int j] ∧ (-(2 ^ 62) ≤ i ∧ i < 2 ^ 62 ∧ -(2 ^ 62) ≤ j ∧ j < 2 ^ 62) ∧ LoopW (Itr i (j - i).toNat) g tb D σ H1) : tFor (iRng2 ta) g tb D σ H := h
theorem r_forEo (h : ta σ H fun vs H1 => ∃ a xs, vs = [.ref a] ∧ SqT K H1 a xs ∧ LoopW (ItE (fun H => SqT K H a xs) xs.length fun i _ x => xs[i]? = some x) g tb D σ H1) : tFor (Dk.iEnumT K ta) g tb D σ H := h
theorem r_forESo (h : ta σ H fun vs H1 => ∃ z, vs = [.str z] ∧ LoopW (ItE (fun _ => True) z.cps.size fun i _ x => ∃ c, z.cps[i]? = some c ∧ x = .str ⟨#[c]⟩) g tb D σ H1) : tFor (Dk.iEnumS ta) g tb D σ H := h
theorem l_L {a : Addr} {xs : List V} (hs : SqL K H a xs) (Pv : Nat → L2.St → Hp → Prop) (p0 : Pv 0 σ H) (hl : ∀ i σ H, Pv i σ H → SqL K H a xs)
    (ht : ∀ i x σ H, xs[i]? = some x → Pv i σ H → g x σ H fun σ2 H2 => tb { D with nx := Pv (i + 1), ct := Pv (i + 1), bk := D.nx } σ2 H2) (hd : ∀ σ H, Pv xs.length σ H → D.nx σ H) :
    ∃ b, V.ref a = .ref b ∧ (∃ xs, SqL K H b xs) ∧ LoopW (Itl K b) g tb D σ H :=
  ⟨a, rfl, ⟨xs, hs⟩, for_it walk_list Pv p0 (fun i σ H _ p => hl i σ H p) (fun i x σ H H' hi p y => by
    obtain ⟨rfl, hx⟩ := y
    exact ht i x σ _ hx p) hd⟩
theorem l_T {a : Addr} {xs : List V} (hs : SqT K H a xs) (Pv : Nat → L2.St → Hp → Prop) (p0 : Pv 0 σ H) (hl : ∀ i σ H, Pv i σ H → SqT K H a xs)
    (ht : ∀ i x σ H, xs[i]? = some x → Pv i σ H → g x σ H fun σ2 H2 => tb { D with nx := Pv (i + 1), ct := Pv (i + 1), bk := D.nx } σ2 H2) (hd : ∀ σ H, Pv xs.length σ H → D.nx σ H) :
    ∃ b, V.ref a = .ref b ∧ (∃ xs, SqT K H b xs) ∧ LoopW (Itt K b) g tb D σ H :=
  ⟨a, rfl, ⟨xs, hs⟩, for_it walk_tup Pv p0 (fun i σ H _ p => hl i σ H p) (fun i x σ H H' hi p y => by
    obtain ⟨rfl, hx⟩ := y
    exact ht i x σ _ hx p) hd⟩
theorem l_S {z : Str} (Pv : Nat → L2.St → Hp → Prop) (p0 : Pv 0 σ H)
    (ht : ∀ i c σ H, (cs z)[i]? = some c → Pv i σ H → g (.str ⟨#[c]⟩) σ H fun σ2 H2 => tb { D with nx := Pv (i + 1), ct := Pv (i + 1), bk := D.nx } σ2 H2) (hd : ∀ σ H, Pv z.length σ H → D.nx σ H) :
    ∃ y, V.str z = .str y ∧ LoopW (Its y) g tb D σ H := by
  refine ⟨z, rfl, for_it walk_str Pv p0 (fun _ _ _ _ _ => trivial) (fun i x σ H H' hi p y => ?_) hd⟩
  obtain ⟨rfl, c, hc, rfl⟩ := y
  exact ht i c σ _ (by rw [Array.getElem?_toList]; exact hc) p
theorem l_R {n : Int} (h1 : -1000000 ≤ n) (h2 : n ≤ 1000000) (Pv : Nat → L2.St → Hp → Prop) (p0 : Pv 0 σ H)
    (ht : ∀ (i : Nat) σ H, (i : Int) < n → Pv i σ H → g (.int (i : Nat)) σ H fun σ2 H2 => tb { D with nx := Pv (i + 1), ct := Pv (i + 1), bk := D.nx } σ2 H2) (hd : ∀ σ H, Pv n.toNat σ H → D.nx σ H) :
    ∃ j : Int, [V.int n] = [.int j] ∧ -(2 ^ 62) ≤ j ∧ j < 2 ^ 62 ∧ LoopW (Itr 0 j.toNat) g tb D σ H := by
  refine ⟨n, rfl, by omega, by omega, for_range Pv p0 (fun i σ H hi p => ?_) hd⟩
  have z := ht i σ H (by omega) p
  rw [Int.zero_add]
  exact z
theorem l_E {a : Addr} {xs : List V} (hs : SqT K H a xs) (Pv : Nat → L2.St → Hp → Prop) (p0 : Pv 0 σ H) (hl : ∀ i σ H, Pv i σ H → SqT K H a xs)
    (ht : ∀ i x σ H p, xs[i]? = some x → Pv i σ H → H p = none → g (.ref p) σ (upd H p (.tup [.int (i : Nat), x])) fun σ2 H2 => tb { D with nx := Pv (i + 1), ct := Pv (i + 1), bk := D.nx } σ2 H2)
    (hd : ∀ σ H, Pv xs.length σ H → D.nx σ H) : ∃ b ys, [V.ref a] = [.ref b] ∧ SqT K H b ys ∧ LoopW (ItE (fun H => SqT K H b ys) ys.length fun i _ x => ys[i]? = some x) g tb D σ H := by
  refine ⟨a, xs, rfl, hs, for_it walk_E Pv p0 (fun i σ H _ p => hl i σ H p) (fun i x σ H H' hi p y => ?_) hd⟩
  obtain ⟨T, x', rfl, hT, rfl, hx⟩ := y
  exact ht i x' σ H T hx p hT
end
theorem cutV_mem {xs : List V} {lo hi : Option Int} {x : V} (h : x ∈ cutV xs lo hi) : x ∈ xs := List.mem_of_mem_drop (List.mem_of_mem_take h)
theorem cutV_len {xs : List V} {lo hi : Option Int} : (cutV xs lo hi).length ≤ xs.length := by
  unfold cutV
  rw [List.length_take, List.length_drop]
  omega
theorem cutV_to (xs : List V) (n : Nat) : cutV xs none (some (n : Int)) = xs.take n := by
  unfold cutV
  rw [HT.sIx_nat, HT.sIx_none, List.drop_zero, Nat.sub_zero]
  by_cases h : n ≤ xs.length
  · rw [Nat.min_eq_left h]
  · rw [Nat.min_eq_right (by omega), List.take_of_length_le (Nat.le_refl _), List.take_of_length_le (by omega)]
theorem atI_lt {xs : List V} {i : Int} (h0 : 0 ≤ i) (h : i < (xs.length : Int)) : ∃ x, atI xs i = some x ∧ x ∈ xs := by
  have hi : i.toNat < xs.length := by omega
  exact ⟨xs[i.toNat], at_g (by omega) (List.getElem?_eq_getElem hi), List.getElem_mem _⟩
end Dk
/-! the told order: signs, the relation by its hops, its closure by rounds over a table of bits -/
namespace Tl
abbrev Sg := Nat × Nat
section
variable (L R : Nat → Sg)
/-- told ahead, by hops -/
inductive A : Sg → Sg → Prop where
  | same {x y : Sg} (h : x.1 = y.1) (i : x.2 < y.2) : A x y
  | rEq {x y : Sg} (h : y.1 < x.1) (e : R x.1 = y) : A x y
  | rGo {x y : Sg} (h : y.1 < x.1) (a : A (R x.1) y) : A x y
  | lEq {x y : Sg} (h : x.1 < y.1) (e : x = L y.1) : A x y
  | lGo {x y : Sg} (h : x.1 < y.1) (a : A x (L y.1)) : A x y
def E (x y : Sg) : Prop := x = y ∨ A L R x y
end
section
variable {L R : Nat → Sg} {x y z : Sg}
theorem A.same_iff (h : x.1 = y.1) : A L R x y ↔ x.2 < y.2 :=
  ⟨fun a => by cases a with
    | same _ i => exact i
    | rEq g _ => omega
    | rGo g _ => omega
    | lEq g _ => omega
    | lGo g _ => omega, fun i => .same h i⟩
theorem A.r_iff (h : y.1 < x.1) : A L R x y ↔ E L R (R x.1) y :=
  ⟨fun a => by cases a with
    | same g _ => omega
    | rEq _ e => exact .inl e
    | rGo _ a => exact .inr a
    | lEq g _ => omega
    | lGo g _ => omega, fun e => e.elim (.rEq h) (.rGo h)⟩
theorem A.l_iff (h : x.1 < y.1) : A L R x y ↔ E L R x (L y.1) :=
  ⟨fun a => by cases a with
    | same g _ => omega
    | rEq g _ => omega
    | rGo g _ => omega
    | lEq _ e => exact .inl e
    | lGo _ a => exact .inr a, fun e => e.elim (.lEq h) (.lGo h)⟩
theorem A.irr : ¬ A L R x x := fun a => by
  have z := (A.same_iff (L := L) (R := R) (rfl : x.1 = x.1)).mp a
  omega
/-- births below n: left and right of lesser chunks, the left told ahead of the right -/
structure Bs (L R : Nat → Sg) (n : Nat) : Prop where
  l : ∀ c, 0 < c → c < n → (L c).1 < c
  r : ∀ c, 0 < c → c < n → (R c).1 < c
  lr : ∀ c, 0 < c → c < n → A L R (L c) (R c)
theorem Bs.mono {n m : Nat} (b : Bs L R n) (h : m ≤ n) : Bs L R m := ⟨fun c h0 h1 => b.l c h0 (by omega), fun c h0 h1 => b.r c h0 (by omega), fun c h0 h1 => b.lr c h0 (by omega)⟩
theorem Bs.trans {n : Nat} (b : Bs L R n) : ∀ m, m ≤ n → ∀ x y z : Sg, x.1 < m → y.1 < m → z.1 < m → A L R x y → A L R y z → A L R x z := by
  intro m
  induction m with
  | zero => intro _ x y z h; omega
  | succ m ih =>
    intro hm x y z hx hy hz a1 a2
    have ih' := ih (by omega)
    have eT : ∀ {u v t : Sg}, u.1 < m → v.1 < m → t.1 < m → E L R u v → A L R v t → A L R u t := fun h1 h2 h3 e a => by
      rcases e with rfl | e
      · exact a
      · exact ih' _ _ _ h1 h2 h3 e a
    have tE : ∀ {u v t : Sg}, u.1 < m → v.1 < m → t.1 < m → A L R u v → E L R v t → A L R u t := fun h1 h2 h3 a e => by
      rcases e with rfl | e
      · exact a
      · exact ih' _ _ _ h1 h2 h3 a e
    by_cases cx : x.1 = m
    · by_cases cy : y.1 = m
      · by_cases cz : z.1 = m
        · have i1 := (A.same_iff (by omega)).mp a1
          have i2 := (A.same_iff (by omega)).mp a2
          exact .same (by omega) (by omega)
        · have e2 := (A.r_iff (by omega)).mp a2
          exact (A.r_iff (by omega)).mpr (by rw [show x.1 = y.1 by omega]; exact e2)
      · by_cases cz : z.1 = m
        · exfalso
          have m0 : 0 < m := by omega
          have hl := b.l m m0 (by omega)
          have hr := b.r m m0 (by omega)
          have hlr := b.lr m m0 (by omega)
          have e1 := (A.r_iff (by omega)).mp a1
          have e2 := (A.l_iff (by omega)).mp a2
          rw [cx] at e1
          rw [cz] at e2
          have a3 : A L R (L m) y := tE hl hr (by omega) hlr e1
          have a4 : A L R (L m) (L m) := tE hl (by omega) hl a3 e2
          exact A.irr a4
        · have e1 := (A.r_iff (by omega)).mp a1
          have hr := b.r x.1 (by omega) (by omega)
          exact (A.r_iff (by omega)).mpr (.inr (eT (by omega) (by omega) (by omega) e1 a2))
    · by_cases cy : y.1 = m
      · by_cases cz : z.1 = m
        · have e1 := (A.l_iff (by omega)).mp a1
          exact (A.l_iff (by omega)).mpr (by rw [show z.1 = y.1 by omega]; exact e1)
        · have e1 := (A.l_iff (by omega)).mp a1
          have e2 := (A.r_iff (by omega)).mp a2
          have hl := b.l y.1 (by omega) (by omega)
          have hr := b.r y.1 (by omega) (by omega)
          have hlr := b.lr y.1 (by omega) (by omega)
          have a3 := eT (by omega) (by omega) (by omega) e1 hlr
          exact tE (by omega) (by omega) (by omega) a3 e2
      · by_cases cz : z.1 = m
        · have e2 := (A.l_iff (by omega)).mp a2
          have hl := b.l z.1 (by omega) (by omega)
          exact (A.l_iff (by omega)).mpr (.inr (tE (by omega) (by omega) (by omega) a1 e2))
        · exact ih' x y z (by omega) (by omega) (by omega) a1 a2
theorem Bs.tr {n : Nat} (b : Bs L R n) (hx : x.1 < n) (hy : y.1 < n) (hz : z.1 < n) (a1 : A L R x y) (a2 : A L R y z) : A L R x z := b.trans n (Nat.le_refl n) x y z hx hy hz a1 a2
/-- only births up to the greater chunk count -/
theorem A.congr {L' R' : Nat → Sg} {n : Nat} (hl : ∀ c, 0 < c → c < n → L c = L' c) (hr : ∀ c, 0 < c → c < n → R c = R' c) (b : ∀ c, 0 < c → c < n → (L c).1 < c ∧ (R c).1 < c) :
    ∀ {x y : Sg}, A L R x y → x.1 < n → y.1 < n → A L' R' x y := fun {x y} a => by
  induction a with
  | same h i => exact fun _ _ => .same h i
  | @rEq x y h e => exact fun hx hy => .rEq h ((hr x.1 (by omega) hx).symm.trans e)
  | @rGo x y h a ih =>
    intro hx hy
    have e := hr x.1 (by omega) hx
    have w := (b x.1 (by omega) hx).2
    exact .rGo h (e ▸ ih (by omega) hy)
  | @lEq x y h e => exact fun hx hy => .lEq h (e.trans (hl y.1 (by omega) hy))
  | @lGo x y h a ih =>
    intro hx hy
    have e := hl y.1 (by omega) hy
    have w := (b y.1 (by omega) hy).1
    exact .lGo h (e ▸ ih hx (by omega))
end
/-! ### paths -/
inductive Pth (S : List (Nat × Nat)) : Nat → Nat → Nat → Prop where
  | one {a b : Nat} (h : (a, b) ∈ S) : Pth S 1 a b
  | step {k a b c : Nat} (h : (a, b) ∈ S) (p : Pth S k b c) : Pth S (k + 1) a c
def Rch (S : List (Nat × Nat)) (a b : Nat) : Prop := ∃ k, Pth S k a b
section
variable {S : List (Nat × Nat)} {a b c : Nat}
theorem Pth.app {k m : Nat} (p : Pth S k a b) (q : Pth S m b c) : Rch S a c := by
  induction p with
  | one h => exact ⟨_, .step h q⟩
  | step h p ih =>
    obtain ⟨k', r⟩ := ih q
    exact ⟨_, .step h r⟩
theorem Rch.tr (p : Rch S a b) (q : Rch S b c) : Rch S a c := by
  obtain ⟨k, p⟩ := p
  obtain ⟨m, q⟩ := q
  exact p.app q
/-- a list without repeats within another one is no longer -/
theorem nodup_le : ∀ {l m : List Nat}, l.Nodup → (∀ x ∈ l, x ∈ m) → l.length ≤ m.length
  | [], m, _, _ => Nat.zero_le _
  | x :: r, m, hn, hm => by
    have hx : x ∈ m := hm x (List.mem_cons_self ..)
    have hn' := List.nodup_cons.mp hn
    have h1 : ∀ y ∈ r, y ∈ m.erase x := fun y hy => (List.mem_erase_of_ne (by
      rintro rfl
      exact hn'.1 hy)).mpr (hm y (List.mem_cons_of_mem _ hy))
    have h2 := nodup_le hn'.2 h1
    rw [List.length_erase_of_mem hx] at h2
    have h3 : 0 < m.length := List.length_pos_of_mem hx
    rw [List.length_cons]
    omega
theorem Pth.bound {k n : Nat} {lt : Nat → Nat → Prop} (hS : ∀ a b, (a, b) ∈ S → lt a b ∧ a < n ∧ b < n) (tr : ∀ a b c, a < n → b < n → c < n → lt a b → lt b c → lt a c) (ir : ∀ a, ¬ lt a a) (p : Pth S k a b) : k + 1 ≤ n := by
  have key : ∀ {k a b}, Pth S k a b → ∃ l : List Nat, l.length = k ∧ (a :: l).Nodup ∧ (∀ x ∈ l, lt a x) ∧ ∀ x ∈ a :: l, x < n := by
    intro k a b p
    induction p with
    | @one a b h =>
      obtain ⟨h1, h2, h3⟩ := hS _ _ h
      refine ⟨[b], rfl, ?_, by simpa using h1, by simp [h2, h3]⟩
      simp
      exact fun e => ir a (e ▸ h1)
    | @step k a b c h p ih =>
      obtain ⟨l, hl, hn, hlt, hb⟩ := ih
      obtain ⟨h1, h2, h3⟩ := hS _ _ h
      have all : ∀ x ∈ b :: l, lt a x := fun x hx => by
        rcases List.mem_cons.mp hx with rfl | hx
        · exact h1
        · exact tr a b x h2 h3 (hb x (List.mem_cons_of_mem _ hx)) h1 (hlt x hx)
      refine ⟨b :: l, by rw [List.length_cons, hl], List.nodup_cons.mpr ⟨fun hm => ir a (all a hm), hn⟩, all, fun x hx => ?_⟩
      rcases List.mem_cons.mp hx with rfl | hx
      · exact h2
      · exact hb x hx
  obtain ⟨l, hl, hn, _, hb⟩ := key p
  have z := nodup_le (m := List.range n) hn fun x hx => List.mem_range.mpr (hb x hx)
  rw [List.length_cons, hl, List.length_range] at z
  exact z
end
/-! ### the table -/
def put (T : List Nat) (e : Nat × Nat) : List Nat := T.set e.1 (T.getD e.1 0 ||| 1 <<< e.2 ||| T.getD e.2 0)
def lap (S : List (Nat × Nat)) (T : List Nat) : List Nat := S.foldl put T
/-- T has b behind a -/
def Bit (T : List Nat) (a b : Nat) : Prop := (T.getD a 0).testBit b = true
section
variable {S : List (Nat × Nat)} {T : List Nat} {n : Nat}
theorem put_len (e : Nat × Nat) : (put T e).length = T.length := List.length_set ..
theorem lap_len : ∀ (S : List (Nat × Nat)) (T : List Nat), (lap S T).length = T.length
  | [], _ => rfl
  | e :: r, T => (lap_len r (put T e)).trans (put_len e)
theorem bit_put {e : Nat × Nat} (h : e.1 < T.length) {a b : Nat} : Bit (put T e) a b ↔ Bit T a b ∨ (a = e.1 ∧ (b = e.2 ∨ Bit T e.2 b)) := by
  unfold Bit put
  by_cases ha : a = e.1
  · subst ha
    have g : (T.set e.1 (T.getD e.1 0 ||| 1 <<< e.2 ||| T.getD e.2 0)).getD e.1 0 = T.getD e.1 0 ||| 1 <<< e.2 ||| T.getD e.2 0 := by
      simp [List.getD, List.getElem?_set, h]
    rw [g, Nat.testBit_or, Nat.testBit_or, Nat.one_shiftLeft, Nat.testBit_two_pow, Bool.or_eq_true, Bool.or_eq_true, decide_eq_true_iff]
    constructor
    · rintro ((h | h) | h)
      · exact .inl h
      · exact .inr ⟨rfl, .inl h.symm⟩
      · exact .inr ⟨rfl, .inr h⟩
    · rintro (h | ⟨_, h | h⟩)
      · exact .inl (.inl h)
      · exact .inl (.inr h.symm)
      · exact .inr h
  · have g : (T.set e.1 (T.getD e.1 0 ||| 1 <<< e.2 ||| T.getD e.2 0)).getD a 0 = T.getD a 0 := by
      simp [List.getD, List.getElem?_set, Ne.symm ha]
    rw [g]
    constructor
    · exact fun h => .inl h
    · rintro (h | ⟨h, _⟩)
      · exact h
      · exact absurd h ha
theorem lap_mono : ∀ (S : List (Nat × Nat)) {T : List Nat}, (∀ e ∈ S, e.1 < T.length) → ∀ {a b}, Bit T a b → Bit (lap S T) a b
  | [], _, _, _, _, h => h
  | e :: r, T, hS, a, b, h => lap_mono r (fun e' he => by rw [put_len]; exact hS e' (List.mem_cons_of_mem _ he)) ((bit_put (hS e (List.mem_cons_self ..))).mpr (.inl h))
theorem lap_edge : ∀ (S : List (Nat × Nat)) {T : List Nat}, (∀ e ∈ S, e.1 < T.length) → ∀ {a b c}, (a, b) ∈ S → c = b ∨ Bit T b c → Bit (lap S T) a c
  | e :: r, T, hS, a, b, c, hm, h => by
    have hr : ∀ e' ∈ r, e'.1 < (put T e).length := fun e' he => by rw [put_len]; exact hS e' (List.mem_cons_of_mem _ he)
    rcases List.mem_cons.mp hm with rfl | hm
    · exact lap_mono r hr ((bit_put (hS _ (List.mem_cons_self ..))).mpr (.inr ⟨rfl, h⟩))
    · refine lap_edge r hr hm (h.imp id fun h => (bit_put (hS e (List.mem_cons_self ..))).mpr (.inl h))
theorem lap_sound : ∀ (S : List (Nat × Nat)) {S0 : List (Nat × Nat)} {T : List Nat}, (∀ e ∈ S, e ∈ S0) → (∀ e ∈ S, e.1 < T.length) → (∀ a b, Bit T a b → Rch S0 a b) → ∀ a b, Bit (lap S T) a b → Rch S0 a b
  | [], _, _, _, _, h => h
  | e :: r, S0, T, h0, hS, h => lap_sound r (fun e' he => h0 e' (List.mem_cons_of_mem _ he)) (fun e' he => by rw [put_len]; exact hS e' (List.mem_cons_of_mem _ he)) fun a b hb => by
    refine Or.elim ((bit_put (hS e (List.mem_cons_self ..))).mp hb) (fun hb => h a b hb) fun hb => ?_
    · obtain ⟨ea, hb2⟩ := hb
      subst ea
      have he : Rch S0 e.1 e.2 := ⟨1, .one (h0 e (List.mem_cons_self ..))⟩
      refine Or.elim hb2 (fun e1 => ?_) (fun hb => he.tr (h _ _ hb))
      rw [e1]
      exact he
/-- behind r laps all paths of at most r steps are there -/
def Upto (S : List (Nat × Nat)) (T : List Nat) (r : Nat) : Prop := ∀ k a b, Pth S k a b → k ≤ r → Bit T a b
theorem Upto.lap {r : Nat} (hS : ∀ e ∈ S, e.1 < T.length) (u : Upto S T r) : Upto S (lap S T) (r + 1) := fun k a b p hk => by
  cases p with
  | one h => exact lap_edge S hS h (.inl rfl)
  | step h p => exact lap_edge S hS h (.inr (u _ _ _ p (by omega)))
/-- where a lap changes nothing all paths are there -/
theorem still_all (hS : ∀ e ∈ S, e.1 < T.length) (h : ∀ a b c, (a, b) ∈ S → c = b ∨ Bit T b c → Bit T a c) {a b : Nat} (p : Rch S a b) : Bit T a b := by
  obtain ⟨k, p⟩ := p
  induction p with
  | one h' => exact h _ _ _ h' (.inl rfl)
  | step h' p ih => exact h _ _ _ h' (.inr ih)
end
end Tl
namespace Tl
/-! ### signs in a row, steps -/
section
variable (sz : Nat → Nat)
def off : Nat → Nat
  | 0 => 0
  | c + 1 => off c + sz c
def rowOf (c : Nat) : List Sg := (List.range (sz c)).map fun i => (c, i)
def marks : Nat → List Sg
  | 0 => []
  | c + 1 => marks c ++ rowOf sz c
def ps (x : Sg) : Nat := off sz x.1 + x.2
/-- a sign of the births below n -/
def Ok (n : Nat) (x : Sg) : Prop := x.1 < n ∧ x.2 < sz x.1
end
section
variable {sz : Nat → Nat} {n : Nat} {x y : Sg}
theorem rowOf_len (c : Nat) : (rowOf sz c).length = sz c := by simp [rowOf]
theorem marks_len : ∀ n, (marks sz n).length = off sz n
  | 0 => rfl
  | n + 1 => by
    show (marks sz n ++ rowOf sz n).length = off sz n + sz n
    rw [List.length_append, marks_len n, rowOf_len]
theorem marks_at : ∀ {n : Nat} {x : Sg}, Ok sz n x → (marks sz n)[ps sz x]? = some x
  | 0, x, h => absurd h.1 (Nat.not_lt_zero _)
  | n + 1, x, h => by
    show (marks sz n ++ rowOf sz n)[ps sz x]? = some x
    by_cases hx : x.1 < n
    · have ih := marks_at (n := n) ⟨hx, h.2⟩
      obtain ⟨hl, _⟩ := List.getElem?_eq_some_iff.mp ih
      rw [List.getElem?_append_left hl]
      exact ih
    · have e : x.1 = n := by have := h.1; omega
      have e2 : ps sz x = (marks sz n).length + x.2 := by unfold ps; rw [marks_len, e]
      rw [e2, List.getElem?_append_right (by omega), Nat.add_sub_cancel_left]
      unfold rowOf
      rw [List.getElem?_map, List.getElem?_range (by rw [← e]; exact h.2)]
      show some (n, x.2) = some x
      rw [← e]
theorem mem_marks : ∀ {n : Nat} {x : Sg}, x ∈ marks sz n ↔ Ok sz n x
  | 0, x => by simp [marks, Ok]
  | n + 1, x => by
    show x ∈ marks sz n ++ rowOf sz n ↔ _
    rw [List.mem_append, mem_marks]
    unfold rowOf Ok
    simp only [List.mem_map, List.mem_range]
    constructor
    · rintro (⟨h1, h2⟩ | ⟨i, hi, rfl⟩)
      · exact ⟨by omega, h2⟩
      · exact ⟨by show n < n + 1; omega, hi⟩
    · rintro ⟨h1, h2⟩
      by_cases hx : x.1 < n
      · exact .inl ⟨hx, h2⟩
      · have e : x.1 = n := by omega
        refine .inr ⟨x.2, by rw [← e]; exact h2, ?_⟩
        rw [← e]
theorem ps_lt (h : Ok sz n x) : ps sz x < off sz n := by
  have := (List.getElem?_eq_some_iff.mp (marks_at h)).1
  rw [marks_len] at this
  exact this
theorem ps_inj (hx : Ok sz n x) (hy : Ok sz n y) (e : ps sz x = ps sz y) : x = y := by
  have h1 := marks_at hx
  rw [e, marks_at hy] at h1
  exact (Option.some.inj h1).symm
theorem sign_at {j : Nat} (h : j < off sz n) : ∃ x, Ok sz n x ∧ ps sz x = j := by
  have hj : j < (marks sz n).length := by rw [marks_len]; exact h
  have hm : (marks sz n)[j] ∈ marks sz n := List.getElem_mem hj
  have ok := mem_marks.mp hm
  refine ⟨_, ok, ?_⟩
  have key : ∀ {n j : Nat} {x : Sg}, (marks sz n)[j]? = some x → ps sz x = j := by
    intro n
    induction n with
    | zero => intro j x h; simp [marks] at h
    | succ n ih =>
      intro j x h
      have h' : (marks sz n ++ rowOf sz n)[j]? = some x := h
      by_cases hl : j < (marks sz n).length
      · rw [List.getElem?_append_left hl] at h'
        exact ih h'
      · rw [List.getElem?_append_right (by omega)] at h'
        unfold rowOf at h'
        rw [List.getElem?_map] at h'
        obtain ⟨i, hi, rfl⟩ := Option.map_eq_some_iff.mp h'
        have e := (List.getElem?_eq_some_iff.mp hi).2
        simp at e
        unfold ps
        show off sz n + i = j
        rw [marks_len] at e hl
        omega
  exact key (List.getElem?_eq_getElem hj)
end
section
variable (L R : Nat → Sg) (sz : Nat → Nat)
def stepsOf (c : Nat) : List (Nat × Nat) := (ps sz (L c), off sz c) :: ((List.range (sz c - 1)).map fun i => (off sz c + i, off sz c + i + 1)) ++ [(off sz c + sz c - 1, ps sz (R c))]
/-- the steps of the births 1 to n -/
def steps : Nat → List (Nat × Nat)
  | 0 => [(0, 1)]
  | n + 1 => steps n ++ stepsOf L R sz (n + 1)
/-- births below n, as a sheet may make them -/
structure Wv (n : Nat) : Prop extends Bs L R n where
  n0 : 0 < n
  s0 : sz 0 = 2
  s1 : ∀ c, 0 < c → c < n → 0 < sz c
  lo : ∀ c, 0 < c → c < n → (L c).2 < sz (L c).1
  ro : ∀ c, 0 < c → c < n → (R c).2 < sz (R c).1
end
section
variable {L R : Nat → Sg} {sz : Nat → Nat} {n : Nat}
theorem Wv.okL (w : Wv L R sz n) {c : Nat} (h0 : 0 < c) (h : c < n) : Ok sz n (L c) := ⟨Nat.lt_trans (w.l c h0 h) h, w.lo c h0 h⟩
theorem Wv.okR (w : Wv L R sz n) {c : Nat} (h0 : 0 < c) (h : c < n) : Ok sz n (R c) := ⟨Nat.lt_trans (w.r c h0 h) h, w.ro c h0 h⟩
theorem Wv.mono (w : Wv L R sz n) {m : Nat} (h0 : 0 < m) (h : m ≤ n) : Wv L R sz m :=
  { Bs.mono w.toBs h with n0 := h0, s0 := w.s0, s1 := fun c h1 h2 => w.s1 c h1 (by omega), lo := fun c h1 h2 => w.lo c h1 (by omega), ro := fun c h1 h2 => w.ro c h1 (by omega) }
theorem mem_steps {m : Nat} {e : Nat × Nat} : e ∈ steps L R sz m ↔ e = (0, 1) ∨ ∃ c, 0 < c ∧ c ≤ m ∧ e ∈ stepsOf L R sz c := by
  induction m with
  | zero =>
    show e ∈ [(0, 1)] ↔ _
    rw [List.mem_singleton]
    constructor
    · exact .inl
    · rintro (h | ⟨c, h1, h2, _⟩)
      · exact h
      · omega
  | succ m ih =>
    show e ∈ steps L R sz m ++ stepsOf L R sz (m + 1) ↔ _
    rw [List.mem_append, ih]
    constructor
    · rintro ((h | ⟨c, h1, h2, h3⟩) | h)
      · exact .inl h
      · exact .inr ⟨c, h1, by omega, h3⟩
      · exact .inr ⟨m + 1, by omega, by omega, h⟩
    · rintro (h | ⟨c, h1, h2, h3⟩)
      · exact .inl (.inl h)
      · by_cases hc : c ≤ m
        · exact .inl (.inr ⟨c, h1, hc, h3⟩)
        · have e : c = m + 1 := by omega
          rw [e] at h3
          exact .inr h3
theorem mem_stepsOf {c : Nat} {e : Nat × Nat} : e ∈ stepsOf L R sz c ↔ e = (ps sz (L c), off sz c) ∨ (∃ i, i < sz c - 1 ∧ e = (off sz c + i, off sz c + i + 1)) ∨ e = (off sz c + sz c - 1, ps sz (R c)) := by
  unfold stepsOf
  simp only [List.cons_append, List.mem_cons, List.mem_append, List.mem_map, List.mem_range, List.not_mem_nil, or_false]
  constructor
  · rintro (h | ⟨i, hi, rfl⟩ | h)
    · exact .inl h
    · exact .inr (.inl ⟨i, hi, rfl⟩)
    · exact .inr (.inr h)
  · rintro (h | ⟨i, hi, rfl⟩ | h)
    · exact .inl h
    · exact .inr (.inl ⟨i, hi, rfl⟩)
    · exact .inr (.inr h)
/-- each step is one of the order -/
theorem step_A (w : Wv L R sz n) {a b : Nat} (h : (a, b) ∈ steps L R sz (n - 1)) : ∃ x y, Ok sz n x ∧ Ok sz n y ∧ ps sz x = a ∧ ps sz y = b ∧ A L R x y := by
  have n0 := w.n0
  rcases mem_steps.mp h with h | ⟨c, h1, h2, h3⟩
  · cases h
    refine ⟨(0, 0), (0, 1), ⟨n0, by rw [w.s0]; decide⟩, ⟨n0, by rw [w.s0]; decide⟩, rfl, rfl, .same rfl (by decide)⟩
  · have hc : c < n := by omega
    have hs := w.s1 c h1 hc
    rcases mem_stepsOf.mp h3 with e | ⟨i, hi, e⟩ | e
    · cases e
      exact ⟨L c, (c, 0), w.okL h1 hc, ⟨hc, hs⟩, rfl, rfl, .lEq (w.l c h1 hc) rfl⟩
    · cases e
      exact ⟨(c, i), (c, i + 1), ⟨hc, by show i < sz c; omega⟩, ⟨hc, by show i + 1 < sz c; omega⟩, rfl, by unfold ps; show off sz c + (i + 1) = _; omega, .same rfl (by show i < i + 1; omega)⟩
    · cases e
      exact ⟨(c, sz c - 1), R c, ⟨hc, by show sz c - 1 < sz c; omega⟩, w.okR h1 hc, by unfold ps; show off sz c + (sz c - 1) = _; omega, rfl, .rEq (w.r c h1 hc) rfl⟩
theorem rch_row (w : Wv L R sz n) {c : Nat} (hc : c < n) : ∀ {i j : Nat}, i < j → j < sz c → Rch (steps L R sz (n - 1)) (off sz c + i) (off sz c + j) := by
  intro i j hij
  obtain ⟨d, rfl⟩ : ∃ d, j = i + 1 + d := ⟨j - (i + 1), by omega⟩
  clear hij
  have one : ∀ i, i + 1 < sz c → Rch (steps L R sz (n - 1)) (off sz c + i) (off sz c + i + 1) := by
    intro i hi
    refine ⟨1, .one (mem_steps.mpr ?_)⟩
    by_cases h0 : c = 0
    · subst h0
      have z := w.s0
      have e : i = 0 := by omega
      subst e
      exact .inl rfl
    · exact .inr ⟨c, by omega, by omega, mem_stepsOf.mpr (.inr (.inl ⟨i, by omega, rfl⟩))⟩
  induction d with
  | zero => intro h; exact one i h
  | succ d ih =>
    intro h
    have p := ih (by omega)
    have q := one (i + 1 + d) (by omega)
    exact p.tr q
theorem rch_A (w : Wv L R sz n) {x y : Sg} (a : A L R x y) : Ok sz n x → Ok sz n y → Rch (steps L R sz (n - 1)) (ps sz x) (ps sz y) := by
  have toR : ∀ {x : Sg}, Ok sz n x → 0 < x.1 → Rch (steps L R sz (n - 1)) (ps sz x) (ps sz (R x.1)) := by
    intro x hx h0
    have e : Rch (steps L R sz (n - 1)) (off sz x.1 + sz x.1 - 1) (ps sz (R x.1)) := ⟨1, .one (mem_steps.mpr (.inr ⟨x.1, h0, by have := hx.1; omega, mem_stepsOf.mpr (.inr (.inr rfl))⟩))⟩
    by_cases hl : x.2 = sz x.1 - 1
    · have e2 : ps sz x = off sz x.1 + sz x.1 - 1 := by unfold ps; have := hx.2; omega
      rw [e2]
      exact e
    · have p := rch_row w hx.1 (i := x.2) (j := sz x.1 - 1) (by have := hx.2; omega) (by have := hx.2; omega)
      have e2 : off sz x.1 + (sz x.1 - 1) = off sz x.1 + sz x.1 - 1 := by have := hx.2; omega
      rw [e2] at p
      exact p.tr e
  have toL : ∀ {y : Sg}, Ok sz n y → 0 < y.1 → Rch (steps L R sz (n - 1)) (ps sz (L y.1)) (ps sz y) := by
    intro y hy h0
    have e : Rch (steps L R sz (n - 1)) (ps sz (L y.1)) (off sz y.1) := ⟨1, .one (mem_steps.mpr (.inr ⟨y.1, h0, by have := hy.1; omega, mem_stepsOf.mpr (.inl rfl)⟩))⟩
    by_cases hl : y.2 = 0
    · have e2 : ps sz y = off sz y.1 := by unfold ps; omega
      rw [e2]
      exact e
    · exact e.tr (rch_row w hy.1 (i := 0) (j := y.2) (by omega) hy.2)
  induction a with
  | @same x y h i =>
    intro hx hy
    unfold ps
    rw [← h]
    exact rch_row w hx.1 i (by rw [h]; exact hy.2)
  | @rEq x y h e => intro hx hy; exact e ▸ toR hx (by omega)
  | @rGo x y h a ih => intro hx hy; exact (toR hx (by omega)).tr (ih (w.okR (by omega) hx.1) hy)
  | @lEq x y h e => intro hx hy; exact e ▸ toL hy (by omega)
  | @lGo x y h a ih => intro hx hy; exact (ih hx (w.okL (by omega) hy.1)).tr (toL hy (by omega))
theorem A_rch (w : Wv L R sz n) {x y : Sg} (hx : Ok sz n x) (hy : Ok sz n y) (p : Rch (steps L R sz (n - 1)) (ps sz x) (ps sz y)) : A L R x y := by
  obtain ⟨k, p⟩ := p
  have key : ∀ {k a b}, Pth (steps L R sz (n - 1)) k a b → ∃ u v, Ok sz n u ∧ Ok sz n v ∧ ps sz u = a ∧ ps sz v = b ∧ A L R u v := by
    intro k a b p
    induction p with
    | one h => exact step_A w h
    | step h p ih =>
      obtain ⟨u, v, h1, h2, h3, h4, h5⟩ := step_A w h
      obtain ⟨u', v', g1, g2, g3, g4, g5⟩ := ih
      have e := ps_inj h2 g1 (h4.trans g3.symm)
      subst e
      exact ⟨u, v', h1, g2, h3, g4, w.tr h1.1 h2.1 g2.1 h5 g5⟩
  obtain ⟨u, v, h1, h2, h3, h4, h5⟩ := key p
  have e1 := ps_inj hx h1 h3.symm
  have e2 := ps_inj hy h2 h4.symm
  subst e1 e2
  exact h5
theorem rch_iff (w : Wv L R sz n) {x y : Sg} (hx : Ok sz n x) (hy : Ok sz n y) : Rch (steps L R sz (n - 1)) (ps sz x) (ps sz y) ↔ A L R x y := ⟨A_rch w hx hy, fun a => rch_A w a hx hy⟩
theorem step_lt (w : Wv L R sz n) {a b : Nat} (h : (a, b) ∈ steps L R sz (n - 1)) : a < off sz n ∧ b < off sz n := by
  obtain ⟨x, y, hx, hy, rfl, rfl, _⟩ := step_A w h
  exact ⟨ps_lt hx, ps_lt hy⟩
theorem path_bound (w : Wv L R sz n) {k a b : Nat} (p : Pth (steps L R sz (n - 1)) k a b) : k + 1 ≤ off sz n := by
  refine Pth.bound (lt := fun a b => ∃ x y, Ok sz n x ∧ Ok sz n y ∧ ps sz x = a ∧ ps sz y = b ∧ A L R x y) (fun a b h => ⟨step_A w h, step_lt w h⟩) (fun a b c ha hb hc h1 h2 => ?_) (fun a h => ?_) p
  · obtain ⟨x, y, hx, hy, rfl, rfl, a1⟩ := h1
    obtain ⟨y', z, hy', hz, e, rfl, a2⟩ := h2
    have e' := ps_inj hy' hy e
    subst e'
    exact ⟨x, z, hx, hz, rfl, rfl, w.tr hx.1 hy.1 hz.1 a1 a2⟩
  · obtain ⟨x, y, hx, hy, rfl, e, a1⟩ := h
    have e' := ps_inj hy hx e
    subst e'
    exact A.irr a1
theorem steps_len (w : Wv L R sz n) : off sz n ≤ (steps L R sz (n - 1)).length + 1 := by
  have key : ∀ m, m < n → off sz (m + 1) ≤ (steps L R sz m).length + 1 := by
    intro m
    induction m with
    | zero =>
      intro _
      show 0 + sz 0 ≤ 1 + 1
      rw [w.s0]
      decide
    | succ m ih =>
      intro h
      have z := ih (by omega)
      show off sz (m + 1) + sz (m + 1) ≤ (steps L R sz m ++ stepsOf L R sz (m + 1)).length + 1
      rw [List.length_append]
      have e : (stepsOf L R sz (m + 1)).length = sz (m + 1) - 1 + 2 := by
        unfold stepsOf
        simp
      rw [e]
      omega
  have n0 := w.n0
  have z := key (n - 1) (by omega)
  rw [Nat.sub_add_cancel n0] at z
  exact z
/-- the table tells the order -/
def Tells (L R : Nat → Sg) (sz : Nat → Nat) (n : Nat) (T : List Nat) : Prop := T.length = off sz n ∧ ∀ x y, Ok sz n x → Ok sz n y → (Bit T (ps sz x) (ps sz y) ↔ A L R x y)
/-- the table under way: sound, all paths of at most r steps -/
structure Under (L R : Nat → Sg) (sz : Nat → Nat) (n : Nat) (T : List Nat) (r : Nat) : Prop where
  len : T.length = off sz n
  snd : ∀ a b, Bit T a b → Rch (steps L R sz (n - 1)) a b
  upto : Upto (steps L R sz (n - 1)) T r
theorem Under.zero : Under L R sz n (List.replicate (off sz n) 0) 0 := by
  refine ⟨List.length_replicate, fun a b h => ?_, fun k a b p hk => ?_⟩
  · exfalso
    unfold Bit at h
    have e : (List.replicate (off sz n) 0).getD a 0 = 0 := by
      simp [List.getD, List.getElem?_replicate]
      split <;> rfl
    rw [e] at h
    simp at h
  · cases p <;> omega
theorem Under.fst (w : Wv L R sz n) {T : List Nat} {r : Nat} (u : Under L R sz n T r) : ∀ e ∈ steps L R sz (n - 1), e.1 < T.length := fun e he => by
  rw [u.len]
  exact (step_lt w (a := e.1) (b := e.2) he).1
theorem Under.lap (w : Wv L R sz n) {T : List Nat} {r : Nat} (u : Under L R sz n T r) : Under L R sz n (lap (steps L R sz (n - 1)) T) (r + 1) :=
  ⟨(lap_len _ _).trans u.len, lap_sound _ (fun _ h => h) (u.fst w) u.snd, u.upto.lap (u.fst w)⟩
theorem Under.done (w : Wv L R sz n) {T : List Nat} {r : Nat} (u : Under L R sz n T r) (h : off sz n ≤ r + 1) : Tells L R sz n T :=
  ⟨u.len, fun x y hx hy => ⟨fun b => A_rch w hx hy (u.snd _ _ b), fun a => by
    obtain ⟨k, p⟩ := rch_A w a hx hy
    have z := path_bound w p
    exact u.upto k _ _ p (by omega)⟩⟩
theorem Under.still (w : Wv L R sz n) {T : List Nat} {r : Nat} (u : Under L R sz n T r) (h : ∀ a b c, (a, b) ∈ steps L R sz (n - 1) → c = b ∨ Bit T b c → Bit T a c) : Tells L R sz n T :=
  ⟨u.len, fun x y hx hy => ⟨fun b => A_rch w hx hy (u.snd _ _ b), fun a => still_all (u.fst w) h (rch_A w a hx hy)⟩⟩
end
end Tl
namespace Dk
open PySem PySem.Spec PyProof.Rows L2
/-! ### what never runs -/
def tNv : TE := fun _ _ _ => False
theorem pe_never {X : Cx} {e : Expr} : PE X e tNv := ⟨fun _ _ _ _ _ _ h => h.elim⟩
/-! ### keywords alone -/
section
variable {X : Cx} {CX : CXT} {k : Nat} {f : Addr} {fd : FuncData} {ps ks : List Str} {sp : Sp} {E : XK} {x : Str} {p pos : Pos} {kws : List Keyword} {tk : TA} {g : List Value → List Value → List Value} {gV : List V → List V → List V}
def tCallK0 (sp : Sp) (gV : List V → List V → List V) (E : XK) (tk : TA) : TE := fun σ H Q => tk σ H fun zs H2 => sp (gV [] zs) H2 Q E
theorem pe_callK0 (F : FnOk X.prog X.w X.K X.mg X.base CX k f fd ps sp) (hr : Room k X.A) (hg : Gl X x) (hm : X.mg x = some (.ref f)) (hk : PySem.W.keepIn X.K (.ref f) = true) (hb : KBinds X.K fd ps ks g gV) (hx : Passes CX X E)
    (hkw : PK X kws tk) (hall : (backToKw pos (keywordEach kws X.env)).all (·.1.isSome) = true := by rfl) (hks : (backToKw pos (keywordEach kws X.env)).filterMap (·.1) = ks := by rfl)
    (hdb : (x == ("__debug__" : Str)) = false := by decide)
    (hpl : ((backTo pos (starEach [] X.env)).any (·.1) || (backToKw pos (keywordEach kws X.env)).any (·.1.isNone)) = false := by rfl) :
    PE X (.Call (.Name x p) [] kws pos) (tCallK0 sp gV E tk) := by
  refine ⟨fun pins s σ H Q I h => ?_⟩
  refine wpAny_Call_Name_kw (ld_glob I hg hm ?_ hdb)
  refine PySem.W.callWith_KW0 (h₀ := X.base) I.ok.mod.kin hk hall (thn (hkw.run pos pins s σ H _ I h) fun ws s2 ⟨zs, H2, I2, rz, q2⟩ => ⟨I2.kIn, ?_⟩) hpl
  rw [hks]
  exact run_fnk (us := []) (vs := []) F hr hb hx I2 .nil rz q2
theorem r_callK0 {σ : L2.St} {H : Hp} {Q : VK} (h : tk σ H fun zs H2 => sp (gV [] zs) H2 Q E) : tCallK0 sp gV E tk σ H Q := h
end
/-- three values put in another order -/
def p201 {α : Type} : List α → List α → List α
  | [], [a, b, c] => [b, c, a]
  | _, _ => []
def p210 {α : Type} : List α → List α → List α
  | [], [a, b, c] => [c, b, a]
  | _, _ => []
def p120 {α : Type} : List α → List α → List α
  | [], [a, b, c] => [c, a, b]
  | _, _ => []
theorem p201_rel {vs zs : List V} {us ws : List Value} (r : Vals vs us) (q : Vals zs ws) : Vals (p201 vs zs) (p201 us ws) := by
  cases r with
  | cons => exact .nil
  | nil => rcases q with _ | ⟨a, _ | ⟨b, _ | ⟨c, _ | _⟩⟩⟩
           · exact .nil
           · exact .nil
           · exact .nil
           · exact .cons b (.cons c (.cons a .nil))
           · exact .nil
theorem p210_rel {vs zs : List V} {us ws : List Value} (r : Vals vs us) (q : Vals zs ws) : Vals (p210 vs zs) (p210 us ws) := by
  cases r with
  | cons => exact .nil
  | nil => rcases q with _ | ⟨a, _ | ⟨b, _ | ⟨c, _ | _⟩⟩⟩
           · exact .nil
           · exact .nil
           · exact .nil
           · exact .cons c (.cons b (.cons a .nil))
           · exact .nil
theorem p120_rel {vs zs : List V} {us ws : List Value} (r : Vals vs us) (q : Vals zs ws) : Vals (p120 vs zs) (p120 us ws) := by
  cases r with
  | cons => exact .nil
  | nil => rcases q with _ | ⟨a, _ | ⟨b, _ | ⟨c, _ | _⟩⟩⟩
           · exact .nil
           · exact .nil
           · exact .nil
           · exact .cons c (.cons a (.cons b .nil))
           · exact .nil
def rAbs : List V → Hp → VK → Prop := fun xs H Q => ∃ i, xs = [.int i] ∧ Q (.int (if i < 0 then -i else i)) H
theorem call_absU {X : Cx} : CallR X (.builtin "abs") rAbs := call_abs
/-! ### steps -/
section
variable {K : PySem.W.Frag} {σ : L2.St} {H H' : Hp} {Q : VK} {v x y : V} {i j : Int}
theorem r_bool {b : Bool} (q : Q (.int (if b then 1 else 0)) H) : rInt1 [.bl b] H Q := .inr ⟨b, rfl, q⟩
theorem r_abs (q : Q (.int (i.natAbs : Nat)) H) : rAbs [.int i] H Q := ⟨i, rfl, by
  have e : (if i < 0 then -i else i) = (i.natAbs : Int) := by split <;> omega
  rw [e]
  exact q⟩
theorem r_catT {p q : Addr} {xs ys : List V} (hp : SqT K H p xs) (hq : SqT K H q ys) (nx : xs ≠ []) (ny : ys ≠ []) (hz : xs.length + ys.length ≤ 1000) (k : ∀ l, H l = none → Q (.ref l) (upd H l (.tup (xs ++ ys)))) : rAddU K (.ref p) (.ref q) H Q :=
  .inr (.inr (.inr ⟨p, q, xs, ys, rfl, rfl, hp, hq, by rw [sizeLine_eq]; omega, fun z => absurd z nx, fun _ z => absurd z ny, fun _ _ => k⟩))
theorem r_pop0 {p : Addr} {xs : List V} (h : H p = some (.lst (x :: xs))) (q : Q x (upd H p (.lst xs))) : rPopAt (.ref p) [.int 0] H Q :=
  ⟨p, x :: xs, 0, 0, x, rfl, rfl, h, by decide, by decide, by
    show (if _ then _ else _) = _
    simp, rfl, q⟩
theorem r_isiT2 {a n m : String} {b c : Bool} {tp : Addr} (hT : H tp = some (.tup [.ty n, .ty m])) (ty : TyX K H x (.type a)) (e1 : kitB a n = some b) (e2 : kitB a m = some c) (q : Q (.bl (b || c)) H) : rIsiT K [x, .ref tp] H Q := by
  refine ⟨x, tp, [.ty n, .ty m], .type a, [.type n, .type m], b || c, rfl, hT, .cons (.ty n) (.cons (.ty m) .nil), ty, ?_, q⟩
  refine kitAny_cons (kit_ty e1) (r := b || c) (fun hb => ?_) (fun hb => by rw [hb]; rfl)
  subst hb
  refine kitAny_cons (kit_ty e2) (fun hc => ?_) (fun hc => by rw [hc]; rfl)
  subst hc
  exact kitAny_nil
end
theorem r_eqP {x y : V} {H : Hp} {Q : VK} (h : scal x y = true) (q : Q (.bl (decide (x = y))) H) : rEq x y H Q := ⟨h, q⟩
theorem r_gunl {K : PySem.W.Frag} {σ : L2.St} {H : Hp} {N : L2.St → Hp → Prop} {vs : List V} {u : TGs} {n : Nat} {a : Addr} (h : SqL K H a vs) (hl : vs.length = n) (k : u vs σ H N) : gUnl K n u (.ref a) σ H N := ⟨a, vs, rfl, h, hl, k⟩
theorem r_slT {K : PySem.W.Frag} {H : Hp} {Q : VK} {p : Addr} {xs : List V} {n : Nat} (h : SqT K H p xs) (k1 : xs.length ≤ n → Q (.ref p) H) (k2 : ∀ l, H l = none → Q (.ref l) (upd H l (.tup (xs.take n)))) : rSlU K (.ref p) none (some (n : Int)) H Q := by
  refine .inr (.inr ⟨p, xs, rfl, h, fun z => k1 ?_, fun _ l hl => ?_⟩)
  · have e := z.2
    rw [HT.sIx_nat] at e
    omega
  · rw [cutV_to]
    exact k2 l hl
theorem cutV_from (xs : List V) (n : Nat) : cutV xs (some (n : Int)) none = xs.drop n := by
  unfold cutV
  rw [HT.sIx_nat, HT.sIx_none]
  by_cases h : n ≤ xs.length
  · rw [Nat.min_eq_left h, List.take_of_length_le (by rw [List.length_drop]; omega)]
  · rw [Nat.min_eq_right (by omega), Nat.sub_self, List.take_zero, List.drop_eq_nil_of_le (by omega)]
theorem r_break {σ : L2.St} {H : Hp} {D : Ends} (q : D.bk σ H) : tBreak D σ H := q
theorem r_yes {σ : L2.St} {H : Hp} {QB : Bool → Hp → Prop} (q : QB true H) : tYes σ H QB := q
theorem _root_.L2.Room.units65 {k : Nat} {A : Around} (r : L2.Room k A) : A.units + 65 < cLine := by
  have := r.un
  omega
theorem r_lcRo {ta : TA} {g : TG} {tt : TT} {te : TE} {vs : List Nat} {σ : L2.St} {H : Hp} {Q : VK} (h : ta σ H fun us H1 => ∃ j : Int, us = [.int j] ∧ -(2 ^ 62) ≤ j ∧ j < 2 ^ 62 ∧ ∀ D, H1 D = none → ∃ W : Nat → Nat → Hp → Prop, (∃ m, W 0 m (upd H1 D (.lst []))) ∧ ∀ i m H, W i m H →
  ((Itr 0 j.toNat).stop i H ∧ Q (.ref D) H) ∨ ((Itr 0 j.toNat).go i H ∧ ∃ Nx : Hp → Prop, (∀ H', Nx H' → ∃ m', m' < m ∧ W (i + 1) m' H') ∧ ∀ x H', (Itr 0 j.toNat).yld i H x H' → g x (wipe σ vs) H' fun σ2 H2 => wipe σ2 vs = wipe σ vs ∧ tt σ2 H2 fun b H3 =>
    if b = true then te σ2 H3 fun y H4 => ∃ acc, H4 D = some (.lst acc) ∧ acc.length < sizeLine ∧ Nx (upd H4 D (.lst (acc ++ [y]))) else Nx H3)) : tLc (iRng1 ta) g tt te vs σ H Q := h
/-- [.. for x in range(n)] -/
theorem l_lcR {n : Int} {g : TG} {tt : TT} {te : TE} {vs : List Nat} {σ : L2.St} {H1 : Hp} {Qd : Addr → Hp → Prop} (n0 : -1000000 ≤ n) (n1 : n ≤ 1000000) (Pv : Addr → Nat → Hp → Prop) (h0 : ∀ D, H1 D = none → Pv D 0 (upd H1 D (.lst [])))
    (hs : ∀ D (i : Nat) H, H1 D = none → (i : Int) < n → Pv D i H → g (.int (i : Nat)) (wipe σ vs) H fun σ2 H2 => wipe σ2 vs = wipe σ vs ∧ tt σ2 H2 fun b H3 =>
      if b = true then te σ2 H3 fun y H4 => ∃ acc, H4 D = some (.lst acc) ∧ acc.length < sizeLine ∧ Pv D (i + 1) (upd H4 D (.lst (acc ++ [y]))) else Pv D (i + 1) H3) (hd : ∀ D H, H1 D = none → Pv D n.toNat H → Qd D H) :
    ∃ j : Int, [V.int n] = [.int j] ∧ -(2 ^ 62) ≤ j ∧ j < 2 ^ 62 ∧ ∀ D, H1 D = none → ∃ W : Nat → Nat → Hp → Prop, (∃ m, W 0 m (upd H1 D (.lst []))) ∧ ∀ i m H, W i m H →
  ((Itr 0 j.toNat).stop i H ∧ Qd D H) ∨ ((Itr 0 j.toNat).go i H ∧ ∃ Nx : Hp → Prop, (∀ H', Nx H' → ∃ m', m' < m ∧ W (i + 1) m' H') ∧ ∀ x H', (Itr 0 j.toNat).yld i H x H' → g x (wipe σ vs) H' fun σ2 H2 => wipe σ2 vs = wipe σ vs ∧ tt σ2 H2 fun b H3 =>
    if b = true then te σ2 H3 fun y H4 => ∃ acc, H4 D = some (.lst acc) ∧ acc.length < sizeLine ∧ Nx (upd H4 D (.lst (acc ++ [y]))) else Nx H3) := by
  refine ⟨n, rfl, by omega, by omega, fun D hD => lc_range (lo := 0) (Pv D) (h0 D hD) (fun i H hi p => ?_) fun H p => hd D H hD p⟩
  have z := hs D i H hD (by omega) p
  rw [Int.zero_add]
  exact z
/-- for c in range(1, n) -/
theorem l_R1n {n : Nat} {g : TG} {tb : TS} {σ : L2.St} {H : Hp} {D : Ends} (h1 : 1 ≤ n) (h2 : n ≤ 1000000) (Pv : Nat → L2.St → Hp → Prop) (p0 : Pv 1 σ H)
    (ht : ∀ (c : Nat) σ H, 1 ≤ c → c < n → Pv c σ H → g (.int (c : Nat)) σ H fun σ2 H2 => tb { D with nx := Pv (c + 1), ct := Pv (c + 1), bk := D.nx } σ2 H2) (hd : ∀ σ H, Pv n σ H → D.nx σ H) :
    ∃ i j : Int, [V.int 1, V.int (n : Nat)] = [.int i, .int j] ∧ (-(2 ^ 62) ≤ i ∧ i < 2 ^ 62 ∧ -(2 ^ 62) ≤ j ∧ j < 2 ^ 62) ∧ LoopW (Itr i (j - i).toNat) g tb D σ H := by
  refine ⟨1, n, rfl, ⟨by omega, by omega, by omega, by omega⟩, for_range (fun i => Pv (i + 1)) p0 (fun i σ H hi p => ?_) fun σ H p => hd σ H ?_⟩
  · have z := ht (i + 1) σ H (by omega) (by omega) p
    rw [show (1 : Int) + (i : Nat) = ((i + 1 : Nat) : Int) by omega]
    exact z
  · have e : ((n : Int) - 1).toNat + 1 = n := by omega
    rw [e] at p
    exact p
theorem r_lcLo {K : PySem.W.Frag} {tl : TE} {g : TG} {tt : TT} {te : TE} {vs : List Nat} {σ : L2.St} {H : Hp} {Q : VK} (h : tl σ H fun x H1 => ∃ a, x = .ref a ∧ (∃ xs, SqL K H1 a xs) ∧ ∀ D, H1 D = none → ∃ W : Nat → Nat → Hp → Prop, (∃ m, W 0 m (upd H1 D (.lst []))) ∧ ∀ i m H, W i m H →
  ((Itl K a).stop i H ∧ Q (.ref D) H) ∨ ((Itl K a).go i H ∧ ∃ Nx : Hp → Prop, (∀ H', Nx H' → ∃ m', m' < m ∧ W (i + 1) m' H') ∧ ∀ x H', (Itl K a).yld i H x H' → g x (wipe σ vs) H' fun σ2 H2 => wipe σ2 vs = wipe σ vs ∧ tt σ2 H2 fun b H3 =>
    if b = true then te σ2 H3 fun y H4 => ∃ acc, H4 D = some (.lst acc) ∧ acc.length < sizeLine ∧ Nx (upd H4 D (.lst (acc ++ [y]))) else Nx H3)) : tLc (iList K tl) g tt te vs σ H Q := h
theorem l_lcL {K : PySem.W.Frag} {a : Addr} {xs : List V} {g : TG} {tt : TT} {te : TE} {vs : List Nat} {σ : L2.St} {H1 : Hp} {Qd : Addr → Hp → Prop} (hs0 : SqL K H1 a xs) (Pv : Addr → Nat → Hp → Prop) (h0 : ∀ D, H1 D = none → Pv D 0 (upd H1 D (.lst []))) (hl : ∀ D i H, Pv D i H → SqL K H a xs)
    (hs : ∀ D (i : Nat) x H, H1 D = none → xs[i]? = some x → Pv D i H → g x (wipe σ vs) H fun σ2 H2 => wipe σ2 vs = wipe σ vs ∧ tt σ2 H2 fun b H3 =>
      if b = true then te σ2 H3 fun y H4 => ∃ acc, H4 D = some (.lst acc) ∧ acc.length < sizeLine ∧ Pv D (i + 1) (upd H4 D (.lst (acc ++ [y]))) else Pv D (i + 1) H3) (hd : ∀ D H, H1 D = none → Pv D xs.length H → Qd D H) :
    ∃ b, V.ref a = .ref b ∧ (∃ xs, SqL K H1 b xs) ∧ ∀ D, H1 D = none → ∃ W : Nat → Nat → Hp → Prop, (∃ m, W 0 m (upd H1 D (.lst []))) ∧ ∀ i m H, W i m H →
  ((Itl K b).stop i H ∧ Qd D H) ∨ ((Itl K b).go i H ∧ ∃ Nx : Hp → Prop, (∀ H', Nx H' → ∃ m', m' < m ∧ W (i + 1) m' H') ∧ ∀ x H', (Itl K b).yld i H x H' → g x (wipe σ vs) H' fun σ2 H2 => wipe σ2 vs = wipe σ vs ∧ tt σ2 H2 fun b H3 =>
    if b = true then te σ2 H3 fun y H4 => ∃ acc, H4 D = some (.lst acc) ∧ acc.length < sizeLine ∧ Nx (upd H4 D (.lst (acc ++ [y]))) else Nx H3) :=
  ⟨a, rfl, ⟨xs, hs0⟩, fun D hD => lc_list (Pv D) (h0 D hD) (fun i H _ p => hl D i H p) (fun i x H hx p => hs D i x H hD hx p) fun H p => hd D H hD p⟩
/-- a test whose outcome does not matter -/
theorem any_test {tt : TT} {σ : L2.St} {H : Hp} {QB : Bool → Hp → Prop} {S : Bool → Hp → Prop} (h : ∀ QB : Bool → Hp → Prop, (∀ c H1, S c H1 → QB c H1) → tt σ H QB) (k : ∀ c H1, S c H1 → QB c H1) : tt σ H QB := h QB k
theorem any_val {te : TE} {σ : L2.St} {H : Hp} {Q : VK} {S : V → Hp → Prop} (h : ∀ Q : VK, (∀ v H1, S v H1 → Q v H1) → te σ H Q) (k : ∀ v H1, S v H1 → Q v H1) : te σ H Q := h Q k
/-! ### bits -/
theorem or_val (x b y : Nat) : Builtin.bitOr (Builtin.bitOr (x : Int) (1 * 2 ^ ((b : Int)).toNat)) (y : Int) = ((x ||| 1 <<< b ||| y : Nat) : Int) := by
  have e : (1 * 2 ^ ((b : Int)).toNat : Int) = ((1 <<< b : Nat) : Int) := by
    rw [Int.toNat_natCast, Nat.one_shiftLeft]
    push_cast
    omega
  have e1 : Builtin.bitOr (x : Int) ((1 <<< b : Nat) : Int) = ((x ||| 1 <<< b : Nat) : Int) := by
    rw [Bits.bitOr_pp (Int.natCast_nonneg _) (Int.natCast_nonneg _), Int.toNat_natCast, Int.toNat_natCast]
  rw [e, e1, Bits.bitOr_pp (Int.natCast_nonneg _) (Int.natCast_nonneg _), Int.toNat_natCast, Int.toNat_natCast]
theorem bit_val (x k : Nat) : decide (V.int (Builtin.bitAnd ((x : Int) / 2 ^ ((k : Int)).toNat) 1) = V.int 1) = x.testBit k := by
  have e : Builtin.bitAnd ((x : Int) / 2 ^ ((k : Int)).toNat) 1 = (x : Int) / 2 ^ k % 2 := by
    have z := Bits.bit_at (x := (x : Int)) k
    have hp : (0 : Int) ≤ 2 ^ k := Int.pow_nonneg (by decide)
    rw [Int.fdiv_eq_ediv_of_nonneg _ hp] at z
    rw [Int.toNat_natCast]
    exact z
  rw [e, Bool.eq_iff_iff, decide_eq_true_iff, Nat.testBit_eq_decide_div_mod_eq, decide_eq_true_iff]
  have e2 : (x : Int) / 2 ^ k % 2 = ((x / 2 ^ k % 2 : Nat) : Int) := by push_cast; rfl
  rw [e2]
  constructor
  · intro h
    have := V.int.inj h
    omega
  · intro h
    rw [h]
    rfl
/-! ### the box of the draws: a number and a list of heaps -/
def M31 : Int := 2147483629
structure Bx (H : Hp) (b h : Addr) : Prop where
  ne : b ≠ h
  ex : ∃ (z : Int) (ns : List Int), H b = some (.lst [.int z, .ref h]) ∧ 0 ≤ z ∧ z < M31 ∧ H h = some (.lst (ns.map V.int)) ∧ ns.length ≤ 63
structure Dr2 (b h : Addr) (H H' : Hp) : Prop where
  hh : ∀ x o, x ≠ b → x ≠ h → H x = some o → H' x = some o
  st : Bx H' b h
abbrev A2 (b h : Addr) : Addr → Prop := fun x => x = b ∨ x = h
structure W2 (b h : Addr) (G H : Hp) : Prop where
  g : Ex G H
  nb : G b = none
  nh : G h = none
  st : Bx H b h
section
variable {A : Addr → Prop} {b h p : Addr} {G H G1 H1 H2 : Hp} {o : HO}
theorem Bx.gb (s : Bx H b h) : ∃ o, H b = some o := by
  obtain ⟨_, z, ns, h1, _⟩ := s
  exact ⟨_, h1⟩
theorem Bx.gh (s : Bx H b h) : ∃ o, H h = some o := by
  obtain ⟨_, z, ns, _, _, _, h1, _⟩ := s
  exact ⟨_, h1⟩
theorem Bx.up (s : Bx H b h) (e : Ex H H1) : Bx H1 b h := by
  obtain ⟨n, z, ns, h1, h2, h3, h4, h5⟩ := s
  exact ⟨n, z, ns, e _ _ h1, h2, h3, e _ _ h4, h5⟩
theorem Bx.nb (s : Bx H b h) (hp : H p = none) : p ≠ b := fun z => by
  obtain ⟨o, e⟩ := s.gb
  rw [← z, hp] at e
  cases e
theorem Bx.nh (s : Bx H b h) (hp : H p = none) : p ≠ h := fun z => by
  obtain ⟨o, e⟩ := s.gh
  rw [← z, hp] at e
  cases e
theorem Bx.put (s : Bx H b h) (h1 : p ≠ b) (h2 : p ≠ h) : Bx (upd H p o) b h := by
  obtain ⟨n, z, ns, e1, e2, e3, e4, e5⟩ := s
  exact ⟨n, z, ns, by rw [upd_ne (Ne.symm h1)]; exact e1, e2, e3, by rw [upd_ne (Ne.symm h2)]; exact e4, e5⟩
theorem Bx.na (s : Bx H b h) (hp : H p = none) : ¬ A2 b h p := fun z => z.elim (s.nb hp) (s.nh hp)
theorem Dr2.refl (s : Bx H b h) : Dr2 b h H H := ⟨fun _ _ _ _ e => e, s⟩
theorem Dr2.trans (x : Dr2 b h H H1) (y : Dr2 b h H1 H2) : Dr2 b h H H2 := ⟨fun u o n m e => y.hh u o n m (x.hh u o n m e), y.st⟩
theorem Dr2.ex (s : Bx H b h) (e : Ex H H1) : Dr2 b h H H1 := ⟨fun u o _ _ q => e u o q, s.up e⟩
theorem Dr2.then (x : Dr2 b h H H1) (e : Ex H1 H2) : Dr2 b h H H2 := x.trans (.ex x.st e)
theorem Dr2.new (x : Dr2 b h H H1) (hp : H1 p = none) : Dr2 b h H (upd H1 p o) := x.then (Same.new (Same.refl H1) hp)
theorem Dr2.mut (x : Dr2 b h H H1) (hp : H p = none) (h1 : p ≠ b) (h2 : p ≠ h) : Dr2 b h H (upd H1 p o) :=
  ⟨fun u q n m e => by rw [upd_ne (ne_of_none e hp)]; exact x.hh u q n m e, x.st.put h1 h2⟩
theorem Dr2.fresh (x : Dr2 b h H H1) (hp : H1 p = none) : H p = none := by
  cases e : H p with
  | none => rfl
  | some o =>
    rw [x.hh p o (x.st.nb hp) (x.st.nh hp) e] at hp
    cases hp
theorem Dr2.gr (g : Ex G H) (nb : G b = none) (nh : G h = none) (s : Bx H b h) (d : Dr2 b h H H1) : Gr (A2 b h) G H G H1 where
  gg := Same.refl G
  gh := fun u x e => d.hh u x (ne_of_none e nb) (ne_of_none e nh) (g u x e)
  hh := fun u x z e => d.hh u x (fun q => z (.inl q)) (fun q => z (.inr q)) e
  th := fun u x e => by
    by_cases h1 : u = b
    · rw [h1]
      exact d.st.gb
    by_cases h2 : u = h
    · rw [h2]
      exact d.st.gh
    exact ⟨x, d.hh u x h1 h2 e⟩
  nw := fun u x e z => z
theorem W2.nb1 (x : W2 b h G H) (t : Gr A G H G1 H1) : G1 b = none := by
  obtain ⟨o, e⟩ := x.st.gb
  exact t.nw b _ e x.nb
theorem W2.nh1 (x : W2 b h G H) (t : Gr A G H G1 H1) : G1 h = none := by
  obtain ⟨o, e⟩ := x.st.gh
  exact t.nw h _ e x.nh
theorem W2.step (x : W2 b h G H) (t : Gr (A2 b h) G H G1 H1) (s : Bx H1 b h) : W2 b h G1 H1 := ⟨t.gh, x.nb1 t, x.nh1 t, s⟩
theorem W2.pure (x : W2 b h G H) (t : Gr A0 G H G1 H1) : W2 b h G1 H1 := ⟨t.gh, x.nb1 t, x.nh1 t, x.st.up t.same⟩
theorem W2.ex (x : W2 b h G H) (e : Ex H H1) : W2 b h G H1 := ⟨x.g.trans e, x.nb, x.nh, x.st.up e⟩
theorem W2.gdr (x : W2 b h G H) (d : Dr2 b h H H1) : Gr (A2 b h) G H G H1 := Dr2.gr x.g x.nb x.nh x.st d
theorem W2.dr (x : W2 b h G H) (d : Dr2 b h H H1) : W2 b h G H1 := x.step (x.gdr d) d.st
end
def spPick : Sp := fun vs H Q _ => ∃ (b h : Addr) (n : Int), vs = [.ref b, .int n] ∧ Bx H b h ∧ 0 < n ∧ n ≤ 1000 ∧ ∀ (d : Int) H', 0 ≤ d → d < n → Dr2 b h H H' → Q (.int d) H'
def spDraws (K : PySem.W.Frag) : Sp := fun vs H Q _ => ∃ (s : Addr) (ns : List Int), vs = [.ref s] ∧ SqL K H s (ns.map V.int) ∧ ns.length ≤ 63 ∧ ∀ b h H', Ex H H' → H b = none → H h = none → Bx H' b h → Q (.ref b) H'
def spSay : Sp := fun vs H Q _ => ∃ (b h : Addr) (n : Int), vs = [.ref b, .int n] ∧ Bx H b h ∧ 0 < n ∧ n ≤ 100 ∧ ∀ (t : Str) H', 0 < t.length → (t.length : Int) ≤ n → Dr2 b h H H' → Q (.str t) H'
theorem nat31 {z : Int} (h0 : 0 ≤ z) (h : z < M31) : z.natAbs < 2 ^ 31 := by
  unfold M31 at h
  have e : (2 : Nat) ^ 31 = 2147483648 := by decide
  omega
theorem mix31 (e : Int) : 0 ≤ e % M31 ∧ e % M31 < M31 := ⟨Int.emod_nonneg _ (by decide), Int.emod_lt_of_pos _ (by decide)⟩
/-! ### signs -/
/-- a sign's two numbers -/
def SgV (G : Hp) (v : V) (x : Tl.Sg) : Prop := ∃ p, v = .ref p ∧ G p = some (.tup [.int (x.1 : Nat), .int (x.2 : Nat)])
theorem SgV.up {G G' : Hp} {v : V} {x : Tl.Sg} (e : Ex G G') (h : SgV G v x) : SgV G' v x := h.imp fun _ z => ⟨z.1, e _ _ z.2⟩
abbrev sgD (x : Tl.Sg) : PyData := .tuple [.int (x.1 : Nat), .int (x.2 : Nat)]
theorem SgV.dp {K : PySem.W.Frag} {G : Hp} {v : V} {x : Tl.Sg} (h : SgV G v x) : Dp K G v (sgD x) := by
  obtain ⟨p, rfl, hp⟩ := h
  exact .tup (sqT hp) (.cons (.int _) (.cons (.int _) .nil))
theorem sg_shaped (x : Tl.Sg) : SeqAt.shaped (sgD x) = true := by
  rfl
theorem sg_eqv (x y : Tl.Sg) : PyData.eqv (sgD x) (sgD y) = decide (x = y) := by
  obtain ⟨a, b⟩ := x
  obtain ⟨c, d⟩ := y
  show (PyData.eqv (.int a) (.int c) && (PyData.eqv (.int b) (.int d) && true)) = _
  show (((a : Int) == c) && (((b : Int) == d) && true)) = _
  rw [Bool.eq_iff_iff]
  simp
  omega
theorem r_eqSg {K : PySem.W.Frag} {H : Hp} {Q : VK} {v w : V} {x y : Tl.Sg} (h1 : SgV H v x) (h2 : SgV H w y) (q : Q (.bl (decide (x = y))) H) : rEqU K v w H Q :=
  .inr ⟨_, _, h1.dp, h2.dp, sg_shaped x, sg_shaped y, by rw [sg_eqv]; exact q⟩
/-! ### two lists side by side -/
inductive P2 {α β : Type} (R : α → β → Prop) : List α → List β → Prop where
  | nil : P2 R [] []
  | cons {a : α} {b : β} {l : List α} {m : List β} (h : R a b) (t : P2 R l m) : P2 R (a :: l) (b :: m)
section
variable {α β : Type} {R S : α → β → Prop} {l l' : List α} {m m' : List β}
theorem P2.len (h : P2 R l m) : l.length = m.length := by
  induction h with
  | nil => rfl
  | cons h t ih => rw [List.length_cons, List.length_cons, ih]
theorem P2.get (h : P2 R l m) : ∀ {i : Nat} {a : α}, l[i]? = some a → ∃ b, m[i]? = some b ∧ R a b := by
  induction h with
  | nil => intro i a e; simp at e
  | @cons a b l m h t ih =>
    intro i x e
    cases i with
    | zero => exact ⟨b, rfl, by simp at e; exact e ▸ h⟩
    | succ i =>
      simp at e
      simpa using ih e
theorem P2.get' (h : P2 R l m) : ∀ {i : Nat} {b : β}, m[i]? = some b → ∃ a, l[i]? = some a ∧ R a b := by
  induction h with
  | nil => intro i a e; simp at e
  | @cons a b l m h t ih =>
    intro i x e
    cases i with
    | zero => exact ⟨a, rfl, by simp at e; exact e ▸ h⟩
    | succ i =>
      simp at e
      simpa using ih e
theorem P2.imp (h : P2 R l m) (k : ∀ a b, R a b → S a b) : P2 S l m := by
  induction h with
  | nil => exact .nil
  | cons h t ih => exact .cons (k _ _ h) ih
theorem P2.app (h : P2 R l m) (h' : P2 R l' m') : P2 R (l ++ l') (m ++ m') := by
  induction h with
  | nil => exact h'
  | cons h t ih => exact .cons h ih
theorem P2.snoc {a : α} {b : β} (h : P2 R l m) (k : R a b) : P2 R (l ++ [a]) (m ++ [b]) := h.app (.cons k .nil)
theorem P2.take (h : P2 R l m) : ∀ n, P2 R (l.take n) (m.take n) := by
  induction h with
  | nil => intro n; simp; exact .nil
  | cons h t ih =>
    intro n
    cases n with
    | zero => exact .nil
    | succ n => exact .cons h (ih n)
theorem P2.drop (h : P2 R l m) : ∀ n, P2 R (l.drop n) (m.drop n) := by
  induction h with
  | nil => intro n; simp; exact .nil
  | cons h t ih =>
    intro n
    cases n with
    | zero => exact .cons h t
    | succ n => exact ih n
end
theorem P2.join {α β γ : Type} {R : α → γ → Prop} {S : β → γ → Prop} {U : α → β → Prop} {l : List α} {m : List β} {n : List γ} (h : P2 R l n) (k : ∀ a b c, R a c → S b c → U a b) (g : P2 S m n) : P2 U l m := by
  induction h generalizing m with
  | nil => cases g; exact .nil
  | cons h t ih => cases g with
    | cons h' t' => exact .cons (k _ _ _ h h') (ih t')
/-- a list of signs -/
abbrev SgL (G : Hp) : List V → List Tl.Sg → Prop := P2 (SgV G)
theorem SgL.up {G G' : Hp} {l : List V} {m : List Tl.Sg} (e : Ex G G') (h : SgL G l m) : SgL G' l m := h.imp fun _ _ z => z.up e
theorem SgL.dps {K : PySem.W.Frag} {G : Hp} {l : List V} {m : List Tl.Sg} (h : SgL G l m) : DpAll K G l (m.map sgD) := by
  induction h with
  | nil => exact .nil
  | cons h t ih => exact .cons h.dp ih
theorem sgs_shaped (m : List Tl.Sg) : SeqAt.shaped (.list (m.map sgD)) = true := by
  have key : PyData.canLayAll0 (m.map sgD) = true ∧ PyData.depthAll (m.map sgD) ≤ 2 := by
    induction m with
    | nil => exact ⟨rfl, by decide⟩
    | cons x r ih =>
      refine ⟨?_, ?_⟩
      · show ((sgD x).canLay0 && PyData.canLayAll0 (r.map sgD)) = true
        rw [ih.1]
        rfl
      · show max (sgD x).depth (PyData.depthAll (r.map sgD)) ≤ 2
        have e : (sgD x).depth ≤ 2 := by simp [sgD, PyData.depth, PyData.depthAll]
        omega
  show (PyData.canLayAll0 (m.map sgD) && decide (_ ≤ 64)) = true
  rw [key.1]
  have e : (PyData.list (m.map sgD)).depth = PyData.depthAll (m.map sgD) + 1 := by first | rfl | exact Nat.add_comm _ _
  show decide (_ ≤ 64) = true
  rw [decide_eq_true_iff, e]
  omega
/-- l.index(x), l a list of signs -/
theorem r_indexSg {K : PySem.W.Frag} {H : Hp} {Q : VK} {a : Addr} {xs : List V} {v : V} {m : List Tl.Sg} {x : Tl.Sg} {j : Nat} (hl : SqL K H a xs) (hm : SgL H xs m) (hv : SgV H v x) (hj : m[j]? = some x) (hno : ∀ i, i < j → m[i]? ≠ some x) (q : Q (.int (j : Nat)) H) :
    rIndexD K (.ref a) [v] H Q := by
  refine ⟨a, v, sgD x, m.map sgD, j, sgD x, rfl, rfl, .lst hl hm.dps, hv.dp, sgs_shaped m, sg_shaped x, by rw [List.getElem?_map, hj]; rfl, by rw [sg_eqv]; simp, fun i z hi hz => ?_, q⟩
  rw [List.getElem?_map] at hz
  obtain ⟨y, hy, rfl⟩ := Option.map_eq_some_iff.mp hz
  rw [sg_eqv]
  refine decide_eq_false fun e => hno i hi ?_
  rw [hy, e]
end Dk
namespace Tl
/-! ### hops -/
inductive Hps (L R : Nat → Sg) : Sg → Sg → List (Sg × Sg) → Prop where
  | stop {x y : Sg} (h : x.1 = y.1) : Hps L R x y [(x, y)]
  | rgo {x y : Sg} {hs : List (Sg × Sg)} (h : y.1 < x.1) (t : Hps L R (R x.1) y hs) : Hps L R x y ((x, y) :: hs)
  | lgo {x y : Sg} {hs : List (Sg × Sg)} (h : x.1 < y.1) (t : Hps L R x (L y.1) hs) : Hps L R x y ((x, y) :: hs)
section
variable {L R : Nat → Sg} {x y : Sg} {hs hs' : List (Sg × Sg)}
theorem Hps.det (h : Hps L R x y hs) : ∀ {hs'}, Hps L R x y hs' → hs = hs' := by
  induction h with
  | stop h => intro hs' g; cases g with
    | stop _ => rfl
    | rgo k _ => omega
    | lgo k _ => omega
  | rgo h t ih => intro hs' g; cases g with
    | stop k => omega
    | rgo _ t' => rw [ih t']
    | lgo k _ => omega
  | lgo h t ih => intro hs' g; cases g with
    | stop k => omega
    | rgo k _ => omega
    | lgo _ t' => rw [ih t']
theorem E.iff_le {x y : Sg} (h : x.1 = y.1) : E L R x y ↔ x.2 ≤ y.2 := by
  unfold E
  rw [A.same_iff h]
  constructor
  · rintro (rfl | h) <;> omega
  · intro h2
    by_cases e : x.2 = y.2
    · exact .inl (Prod.ext h e)
    · exact .inr (by omega)
theorem E.iff_A {x y : Sg} (h : x.1 ≠ y.1) : E L R x y ↔ A L R x y := ⟨fun e => e.elim (fun z => absurd (congrArg Prod.fst z) h) id, .inr⟩
theorem Hps.last (h : Hps L R x y hs) : ∃ l r pre, hs = pre ++ [(l, r)] ∧ (E L R x y ↔ l.2 ≤ r.2) ∧ (A L R x y ↔ l.2 < r.2 ∨ (l.2 = r.2 ∧ 1 < hs.length)) := by
  induction h with
  | @stop x y h =>
    refine ⟨x, y, [], rfl, E.iff_le h, ?_⟩
    rw [A.same_iff h]
    simp
  | @rgo x y hs h t ih =>
    obtain ⟨l, r, pre, rfl, h1, h2⟩ := ih
    have e : E L R x y ↔ l.2 ≤ r.2 := by rw [E.iff_A (by omega), A.r_iff h]; exact h1
    refine ⟨l, r, (x, y) :: pre, rfl, e, ?_⟩
    rw [A.r_iff h, h1]
    simp
    omega
  | @lgo x y hs h t ih =>
    obtain ⟨l, r, pre, rfl, h1, h2⟩ := ih
    have e : E L R x y ↔ l.2 ≤ r.2 := by rw [E.iff_A (by omega), A.l_iff h]; exact h1
    refine ⟨l, r, (x, y) :: pre, rfl, e, ?_⟩
    rw [A.l_iff h, h1]
    simp
    omega
end
end Tl
namespace Tl
section
variable {L R : Nat → Sg} {sz : Nat → Nat} {n : Nat} {x y : Sg}
theorem ps_of_mark {j : Nat} (h : (marks sz n)[j]? = some x) : ps sz x = j := by
  have hj := (List.getElem?_eq_some_iff.mp h).1
  rw [marks_len] at hj
  obtain ⟨y, oy, e⟩ := sign_at hj
  have z := marks_at oy
  rw [e, h] at z
  rw [Option.some.inj z]
  exact e
theorem mark_first (o : Ok sz n x) : (marks sz n)[ps sz x]? = some x ∧ ∀ i, i < ps sz x → (marks sz n)[i]? ≠ some x :=
  ⟨marks_at o, fun i hi e => by
    have z := ps_of_mark e
    omega⟩
theorem off_le (h0 : sz 0 ≤ 2) (h : ∀ c, 0 < c → c < n → sz c ≤ 3) : ∀ m, m ≤ n → off sz m ≤ 3 * m
  | 0, _ => Nat.le_refl _
  | m + 1, hm => by
    have z := off_le h0 h m (by omega)
    show off sz m + sz m ≤ _
    by_cases e : m = 0
    · subst e
      omega
    · have := h m (by omega) (by omega)
      omega
theorem Ok.mono {m : Nat} (o : Ok sz n x) (h : n ≤ m) : Ok sz m x := ⟨Nat.lt_of_lt_of_le o.1 h, o.2⟩
theorem marks_one (h : sz 0 = 2) : marks sz 1 = [(0, 0), (0, 1)] := by
  show [] ++ rowOf sz 0 = _
  unfold rowOf
  rw [h]
  rfl
theorem bit_same {T : List Nat} {e : Nat × Nat} (h : put T e = T) (hl : e.1 < T.length) : ∀ c, c = e.2 ∨ Bit T e.2 c → Bit T e.1 c := fun c hc => by
  have z := (bit_put (T := T) hl (a := e.1) (b := c)).mpr (.inr ⟨rfl, hc⟩)
  rw [h] at z
  exact z
theorem put_eq {T : List Nat} {e : Nat × Nat} (hl : e.1 < T.length) (h : T.getD e.1 0 ||| 1 <<< e.2 ||| T.getD e.2 0 = T.getD e.1 0) : put T e = T := by
  unfold put
  rw [h]
  refine List.ext_getElem? fun i => ?_
  rw [List.getElem?_set]
  split
  · rename_i hi
    subst hi
    rw [List.getD_eq_getElem?_getD, List.getElem?_eq_getElem hl]
    rfl
  · rfl
theorem lap_snoc {S : List (Nat × Nat)} {T : List Nat} {e : Nat × Nat} : lap (S ++ [e]) T = put (lap S T) e := by
  unfold lap
  rw [List.foldl_append]
  rfl
/-! ### what is behind, what is ahead -/
def bh (T : List Nat) (j : Nat) : List Nat := (List.range T.length).filter fun k => (T.getD j 0).testBit k
def ah (T : List Nat) (j : Nat) : List Nat := (List.range T.length).filter fun k => (T.getD k 0).testBit j
def cl (T : List Nat) (j : Nat) : List Nat := (bh T j).filter fun k => ((bh T j).filter fun m => (T.getD m 0).testBit k).isEmpty
theorem mem_bh {T : List Nat} {j k : Nat} : k ∈ bh T j ↔ k < T.length ∧ Bit T j k := by
  unfold bh Bit
  rw [List.mem_filter, List.mem_range]
theorem mem_ah {T : List Nat} {j k : Nat} : k ∈ ah T j ↔ k < T.length ∧ Bit T k j := by
  unfold ah Bit
  rw [List.mem_filter, List.mem_range]
theorem cl_sub {T : List Nat} {j k : Nat} (h : k ∈ cl T j) : k ∈ bh T j := (List.mem_filter.mp h).1
/-- a row with a strict order has a least one -/
theorem least {lt : Nat → Nat → Prop} : ∀ (l : List Nat), l ≠ [] → (∀ a ∈ l, ∀ b ∈ l, ∀ c ∈ l, lt a b → lt b c → lt a c) → (∀ a ∈ l, ¬ lt a a) → ∃ k ∈ l, ∀ m ∈ l, ¬ lt m k := by
  intro l
  induction l with
  | nil => intro h; exact absurd rfl h
  | cons x r ih =>
    intro _ tr ir
    by_cases hr : r = []
    · subst hr
      refine ⟨x, List.mem_cons_self .., fun m hm => ?_⟩
      rw [List.mem_singleton.mp hm]
      exact ir x (List.mem_cons_self ..)
    · obtain ⟨k, hk, hm⟩ := ih hr (fun a ha b hb c hc => tr a (List.mem_cons_of_mem _ ha) b (List.mem_cons_of_mem _ hb) c (List.mem_cons_of_mem _ hc)) (fun a ha => ir a (List.mem_cons_of_mem _ ha))
      have hk' := List.mem_cons_of_mem x hk
      by_cases hx : lt x k
      · refine ⟨x, List.mem_cons_self .., fun m hm' hl => ?_⟩
        rcases List.mem_cons.mp hm' with rfl | hm2
        · exact ir _ (List.mem_cons_self ..) hl
        · exact hm m hm2 (tr m hm' x (List.mem_cons_self ..) k hk' hl hx)
      · refine ⟨k, hk', fun m hm' hl => ?_⟩
        rcases List.mem_cons.mp hm' with rfl | hm2
        · exact hx hl
        · exact hm m hm2 hl
theorem Tells.bit_lt {T : List Nat} (t : Tells L R sz n T) {a b : Nat} (ha : a < T.length) (hb : b < T.length) : ∃ x y, Ok sz n x ∧ Ok sz n y ∧ ps sz x = a ∧ ps sz y = b ∧ (Bit T a b ↔ A L R x y) := by
  rw [t.1] at ha hb
  obtain ⟨x, hx, rfl⟩ := sign_at ha
  obtain ⟨y, hy, rfl⟩ := sign_at hb
  exact ⟨x, y, hx, hy, rfl, rfl, t.2 x y hx hy⟩
theorem Tells.cl_ne {T : List Nat} (w : Wv L R sz n) (t : Tells L R sz n T) {j : Nat} (hj : j < T.length) (h : bh T j ≠ []) : cl T j ≠ [] := by
  obtain ⟨k, hk, hm⟩ := least (lt := fun a b => Bit T a b) (bh T j) h (fun a ha b hb c hc h1 h2 => by
    obtain ⟨x, y, ox, oy, ex, ey, i1⟩ := t.bit_lt (mem_bh.mp ha).1 (mem_bh.mp hb).1
    obtain ⟨y', z, oy', oz, ey', ez, i2⟩ := t.bit_lt (mem_bh.mp hb).1 (mem_bh.mp hc).1
    have e := ps_inj oy' oy (ey'.trans ey.symm)
    subst e
    have a3 := w.tr ox.1 oy.1 oz.1 (i1.mp h1) (i2.mp h2)
    have z := (t.2 x z ox oz).mpr a3
    rw [ex, ez] at z
    exact z) (fun a ha h1 => by
    obtain ⟨x, y, ox, oy, ex, ey, i1⟩ := t.bit_lt (mem_bh.mp ha).1 (mem_bh.mp ha).1
    have e := ps_inj ox oy (ex.trans ey.symm)
    subst e
    exact A.irr (i1.mp h1))
  refine List.ne_nil_of_mem (a := k) (List.mem_filter.mpr ⟨hk, ?_⟩)
  rw [List.isEmpty_iff, List.filter_eq_nil_iff]
  exact fun m hm' hb => hm m hm' hb
theorem Tells.bh0 {T : List Nat} (w : Wv L R sz n) (t : Tells L R sz n T) : bh T 0 ≠ [] ∧ 1 < T.length := by
  have n0 := w.n0
  have o0 : Ok sz n (0, 0) := ⟨n0, by show 0 < sz 0; rw [w.s0]; decide⟩
  have o1 : Ok sz n (0, 1) := ⟨n0, by show 1 < sz 0; rw [w.s0]; decide⟩
  have h1 := ps_lt o1
  have e1 : ps sz (0, 1) = 1 := rfl
  rw [e1, ← t.1] at h1
  have b : Bit T 0 1 := (t.2 (0, 0) (0, 1) o0 o1).mpr (.same rfl (by decide))
  exact ⟨List.ne_nil_of_mem (a := 1) (mem_bh.mpr ⟨h1, b⟩), h1⟩
end
end Tl
namespace Tl
theorem steps_le {L R : Nat → Sg} {sz : Nat → Nat} {n : Nat} (w : Wv L R sz n) : ∀ m, m < n → (steps L R sz m).length ≤ off sz (m + 1) + m
  | 0, _ => by
    show 1 ≤ (off sz 0 + sz 0) + 0
    rw [w.s0]
    show 1 ≤ 0 + 2 + 0
    omega
  | m + 1, h => by
    have z := steps_le w m (by omega)
    have s := w.s1 (m + 1) (by omega) h
    show (steps L R sz m ++ stepsOf L R sz (m + 1)).length ≤ (off sz (m + 1) + sz (m + 1)) + (m + 1)
    rw [List.length_append]
    have e : (stepsOf L R sz (m + 1)).length = sz (m + 1) - 1 + 2 := by
      unfold stepsOf
      simp
    rw [e]
    omega
end Tl
namespace Tl
def upn {α : Type} (f : Nat → α) (n : Nat) (x : α) : Nat → α := fun k => if k = n then x else f k
theorem upd_at {α : Type} {f : Nat → α} {n : Nat} {x : α} : upn f n x n = x := if_pos rfl
theorem upn_ne {α : Type} {f : Nat → α} {n k : Nat} {x : α} (h : k < n) : upn f n x k = f k := if_neg (by omega)
section
variable {L R : Nat → Sg} {sz : Nat → Nat} {n s : Nat} {x y : Sg}
theorem Wv.congrUp (w : Wv L R sz n) {u v : Sg} (hu : u.1 < n) (hv : v.1 < n) (a : A L R u v) : A (upn L n x) (upn R n y) u v :=
  A.congr (n := n) (fun c _ h => (upn_ne h).symm) (fun c _ h => (upn_ne h).symm) (fun c h0 h => ⟨w.l c h0 h, w.r c h0 h⟩) a hu hv
theorem Wv.step (w : Wv L R sz n) (ox : Ok sz n x) (oy : Ok sz n y) (a : A L R x y) (s0 : 0 < s) : Wv (upn L n x) (upn R n y) (upn sz n s) (n + 1) := by
  have n0 := w.n0
  have cs : ∀ c, c < n + 1 → c < n ∨ c = n := fun c h => by omega
  refine { l := fun c h0 h => ?_, r := fun c h0 h => ?_, lr := fun c h0 h => ?_, n0 := by omega, s0 := ?_, s1 := fun c h0 h => ?_, lo := fun c h0 h => ?_, ro := fun c h0 h => ?_ }
  · rcases cs c h with h | rfl
    · rw [upn_ne h]; exact w.l c h0 h
    · rw [upd_at]; exact ox.1
  · rcases cs c h with h | rfl
    · rw [upn_ne h]; exact w.r c h0 h
    · rw [upd_at]; exact oy.1
  · rcases cs c h with h | rfl
    · rw [upn_ne h, upn_ne h]
      exact w.congrUp (Nat.lt_trans (w.l c h0 h) h) (Nat.lt_trans (w.r c h0 h) h) (w.lr c h0 h)
    · rw [upd_at, upd_at]
      exact w.congrUp ox.1 oy.1 a
  · rw [upn_ne n0]; exact w.s0
  · rcases cs c h with h | rfl
    · rw [upn_ne h]; exact w.s1 c h0 h
    · rw [upd_at]; exact s0
  · rcases cs c h with h | rfl
    · rw [upn_ne h, upn_ne (Nat.lt_trans (w.l c h0 h) h)]; exact w.lo c h0 h
    · rw [upd_at, upn_ne ox.1]; exact ox.2
  · rcases cs c h with h | rfl
    · rw [upn_ne h, upn_ne (Nat.lt_trans (w.r c h0 h) h)]; exact w.ro c h0 h
    · rw [upd_at, upn_ne oy.1]; exact oy.2
theorem Wv.one : Wv (fun _ => (0, 0)) (fun _ => (0, 1)) (fun _ => 2) 1 :=
  { l := fun c h0 h => by omega, r := fun c h0 h => by omega, lr := fun c h0 h => by omega, n0 := by omega, s0 := rfl, s1 := fun c h0 h => by omega, lo := fun c h0 h => by omega, ro := fun c h0 h => by omega }
end
end Tl
namespace Tl
section
variable {L R : Nat → Sg} {sz : Nat → Nat} {n s : Nat} {x y l r : Sg} {X Y : List Sg}
/-- a row in the order -/
def Srt (L R : Nat → Sg) (row : List Sg) : Prop := row.Pairwise (A L R)
theorem Srt.step (w : Wv L R sz n) (ok : ∀ u ∈ X ++ l :: r :: Y, Ok sz n u) (h : Srt L R (X ++ l :: r :: Y)) : Srt (upn L n l) (upn R n r) (X ++ l :: (n, 0) :: r :: Y) := by
  unfold Srt at *
  have up : ∀ {u v}, u ∈ X ++ l :: r :: Y → v ∈ X ++ l :: r :: Y → A L R u v → A (upn L n l) (upn R n r) u v := fun hu hv a => w.congrUp (ok _ hu).1 (ok _ hv).1 a
  rw [List.pairwise_append] at h ⊢
  obtain ⟨h1, h2, h3⟩ := h
  rw [List.pairwise_cons] at h2
  obtain ⟨h4, h5⟩ := h2
  rw [List.pairwise_cons] at h5
  obtain ⟨h6, h7⟩ := h5
  have mX : ∀ {u}, u ∈ X → u ∈ X ++ l :: r :: Y := fun h => List.mem_append_left _ h
  have mY : ∀ {u}, u ∈ Y → u ∈ X ++ l :: r :: Y := fun h => List.mem_append_right _ (List.mem_cons_of_mem _ (List.mem_cons_of_mem _ h))
  have ml : l ∈ X ++ l :: r :: Y := List.mem_append_right _ (List.mem_cons_self ..)
  have mr : r ∈ X ++ l :: r :: Y := List.mem_append_right _ (List.mem_cons_of_mem _ (List.mem_cons_self ..))
  have lo : ∀ {u}, u ∈ X ++ l :: r :: Y → E (upn L n l) (upn R n r) u l → A (upn L n l) (upn R n r) u (n, 0) := fun hu e => (A.l_iff (ok _ hu).1).mpr (by
    show E _ _ _ (upn L n l n)
    rw [upd_at]
    exact e)
  have hi : ∀ {u}, u ∈ X ++ l :: r :: Y → E (upn L n l) (upn R n r) r u → A (upn L n l) (upn R n r) (n, 0) u := fun hu e => (A.r_iff (ok _ hu).1).mpr (by
    show E _ _ (upn R n r n) _
    rw [upd_at]
    exact e)
  refine ⟨h1.imp_of_mem fun ha hb a => up (mX ha) (mX hb) a, ?_, fun a ha b hb => ?_⟩
  · rw [List.pairwise_cons, List.pairwise_cons, List.pairwise_cons]
    refine ⟨fun a ha => ?_, fun a ha => ?_, fun a ha => up mr (mY ha) (h6 a ha), h7.imp_of_mem fun ha hb a => up (mY ha) (mY hb) a⟩
    · rcases List.mem_cons.mp ha with rfl | ha
      · exact lo ml (.inl rfl)
      · rcases List.mem_cons.mp ha with rfl | ha
        · exact up ml mr (h4 _ (List.mem_cons_self ..))
        · exact up ml (mY ha) (h4 _ (List.mem_cons_of_mem _ ha))
    · rcases List.mem_cons.mp ha with rfl | ha
      · exact hi mr (.inl rfl)
      · exact hi (mY ha) (.inr (up mr (mY ha) (h6 a ha)))
  · rcases List.mem_cons.mp hb with rfl | hb
    · exact up (mX ha) ml (h3 a ha _ (List.mem_cons_self ..))
    · rcases List.mem_cons.mp hb with rfl | hb
      · exact lo (mX ha) (.inr (up (mX ha) ml (h3 a ha _ (List.mem_cons_self ..))))
      · rcases List.mem_cons.mp hb with rfl | hb
        · exact up (mX ha) mr (h3 a ha _ (List.mem_cons_of_mem _ (List.mem_cons_self ..)))
        · exact up (mX ha) (mY hb) (h3 a ha _ (List.mem_cons_of_mem _ (List.mem_cons_of_mem _ hb)))
theorem Srt.lt {row : List Sg} (h : Srt L R row) {i j : Nat} {x y : Sg} (hi : row[i]? = some x) (hj : row[j]? = some y) (hij : i < j) : A L R x y := by
  obtain ⟨h1, rfl⟩ := List.getElem?_eq_some_iff.mp hi
  obtain ⟨h2, rfl⟩ := List.getElem?_eq_some_iff.mp hj
  exact List.pairwise_iff_getElem.mp h i j h1 h2 hij
theorem Srt.iff {row : List Sg} (w : Wv L R sz n) (ok : ∀ u ∈ row, Ok sz n u) (h : Srt L R row) {i j : Nat} {x y : Sg} (hi : row[i]? = some x) (hj : row[j]? = some y) : (A L R x y ↔ i < j) ∧ (E L R x y ↔ i ≤ j) := by
  have ox := ok x (List.mem_of_getElem? hi)
  have oy := ok y (List.mem_of_getElem? hj)
  rcases Nat.lt_trichotomy i j with hij | rfl | hij
  · have a := h.lt hi hj hij
    exact ⟨⟨fun _ => hij, fun _ => a⟩, fun _ => by omega, fun _ => .inr a⟩
  · rw [hi] at hj
    obtain rfl := Option.some.inj hj
    exact ⟨⟨fun a => absurd a A.irr, fun z => by omega⟩, fun _ => by omega, fun _ => .inl rfl⟩
  · have a := h.lt hj hi hij
    have no : ¬ A L R x y := fun b => A.irr (w.tr ox.1 oy.1 ox.1 b a)
    refine ⟨⟨fun b => absurd b no, fun z => by omega⟩, fun e => ?_, fun z => by omega⟩
    rcases e with rfl | e
    · exact absurd a A.irr
    · exact absurd e no
end
end Tl
namespace Tl
/-! ### meets and joins, by going down -/
section
variable (L R : Nat → Sg)
/-- the meet as the point finds it -/
inductive Mt : Sg → Sg → Sg → Prop where
  | same {x y : Sg} (h : x.1 = y.1) : Mt x y (if y.2 < x.2 then y else x)
  | rTop {x y : Sg} (h : y.1 < x.1) (a : A L R x y) : Mt x y x
  | rGo {x y m : Sg} (h : y.1 < x.1) (a : ¬ A L R x y) (t : Mt y (L x.1) m) : Mt x y m
  | lTop {x y : Sg} (h : x.1 < y.1) (a : A L R y x) : Mt x y y
  | lGo {x y m : Sg} (h : x.1 < y.1) (a : ¬ A L R y x) (t : Mt x (L y.1) m) : Mt x y m
inductive Jn : Sg → Sg → Sg → Prop where
  | same {x y : Sg} (h : x.1 = y.1) : Jn x y (if x.2 < y.2 then y else x)
  | rTop {x y : Sg} (h : y.1 < x.1) (a : A L R y x) : Jn x y x
  | rGo {x y m : Sg} (h : y.1 < x.1) (a : ¬ A L R y x) (t : Jn y (R x.1) m) : Jn x y m
  | lTop {x y : Sg} (h : x.1 < y.1) (a : A L R x y) : Jn x y y
  | lGo {x y m : Sg} (h : x.1 < y.1) (a : ¬ A L R x y) (t : Jn x (R y.1) m) : Jn x y m
end
section
variable {L R : Nat → Sg} {n : Nat} {x y z m : Sg}
theorem E.iff_A' {x y : Sg} (h : x.1 ≠ y.1) : E L R x y ↔ A L R x y := ⟨fun e => e.elim (fun z => absurd (congrArg Prod.fst z) h) id, .inr⟩
theorem E.iff_le' {x y : Sg} (h : x.1 = y.1) : E L R x y ↔ x.2 ≤ y.2 := by
  unfold E
  rw [A.same_iff h]
  constructor
  · rintro (rfl | h) <;> omega
  · intro h2
    by_cases e : x.2 = y.2
    · exact .inl (Prod.ext h e)
    · exact .inr (by omega)
theorem Bs.etr (b : Bs L R n) (hx : x.1 < n) (hy : y.1 < n) (hz : z.1 < n) (e1 : E L R x y) (e2 : E L R y z) : E L R x z := by
  rcases e1 with rfl | e1
  · exact e2
  · rcases e2 with rfl | e2
    · exact .inr e1
    · exact .inr (b.tr hx hy hz e1 e2)
theorem Bs.anti (b : Bs L R n) (hx : x.1 < n) (hy : y.1 < n) (e1 : E L R x y) (e2 : E L R y x) : x = y := by
  rcases e1 with rfl | e1
  · rfl
  · rcases e2 with rfl | e2
    · rfl
    · exact absurd (b.tr hx hy hx e1 e2) A.irr
/-- what is at or ahead of both lies at or ahead of the left of the greater chunk, where that chunk's sign is not ahead of the other one -/
theorem Bs.down (b : Bs L R n) (hx : x.1 < n) (hy : y.1 < n) (h : x.1 < y.1) (na : ¬ A L R y x) : ∀ k, ∀ z : Sg, z.1 < k → z.1 < n → E L R z x → E L R z y → E L R z (L y.1) := by
  intro k
  induction k with
  | zero => intro z hz; omega
  | succ k ih =>
    intro z hk hz e1 e2
    rcases Nat.lt_trichotomy z.1 y.1 with hzy | hzy | hzy
    · exact (A.l_iff hzy).mp ((E.iff_A' (by omega)).mp e2)
    · exfalso
      have a1 := (E.iff_A' (x := z) (y := x) (by omega)).mp e1
      have e3 := (A.r_iff (by omega)).mp a1
      rw [hzy] at e3
      exact na ((A.r_iff h).mpr e3)
    · have hr := b.r z.1 (by omega) hz
      have hl := b.l y.1 (by omega) hy
      have e3 := (A.r_iff (by omega)).mp ((E.iff_A' (x := z) (y := x) (by omega)).mp e1)
      have e4 := (A.r_iff (by omega)).mp ((E.iff_A' (x := z) (y := y) (by omega)).mp e2)
      have e5 := ih (R z.1) (by omega) (by omega) e3 e4
      exact .inr ((A.r_iff (by omega)).mpr e5)
theorem Bs.rise (b : Bs L R n) (hx : x.1 < n) (hy : y.1 < n) (h : x.1 < y.1) (na : ¬ A L R x y) : ∀ k, ∀ z : Sg, z.1 < k → z.1 < n → E L R x z → E L R y z → E L R (R y.1) z := by
  intro k
  induction k with
  | zero => intro z hz; omega
  | succ k ih =>
    intro z hk hz e1 e2
    rcases Nat.lt_trichotomy z.1 y.1 with hzy | hzy | hzy
    · exact (A.r_iff hzy).mp ((E.iff_A' (by omega)).mp e2)
    · exfalso
      have a1 := (E.iff_A' (x := x) (y := z) (by omega)).mp e1
      have e3 := (A.l_iff (by omega)).mp a1
      rw [hzy] at e3
      exact na ((A.l_iff h).mpr e3)
    · have hl := b.l z.1 (by omega) hz
      have hr := b.r y.1 (by omega) hy
      have e3 := (A.l_iff (by omega)).mp ((E.iff_A' (x := x) (y := z) (by omega)).mp e1)
      have e4 := (A.l_iff (by omega)).mp ((E.iff_A' (x := y) (y := z) (by omega)).mp e2)
      have e5 := ih (L z.1) (by omega) (by omega) e3 e4
      exact .inr ((A.l_iff (by omega)).mpr e5)
/-- the greatest sign at or ahead of both -/
def Glb (L R : Nat → Sg) (n : Nat) (x y m : Sg) : Prop := m.1 < n ∧ E L R m x ∧ E L R m y ∧ ∀ z : Sg, z.1 < n → E L R z x → E L R z y → E L R z m
def Lub (L R : Nat → Sg) (n : Nat) (x y m : Sg) : Prop := m.1 < n ∧ E L R x m ∧ E L R y m ∧ ∀ z : Sg, z.1 < n → E L R x z → E L R y z → E L R m z
theorem Glb.comm (g : Glb L R n x y m) : Glb L R n y x m := ⟨g.1, g.2.2.1, g.2.1, fun z hz a b => g.2.2.2 z hz b a⟩
theorem Lub.comm (g : Lub L R n x y m) : Lub L R n y x m := ⟨g.1, g.2.2.1, g.2.1, fun z hz a b => g.2.2.2 z hz b a⟩
theorem Bs.left (b : Bs L R n) (hy : y.1 < n) (h0 : 0 < y.1) : E L R (L y.1) y := .inr ((A.l_iff (b.l _ h0 hy)).mpr (.inl rfl))
theorem Bs.right (b : Bs L R n) (hy : y.1 < n) (h0 : 0 < y.1) : E L R y (R y.1) := .inr ((A.r_iff (b.r _ h0 hy)).mpr (.inl rfl))
theorem Glb.go (b : Bs L R n) (hx : x.1 < n) (hy : y.1 < n) (h : x.1 < y.1) (na : ¬ A L R y x) (g : Glb L R n x (L y.1) m) : Glb L R n x y m :=
  ⟨g.1, g.2.1, b.etr g.1 (Nat.lt_trans (b.l _ (by omega) hy) hy) hy g.2.2.1 (b.left hy (by omega)), fun z hz e1 e2 => g.2.2.2 z hz e1 (b.down hx hy h na _ z (Nat.lt_succ_self _) hz e1 e2)⟩
theorem Lub.go (b : Bs L R n) (hx : x.1 < n) (hy : y.1 < n) (h : x.1 < y.1) (na : ¬ A L R x y) (g : Lub L R n x (R y.1) m) : Lub L R n x y m :=
  ⟨g.1, g.2.1, b.etr hy (Nat.lt_trans (b.r _ (by omega) hy) hy) g.1 (b.right hy (by omega)) g.2.2.1, fun z hz e1 e2 => g.2.2.2 z hz e1 (b.rise hx hy h na _ z (Nat.lt_succ_self _) hz e1 e2)⟩
theorem Mt.glb (b : Bs L R n) (t : Mt L R x y m) : x.1 < n → y.1 < n → Glb L R n x y m := by
  induction t with
  | @same x y h =>
    intro hx hy
    by_cases c : y.2 < x.2
    · rw [if_pos c]
      exact ⟨hy, .inr (.same h.symm c), .inl rfl, fun z hz _ e => e⟩
    · rw [if_neg c]
      exact ⟨hx, .inl rfl, (E.iff_le' h).mpr (by omega), fun z hz e _ => e⟩
  | rTop h a => intro hx hy; exact ⟨hx, .inl rfl, .inr a, fun z hz e _ => e⟩
  | rGo h a t ih => intro hx hy; exact (Glb.go b hy hx h a (ih hy (Nat.lt_trans (b.l _ (by omega) hx) hx))).comm
  | lTop h a => intro hx hy; exact ⟨hy, .inr a, .inl rfl, fun z hz _ e => e⟩
  | lGo h a t ih => intro hx hy; exact Glb.go b hx hy h a (ih hx (Nat.lt_trans (b.l _ (by omega) hy) hy))
theorem Jn.lub (b : Bs L R n) (t : Jn L R x y m) : x.1 < n → y.1 < n → Lub L R n x y m := by
  induction t with
  | @same x y h =>
    intro hx hy
    by_cases c : x.2 < y.2
    · rw [if_pos c]
      exact ⟨hy, .inr (.same h c), .inl rfl, fun z hz _ e => e⟩
    · rw [if_neg c]
      exact ⟨hx, .inl rfl, (E.iff_le' h.symm).mpr (by omega), fun z hz e _ => e⟩
  | rTop h a => intro hx hy; exact ⟨hx, .inl rfl, .inr a, fun z hz e _ => e⟩
  | rGo h a t ih => intro hx hy; exact (Lub.go b hy hx h a (ih hy (Nat.lt_trans (b.r _ (by omega) hx) hx))).comm
  | lTop h a => intro hx hy; exact ⟨hy, .inr a, .inl rfl, fun z hz _ e => e⟩
  | lGo h a t ih => intro hx hy; exact Lub.go b hx hy h a (ih hx (Nat.lt_trans (b.r _ (by omega) hy) hy))
theorem Glb.uniq (b : Bs L R n) {k : Sg} (g : Glb L R n x y m) (h : Glb L R n x y k) : m = k := b.anti g.1 h.1 (h.2.2.2 m g.1 g.2.1 g.2.2.1) (g.2.2.2 k h.1 h.2.1 h.2.2.1)
theorem Lub.uniq (b : Bs L R n) {k : Sg} (g : Lub L R n x y m) (h : Lub L R n x y k) : m = k := b.anti g.1 h.1 (g.2.2.2 k h.1 h.2.1 h.2.2.1) (h.2.2.2 m g.1 g.2.1 g.2.2.1)
end
end Tl
namespace Tl
section
variable {L R L' R' : Nat → Sg} {sz : Nat → Nat} {n : Nat} {x y m : Sg}
theorem Mt.ex (w : Wv L R sz n) : ∀ k, ∀ x y : Sg, x.1 + y.1 < k → Ok sz n x → Ok sz n y → ∃ m, Mt L R x y m ∧ Ok sz n m := by
  intro k
  induction k with
  | zero => intro x y h; omega
  | succ k ih =>
    intro x y h ox oy
    rcases Nat.lt_trichotomy x.1 y.1 with c | c | c
    · by_cases a : A L R y x
      · exact ⟨y, .lTop c a, oy⟩
      · have hl := w.l y.1 (by omega) oy.1
        obtain ⟨m, h1, h2⟩ := ih x (L y.1) (by omega) ox (w.okL (by omega) oy.1)
        exact ⟨m, .lGo c a h1, h2⟩
    · refine ⟨_, .same c, ?_⟩
      split
      · exact oy
      · exact ox
    · by_cases a : A L R x y
      · exact ⟨x, .rTop c a, ox⟩
      · have hl := w.l x.1 (by omega) ox.1
        obtain ⟨m, h1, h2⟩ := ih y (L x.1) (by omega) oy (w.okL (by omega) ox.1)
        exact ⟨m, .rGo c a h1, h2⟩
theorem Jn.ex (w : Wv L R sz n) : ∀ k, ∀ x y : Sg, x.1 + y.1 < k → Ok sz n x → Ok sz n y → ∃ m, Jn L R x y m ∧ Ok sz n m := by
  intro k
  induction k with
  | zero => intro x y h; omega
  | succ k ih =>
    intro x y h ox oy
    rcases Nat.lt_trichotomy x.1 y.1 with c | c | c
    · by_cases a : A L R x y
      · exact ⟨y, .lTop c a, oy⟩
      · have hl := w.r y.1 (by omega) oy.1
        obtain ⟨m, h1, h2⟩ := ih x (R y.1) (by omega) ox (w.okR (by omega) oy.1)
        exact ⟨m, .lGo c a h1, h2⟩
    · refine ⟨_, .same c, ?_⟩
      split
      · exact oy
      · exact ox
    · by_cases a : A L R y x
      · exact ⟨x, .rTop c a, ox⟩
      · have hl := w.r x.1 (by omega) ox.1
        obtain ⟨m, h1, h2⟩ := ih y (R x.1) (by omega) oy (w.okR (by omega) ox.1)
        exact ⟨m, .rGo c a h1, h2⟩
/-- in wider births the same -/
theorem A.wide (w : Wv L R sz n) (hl : ∀ c, c < n → L c = L' c) (hr : ∀ c, c < n → R c = R' c) (hx : x.1 < n) (hy : y.1 < n) : A L R x y ↔ A L' R' x y :=
  ⟨fun a => A.congr (n := n) (fun c _ h => hl c h) (fun c _ h => hr c h) (fun c h0 h => ⟨w.l c h0 h, w.r c h0 h⟩) a hx hy,
   fun a => A.congr (n := n) (fun c _ h => (hl c h).symm) (fun c _ h => (hr c h).symm) (fun c h0 h => ⟨hl c h ▸ w.l c h0 h, hr c h ▸ w.r c h0 h⟩) a hx hy⟩
theorem Mt.wide (w : Wv L R sz n) (hl : ∀ c, c < n → L c = L' c) (hr : ∀ c, c < n → R c = R' c) (t : Mt L R x y m) : x.1 < n → y.1 < n → Mt L' R' x y m := by
  induction t with
  | same h => exact fun _ _ => .same h
  | rTop h a => exact fun hx hy => .rTop h ((A.wide w hl hr hx hy).mp a)
  | @rGo x y m h a t ih =>
    intro hx hy
    have z := w.l x.1 (by omega) hx
    exact .rGo h (fun b => a ((A.wide w hl hr hx hy).mpr b)) (hl x.1 hx ▸ ih hy (by omega))
  | lTop h a => exact fun hx hy => .lTop h ((A.wide w hl hr hy hx).mp a)
  | @lGo x y m h a t ih =>
    intro hx hy
    have z := w.l y.1 (by omega) hy
    exact .lGo h (fun b => a ((A.wide w hl hr hy hx).mpr b)) (hl y.1 hy ▸ ih hx (by omega))
theorem Jn.wide (w : Wv L R sz n) (hl : ∀ c, c < n → L c = L' c) (hr : ∀ c, c < n → R c = R' c) (t : Jn L R x y m) : x.1 < n → y.1 < n → Jn L' R' x y m := by
  induction t with
  | same h => exact fun _ _ => .same h
  | rTop h a => exact fun hx hy => .rTop h ((A.wide w hl hr hy hx).mp a)
  | @rGo x y m h a t ih =>
    intro hx hy
    have z := w.r x.1 (by omega) hx
    exact .rGo h (fun b => a ((A.wide w hl hr hy hx).mpr b)) (hr x.1 hx ▸ ih hy (by omega))
  | lTop h a => exact fun hx hy => .lTop h ((A.wide w hl hr hx hy).mp a)
  | @lGo x y m h a t ih =>
    intro hx hy
    have z := w.r y.1 (by omega) hy
    exact .lGo h (fun b => a ((A.wide w hl hr hx hy).mpr b)) (hr y.1 hy ▸ ih hx (by omega))
theorem Mt.det (b : Bs L R n) {k : Sg} (hx : x.1 < n) (hy : y.1 < n) (t : Mt L R x y m) (s : Mt L R x y k) : m = k := Glb.uniq b (t.glb b hx hy) (s.glb b hx hy)
theorem Jn.det (b : Bs L R n) {k : Sg} (hx : x.1 < n) (hy : y.1 < n) (t : Jn L R x y m) (s : Jn L R x y k) : m = k := Lub.uniq b (t.lub b hx hy) (s.lub b hx hy)
end
/-- one alone -/
theorem filter_one {p : Nat → Bool} {k : Nat} : ∀ {N : Nat}, k < N → (∀ i, i < N → (p i = true ↔ i = k)) → (List.range N).filter p = [k]
  | 0, h, _ => absurd h (Nat.not_lt_zero _)
  | N + 1, h, hp => by
    rw [List.range_succ, List.filter_append]
    by_cases c : k < N
    · rw [filter_one c fun i hi => hp i (by omega)]
      have z : p N = false := by
        rw [Bool.eq_false_iff]
        intro e
        have := (hp N (by omega)).mp e
        omega
      simp [z]
    · have e : k = N := by omega
      subst e
      have z : p k = true := (hp k (by omega)).mpr rfl
      have z2 : (List.range k).filter p = [] := List.filter_eq_nil_iff.mpr fun i hi he => by
        have h1 := List.mem_range.mp hi
        have := (hp i (by omega)).mp he
        omega
      rw [z2]
      simp [z]
/-- a mask within another one -/
theorem and_within {c d : Nat} : c &&& d = c ↔ ∀ j, c.testBit j = true → d.testBit j = true := by
  constructor
  · intro h j hj
    rw [← h, Nat.testBit_and, Bool.and_eq_true] at hj
    exact hj.2
  · intro h
    refine Nat.eq_of_testBit_eq fun j => ?_
    rw [Nat.testBit_and]
    cases hc : c.testBit j with
    | false => rfl
    | true => rw [h j hc]; rfl
end Tl
namespace Tl
section
variable {L R : Nat → Sg} {sz : Nat → Nat} {n : Nat} {x y m : Sg}
theorem Rch.end_lt {S : List (Nat × Nat)} {a b N : Nat} (h : ∀ a b, (a, b) ∈ S → b < N) (p : Rch S a b) : b < N := by
  obtain ⟨k, p⟩ := p
  induction p with
  | one h' => exact h _ _ h'
  | step h' p ih => exact ih
theorem Under.bits (w : Wv L R sz n) {T : List Nat} {r : Nat} (u : Under L R sz n T r) : ∀ a b, Bit T a b → b < off sz n :=
  fun a b h => Rch.end_lt (fun a b h => (step_lt w h).2) (u.snd a b h)
/-- a table that tells a relation of signs, without other bits -/
structure Rl (sz : Nat → Nat) (n : Nat) (M : List Nat) (r : Sg → Sg → Prop) : Prop where
  len : M.length = off sz n
  bits : ∀ a b, Bit M a b → b < off sz n
  iff : ∀ x y, Ok sz n x → Ok sz n y → (Bit M (ps sz x) (ps sz y) ↔ r x y)
theorem Tells.rl {T : List Nat} (t : Tells L R sz n T) (h : ∀ a b, Bit T a b → b < off sz n) : Rl sz n T (A L R) := ⟨t.1, h, t.2⟩
/-- the table turned -/
def Turned (T M : List Nat) : Prop := M.length = T.length ∧ ∀ k j, k < T.length → (Bit M k j ↔ j < T.length ∧ Bit T j k)
theorem Rl.turn {T M : List Nat} {r : Sg → Sg → Prop} (t : Rl sz n T r) (h : Turned T M) : Rl sz n M (fun x y => r y x) := by
  refine ⟨h.1.trans t.len, fun a b hb => ?_, fun x y ox oy => ?_⟩
  · by_cases c : a < T.length
    · have := ((h.2 a b c).mp hb).1
      have := t.len
      omega
    · exfalso
      unfold Bit at hb
      rw [List.getD_eq_getElem?_getD, List.getElem?_eq_none (by have := h.1; omega)] at hb
      simp at hb
  · have px := ps_lt ox
    have py := ps_lt oy
    rw [h.2 _ _ (by rw [t.len]; exact px), t.iff y x oy ox]
    exact ⟨fun z => z.2, fun z => ⟨by rw [t.len]; exact py, z⟩⟩
def cm (M : List Nat) (a b : Nat) : Nat := (M.getD a 0 ||| 1 <<< a) &&& (M.getD b 0 ||| 1 <<< b)
theorem bit_one {a j : Nat} : (1 <<< a).testBit j = decide (a = j) := by
  rw [Nat.one_shiftLeft, Nat.testBit_two_pow]
theorem cm_bit {M : List Nat} {a b j : Nat} : (cm M a b).testBit j = true ↔ (a = j ∨ Bit M a j) ∧ (b = j ∨ Bit M b j) := by
  unfold cm Bit
  rw [Nat.testBit_and, Nat.testBit_or, Nat.testBit_or, bit_one, bit_one]
  simp only [Bool.and_eq_true, Bool.or_eq_true, decide_eq_true_iff]
  exact and_congr or_comm or_comm
def lastb (M : List Nat) (a b k : Nat) : Bool := (cm M a b).testBit k && decide (cm M a b &&& (M.getD k 0 ||| 1 <<< k) = cm M a b)
def El (r : Sg → Sg → Prop) (x y : Sg) : Prop := x = y ∨ r x y
theorem Rl.last {M : List Nat} {r : Sg → Sg → Prop} (t : Rl sz n M r) (ox : Ok sz n x) (oy : Ok sz n y) (om : Ok sz n m)
    (anti : ∀ u v, Ok sz n u → Ok sz n v → El r u v → El r v u → u = v)
    (g1 : El r x m) (g2 : El r y m) (g3 : ∀ z, Ok sz n z → El r x z → El r y z → El r m z) : ∀ i, i < off sz n → (lastb M (ps sz x) (ps sz y) i = true ↔ i = ps sz m) := by
  have el : ∀ {u v}, Ok sz n u → Ok sz n v → ((ps sz u = ps sz v ∨ Bit M (ps sz u) (ps sz v)) ↔ El r u v) := fun {u v} ou ov => by
    rw [t.iff u v ou ov]
    exact ⟨fun z => z.imp (fun e => ps_inj ou ov e) id, fun z => z.imp (fun e => by rw [e]) id⟩
  have com : ∀ {v}, Ok sz n v → ((cm M (ps sz x) (ps sz y)).testBit (ps sz v) = true ↔ El r x v ∧ El r y v) := fun {v} ov => by
    rw [cm_bit, el ox ov, el oy ov]
  have sub : ∀ {v}, Ok sz n v → (cm M (ps sz x) (ps sz y) &&& (M.getD (ps sz v) 0 ||| 1 <<< ps sz v) = cm M (ps sz x) (ps sz y) ↔ ∀ z, Ok sz n z → El r x z → El r y z → El r v z) := fun {v} ov => by
    rw [and_within]
    constructor
    · intro h z oz e1 e2
      have b1 := h (ps sz z) ((com oz).mpr ⟨e1, e2⟩)
      rw [Nat.testBit_or, bit_one, Bool.or_eq_true, decide_eq_true_iff] at b1
      exact (el ov oz).mp (b1.symm)
    · intro h j hj
      have hjl : j < off sz n := by
        obtain ⟨h1, _⟩ := cm_bit.mp hj
        rcases h1 with h1 | h1
        · rw [← h1]; exact ps_lt ox
        · exact t.bits _ _ h1
      obtain ⟨z, oz, rfl⟩ := sign_at hjl
      obtain ⟨e1, e2⟩ := (com oz).mp hj
      rw [Nat.testBit_or, bit_one, Bool.or_eq_true, decide_eq_true_iff]
      exact ((el ov oz).mpr (h z oz e1 e2)).symm
  intro i hi
  obtain ⟨v, ov, rfl⟩ := sign_at hi
  unfold lastb
  rw [Bool.and_eq_true, decide_eq_true_iff, com ov, sub ov]
  constructor
  · rintro ⟨⟨h1, h2⟩, h3⟩
    rw [anti v m ov om (h3 m om g1 g2) (g3 v ov h1 h2)]
  · intro e
    have e' := ps_inj ov om e
    subst e'
    exact ⟨⟨g1, g2⟩, g3⟩
theorem El.symm_iff {x y : Sg} : El (fun x y => A L R y x) x y ↔ E L R y x := ⟨fun h => h.imp Eq.symm id, fun h => h.imp Eq.symm id⟩
theorem Rl.low (w : Wv L R sz n) {M : List Nat} (t : Rl sz n M fun x y => A L R y x) (ox : Ok sz n x) (oy : Ok sz n y) (om : Ok sz n m) (h : Mt L R x y m) :
    ∀ i, i < off sz n → (lastb M (ps sz x) (ps sz y) i = true ↔ i = ps sz m) := by
  have g := h.glb w.toBs ox.1 oy.1
  refine t.last ox oy om (fun u v ou ov a b => ?_) (El.symm_iff.mpr g.2.1) (El.symm_iff.mpr g.2.2.1) fun z oz a b => El.symm_iff.mpr (g.2.2.2 z oz.1 (El.symm_iff.mp a) (El.symm_iff.mp b))
  exact w.toBs.anti ou.1 ov.1 (El.symm_iff.mp b) (El.symm_iff.mp a)
theorem Rl.high (w : Wv L R sz n) {M : List Nat} (t : Rl sz n M (A L R)) (ox : Ok sz n x) (oy : Ok sz n y) (om : Ok sz n m) (h : Jn L R x y m) :
    ∀ i, i < off sz n → (lastb M (ps sz x) (ps sz y) i = true ↔ i = ps sz m) := by
  have g := h.lub w.toBs ox.1 oy.1
  exact t.last ox oy om (fun u v ou ov a b => w.toBs.anti ou.1 ov.1 a b) g.2.1 g.2.2.1 fun z oz a b => g.2.2.2 z oz.1 a b
/-- off grows -/
theorem off_mono {m : Nat} (h : m ≤ n) : off sz m ≤ off sz n := by
  induction n with
  | zero =>
    have e : m = 0 := by omega
    rw [e]
    exact Nat.le_refl _
  | succ n ih =>
    by_cases c : m ≤ n
    · exact Nat.le_trans (ih c) (Nat.le_add_right ..)
    · have e : m = n + 1 := by omega
      rw [e]
      exact Nat.le_refl _
theorem off_congr {sz' : Nat → Nat} : ∀ {n : Nat}, (∀ c, c < n → sz c = sz' c) → off sz n = off sz' n
  | 0, _ => rfl
  | n + 1, h => by
    show off sz n + sz n = off sz' n + sz' n
    rw [off_congr fun c hc => h c (by omega), h n (by omega)]
end
end Tl
/-! min(a, b), max(a, b) of two tuples of numbers; sorted of two -/
namespace Dk
open PySem PySem.Spec PyProof.Rows L2 PySem.SeqAt PySem.W
section
variable {prog : Program} {w : World} {A : Around} {E : Value → Shared → Prop} {s : Shared}
theorem call_min_twoH {a b : Value} {Q : Value → Shared → Prop}
    (h : wpAny (model prog w) A.in1 (pyIter (.ref s.heap.objs.size)) (fun it s₂ => ∃ I fp wr G n P St H bt, it = .ref I ∧ WalksS prog w A.in1 I fp wr G n P St ∧ St 0 s₂ ∧ (∀ b ∈ fp, b < s₂.heap.objs.size) ∧ 0 < n ∧
      (∀ b o, H.get? b = some o → b ∉ wr) ∧ (∀ b o, H.get? b = some o → s₂.heap.get? b = some o) ∧ CmpIn prog w A.in1 .Lt H P bt ∧ ∀ v s', P (argBest bt (n - 1)) v → Moved wr G s₂ s' → Q v s') E
      { s with heap := s.heap.push { cls := .type "tuple", data := .seq #[a, b] } }) :
    wpAny (model prog w) A (call (.builtin "min") [a, b]) Q E s := by
  have hname : (toString "min" ++ toString ".loop" : String) = "min.loop" := by decide
  refine call_function_tree F.kind_min F.plain_min F.entry_min (F.args_min2 _ _) ?_
  show wpAny _ A.in1 (Builtin.Builtins.bindParams "min" ["key", "default"] 0 ⟨[], []⟩ >>= _) _ _ s
  refine wpAny_bind (wpAny_of_eq (show Builtin.Builtins.bindParams "min" ["key", "default"] 0 ⟨[], []⟩ = pure [none, none] from rfl) ?_)
  show wpAny _ A.in1 (newTuple [a, b] >>= _) _ _ s
  refine wpAny_bind (wpAny_newObj_type ?_)
  refine wpAny_bind (wpAny_mono h (fun it s₂ h₂ => ?_) fun _ _ e => e)
  obtain ⟨I, fp, wr, G, n, P, St, H, bt, rfl, W, hst, hfp, hn, hw, hkeep, hcmp, hQ⟩ := h₂
  refine wpAny_bind (wpAny_newObj_type ?_)
  have hSf : s₂.heap.objs.size ∉ fp := fun hm => Nat.lt_irrefl _ (hfp _ hm)
  rw [hname]
  refine wpAny_pure ⟨plainId_quiet F.plain_min_loop _, codeAny_min_loop_firstH W H hw bt hcmp s₂.heap.objs.size hSf (fresh_in hkeep) _ hn (fun b o e => Heap.get?_push_of_some _ (hkeep b o e)) (W.frame 0 s₂ _ s₂.toks hst (Nat.le_refl _) fun b _ o e => Heap.get?_push_of_some _ e) (Heap.get?_push_size _ rfl) fun v s' hP hm => ?_⟩
  exact hQ v s' hP (Moved.drop_new (tk := s₂.toks) hm (Nat.le_refl _))
theorem call_max_twoH {a b : Value} {Q : Value → Shared → Prop}
    (h : wpAny (model prog w) A.in1 (pyIter (.ref s.heap.objs.size)) (fun it s₂ => ∃ I fp wr G n P St H bt, it = .ref I ∧ WalksS prog w A.in1 I fp wr G n P St ∧ St 0 s₂ ∧ (∀ b ∈ fp, b < s₂.heap.objs.size) ∧ 0 < n ∧
      (∀ b o, H.get? b = some o → b ∉ wr) ∧ (∀ b o, H.get? b = some o → s₂.heap.get? b = some o) ∧ CmpIn prog w A.in1 .Gt H P bt ∧ ∀ v s', P (argBest bt (n - 1)) v → Moved wr G s₂ s' → Q v s') E
      { s with heap := s.heap.push { cls := .type "tuple", data := .seq #[a, b] } }) :
    wpAny (model prog w) A (call (.builtin "max") [a, b]) Q E s := by
  have hname : (toString "max" ++ toString ".loop" : String) = "max.loop" := by decide
  refine call_function_tree F.kind_max F.plain_max F.entry_max (F.args_max2 _ _) ?_
  show wpAny _ A.in1 (Builtin.Builtins.bindParams "max" ["key", "default"] 0 ⟨[], []⟩ >>= _) _ _ s
  refine wpAny_bind (wpAny_of_eq (show Builtin.Builtins.bindParams "max" ["key", "default"] 0 ⟨[], []⟩ = pure [none, none] from rfl) ?_)
  show wpAny _ A.in1 (newTuple [a, b] >>= _) _ _ s
  refine wpAny_bind (wpAny_newObj_type ?_)
  refine wpAny_bind (wpAny_mono h (fun it s₂ h₂ => ?_) fun _ _ e => e)
  obtain ⟨I, fp, wr, G, n, P, St, H, bt, rfl, W, hst, hfp, hn, hw, hkeep, hcmp, hQ⟩ := h₂
  refine wpAny_bind (wpAny_newObj_type ?_)
  have hSf : s₂.heap.objs.size ∉ fp := fun hm => Nat.lt_irrefl _ (hfp _ hm)
  rw [hname]
  refine wpAny_pure ⟨plainId_quiet F.plain_max_loop _, codeAny_max_loop_firstH W H hw bt hcmp s₂.heap.objs.size hSf (fresh_in hkeep) _ hn (fun b o e => Heap.get?_push_of_some _ (hkeep b o e)) (W.frame 0 s₂ _ s₂.toks hst (Nat.le_refl _) fun b _ o e => Heap.get?_push_of_some _ e) (Heap.get?_push_size _ rfl) fun v s' hP hm => ?_⟩
  exact hQ v s' hP (Moved.drop_new (tk := s₂.toks) hm (Nat.le_refl _))
theorem min_two_data {a b : Value} {x y : PyData} {as bs : List Addr} {Q : Value → Shared → Prop} (hh : A.handled = none) (ra : Reads s.heap a x as) (rb : Reads s.heap b y bs) (ha : PySem.W.AlikeAll [x, y]) (hu : A.units + 1 + PyData.depthAll [x, y] < cLine)
    (h : ∀ h' tk, (∀ c o, s.heap.get? c = some o → h'.get? c = some o) → Q (if dataLt y x = true then b else a) { s with heap := h', toks := tk }) :
    wpAny (model prog w) A (call (.builtin "min") [a, b]) Q E s := by
  have k0 : ∀ c o, s.heap.get? c = some o → (s.heap.push { cls := .type "tuple", data := .seq #[a, b] }).get? c = some o := fun c o e => Heap.get?_push_of_some _ e
  have hl : ({ s with heap := s.heap.push { cls := .type "tuple", data := .seq #[a, b] } } : Shared).heap.IsTuple s.heap.objs.size #[a, b] := ⟨_, Heap.get?_push_size _ rfl, rfl, 0, rfl⟩
  have hr : ReadsAll (s.heap.push { cls := .type "tuple", data := .seq #[a, b] }) (#[a, b] : Array Value).toList [x, y] _ := ReadsAll.cons (Reads.keeps k0 ra) (ReadsAll.cons (Reads.keeps k0 rb) ReadsAll.nil)
  refine call_min_twoH (iter_tupleW (s := { s with heap := s.heap.push { cls := .type "tuple", data := .seq #[a, b] } }) (A := A.in1) hh hl fun s₂ e W st hfp hw hk => ?_)
  refine ⟨_, _, _, _, _, _, _, (s.heap.push { cls := .type "tuple", data := .seq #[a, b] }), _, rfl, W, st, hfp, by simp, hw, hk, PySem.W.cmpIn_lt (s := { s with heap := s.heap.push { cls := .type "tuple", data := .seq #[a, b] } }) (A := A.in1) hr ha (by show A.units + 1 + _ < _; exact hu), fun v s' hP m => ?_⟩
  obtain ⟨h', tk, rfl, hk'⟩ := moved_old e rfl m
  have hv : v = if dataLt y x = true then b else a := by
    have hP' : (#[a, b] : Array Value)[if dataLt y x = true then 1 else 0]? = some v := hP
    by_cases c : dataLt y x = true
    · rw [if_pos c] at hP' ⊢
      exact (Option.some.inj hP').symm
    · rw [if_neg c] at hP' ⊢
      exact (Option.some.inj hP').symm
  rw [hv]
  exact h h' tk fun c o e => hk' c o (k0 c o e)
theorem max_two_data {a b : Value} {x y : PyData} {as bs : List Addr} {Q : Value → Shared → Prop} (hh : A.handled = none) (ra : Reads s.heap a x as) (rb : Reads s.heap b y bs) (ha : PySem.W.AlikeAll [x, y]) (hu : A.units + 1 + PyData.depthAll [x, y] < cLine)
    (h : ∀ h' tk, (∀ c o, s.heap.get? c = some o → h'.get? c = some o) → Q (if dataLt x y = true then b else a) { s with heap := h', toks := tk }) :
    wpAny (model prog w) A (call (.builtin "max") [a, b]) Q E s := by
  have k0 : ∀ c o, s.heap.get? c = some o → (s.heap.push { cls := .type "tuple", data := .seq #[a, b] }).get? c = some o := fun c o e => Heap.get?_push_of_some _ e
  have hl : ({ s with heap := s.heap.push { cls := .type "tuple", data := .seq #[a, b] } } : Shared).heap.IsTuple s.heap.objs.size #[a, b] := ⟨_, Heap.get?_push_size _ rfl, rfl, 0, rfl⟩
  have hr : ReadsAll (s.heap.push { cls := .type "tuple", data := .seq #[a, b] }) (#[a, b] : Array Value).toList [x, y] _ := ReadsAll.cons (Reads.keeps k0 ra) (ReadsAll.cons (Reads.keeps k0 rb) ReadsAll.nil)
  refine call_max_twoH (iter_tupleW (s := { s with heap := s.heap.push { cls := .type "tuple", data := .seq #[a, b] } }) (A := A.in1) hh hl fun s₂ e W st hfp hw hk => ?_)
  refine ⟨_, _, _, _, _, _, _, (s.heap.push { cls := .type "tuple", data := .seq #[a, b] }), _, rfl, W, st, hfp, by simp, hw, hk, PySem.W.cmpIn_gt (s := { s with heap := s.heap.push { cls := .type "tuple", data := .seq #[a, b] } }) (A := A.in1) hr ha (by show A.units + 1 + _ < _; exact hu), fun v s' hP m => ?_⟩
  obtain ⟨h', tk, rfl, hk'⟩ := moved_old e rfl m
  have hv : v = if dataLt x y = true then b else a := by
    have hP' : (#[a, b] : Array Value)[if dataLt x y = true then 1 else 0]? = some v := hP
    by_cases c : dataLt x y = true
    · rw [if_pos c] at hP' ⊢
      exact (Option.some.inj hP').symm
    · rw [if_neg c] at hP' ⊢
      exact (Option.some.inj hP').symm
  rw [hv]
  exact h h' tk fun c o e => hk' c o (k0 c o e)
end
def rMinD (K : PySem.W.Frag) : List V → Hp → VK → Prop := fun xs H Q => ∃ (u v : V) (d e : PyData), xs = [u, v] ∧ Dp K H u d ∧ Dp K H v e ∧ AlikeAll [d, e] ∧ PyData.depthAll [d, e] ≤ 60 ∧ Q (if dataLt e d = true then v else u) H
def rMaxD2 (K : PySem.W.Frag) : List V → Hp → VK → Prop := fun xs H Q => ∃ (u v : V) (d e : PyData), xs = [u, v] ∧ Dp K H u d ∧ Dp K H v e ∧ AlikeAll [d, e] ∧ PyData.depthAll [d, e] ≤ 60 ∧ Q (if dataLt d e = true then v else u) H
section
variable {X : Cx}
theorem call_minD (hc : X.calm = true) (hu : X.A.units + 65 < cLine) : CallR X (.builtin "min") (rMinD X.K) := by
  intro pins s σ H xs us Q I r h
  obtain ⟨u, v, d, e, rfl, hd, he, ha, hz, q⟩ := h
  obtain ⟨u', v', rfl, ru, rv⟩ := vals2 r
  obtain ⟨as, r1⟩ := Dp.reads I d u u' hd ru
  obtain ⟨bs, r2⟩ := Dp.reads I e v v' he rv
  refine min_two_data (I.ok.hd hc) r1 r2 ha (by omega) fun h' tk k => ⟨_, H, I.kept k, ?_, q⟩
  split
  · exact rv
  · exact ru
theorem call_maxD (hc : X.calm = true) (hu : X.A.units + 65 < cLine) : CallR X (.builtin "max") (rMaxD2 X.K) := by
  intro pins s σ H xs us Q I r h
  obtain ⟨u, v, d, e, rfl, hd, he, ha, hz, q⟩ := h
  obtain ⟨u', v', rfl, ru, rv⟩ := vals2 r
  obtain ⟨as, r1⟩ := Dp.reads I d u u' hd ru
  obtain ⟨bs, r2⟩ := Dp.reads I e v v' he rv
  refine max_two_data (I.ok.hd hc) r1 r2 ha (by omega) fun h' tk k => ⟨_, H, I.kept k, ?_, q⟩
  split
  · exact rv
  · exact ru
end
def kf (p : Addr) (x y : Tl.Sg) (z : V) : Int × Int := if z = V.ref p then ((x.1 : Int), (x.2 : Int)) else ((y.1 : Int), (y.2 : Int))
theorem kf_1 {p : Addr} {x y : Tl.Sg} : kf p x y (.ref p) = ((x.1 : Int), (x.2 : Int)) := if_pos rfl
theorem kf_2 {p q : Addr} {x y : Tl.Sg} (h : V.ref q ≠ V.ref p) : kf p x y (.ref q) = ((y.1 : Int), (y.2 : Int)) := if_neg h
theorem perm2 {α : Type} {l : List α} {a b : α} (h : l.Perm [a, b]) : l = [a, b] ∨ l = [b, a] := by
  have hl := h.length_eq
  match l, hl with
  | [c, d], _ =>
    have hc : c ∈ [a, b] := h.mem_iff.mp (List.mem_cons_self ..)
    rcases List.mem_cons.mp hc with rfl | hc
    · have z := (List.perm_cons c).mp h
      have e := List.perm_singleton.mp z
      rw [e]
      exact .inl rfl
    · have e1 := List.mem_singleton.mp hc
      subst e1
      have z := (List.perm_cons c).mp (h.trans (List.Perm.swap c a []))
      have e := List.perm_singleton.mp z
      rw [e]
      exact .inr rfl
theorem sg_alike (x y : Tl.Sg) : AlikeAll [sgD x, sgD y] := by
  refine ⟨fun a ha b hb => ?_, fun a ha => ?_⟩
  · rcases List.mem_cons.mp ha with rfl | ha <;> rcases List.mem_cons.mp hb with rfl | hb
    · rfl
    · rw [List.mem_singleton.mp hb]; rfl
    · rw [List.mem_singleton.mp ha]; rfl
    · rw [List.mem_singleton.mp ha, List.mem_singleton.mp hb]; rfl
  · rcases List.mem_cons.mp ha with rfl | ha
    · exact fun z => nomatch z
    · rw [List.mem_singleton.mp ha]; exact fun z => nomatch z
theorem sg_lt (x y : Tl.Sg) : dataLt (sgD x) (sgD y) = decide (x.1 < y.1 ∨ (x.1 = y.1 ∧ x.2 < y.2)) := by
  rw [show dataLt (sgD x) (sgD y) = _ from dataLt_ii _ _ _ _, Bool.eq_iff_iff, decide_eq_true_iff, decide_eq_true_iff]
  omega
theorem sg_depth (x y : Tl.Sg) : PyData.depthAll [sgD x, sgD y] ≤ 60 := by simp [sgD, PyData.depth, PyData.depthAll]
section
variable {K : PySem.W.Frag} {H : Hp} {Q : VK} {u v : V} {x y : Tl.Sg}
theorem r_par {i j : Nat} {ta : TA} {σ : L2.St} {H : Hp} {D : Ends} (h : ta σ H fun vs H1 => ∃ v w, vs = [v, w] ∧ D.nx ((σ.set i (some v)).set j (some w)) H1) : tPar i j ta D σ H := h
/-- min of two signs of one chunk -/
theorem r_minSg (h : x.1 = y.1) (su : SgV H u x) (sv : SgV H v y) (q : Q (if y.2 < x.2 then v else u) H) : rMinD K [u, v] H Q := by
  refine ⟨u, v, _, _, rfl, su.dp, sv.dp, sg_alike x y, sg_depth x y, ?_⟩
  have e : (if dataLt (sgD y) (sgD x) = true then v else u) = if y.2 < x.2 then v else u := by
    by_cases c : y.2 < x.2
    · rw [if_pos c, if_pos (by rw [sg_lt, decide_eq_true_iff]; exact .inr ⟨h.symm, c⟩)]
    · rw [if_neg c, if_neg (by rw [sg_lt, decide_eq_true_iff]; omega)]
  rw [e]
  exact q
theorem r_maxSg (h : x.1 = y.1) (su : SgV H u x) (sv : SgV H v y) (q : Q (if x.2 < y.2 then v else u) H) : rMaxD2 K [u, v] H Q := by
  refine ⟨u, v, _, _, rfl, su.dp, sv.dp, sg_alike x y, sg_depth x y, ?_⟩
  have e : (if dataLt (sgD x) (sgD y) = true then v else u) = if x.2 < y.2 then v else u := by
    by_cases c : x.2 < y.2
    · rw [if_pos c, if_pos (by rw [sg_lt, decide_eq_true_iff]; exact .inr ⟨h, c⟩)]
    · rw [if_neg c, if_neg (by rw [sg_lt, decide_eq_true_iff]; omega)]
  rw [e]
  exact q
/-- sorted([one, other]), the chunks differ -/
theorem r_sortSg {p : Addr} (h : x.1 ≠ y.1) (hp : SqL K H p [u, v]) (su : SgV H u x) (sv : SgV H v y) (q : ∀ l, H l = none → Q (.ref l) (upd H l (.lst (if x.1 < y.1 then [u, v] else [v, u])))) : rSortedPO K [.ref p] H Q := by
  obtain ⟨p1, rfl, h1⟩ := su
  obtain ⟨p2, rfl, h2⟩ := sv
  have ne : V.ref p2 ≠ V.ref p1 := fun z => by
    rw [V.ref.inj z, h1] at h2
    injection h2 with h2
    injection h2 with h2
    injection h2 with h3
    have := V.int.inj h3
    omega
  refine ⟨p, _, kf p1 x y, rfl, hp, fun z hz => ?_, fun ys l hs hb hl => ?_⟩
  · rcases List.mem_cons.mp hz with rfl | hz
    · exact ⟨p1, rfl, by rw [kf_1]; exact h1⟩
    · rw [List.mem_singleton.mp hz]
      exact ⟨p2, rfl, by rw [kf_2 ne]; exact h2⟩
  · rcases perm2 hb.perm with rfl | rfl
    · have z := (List.pairwise_cons.mp hs).1 _ (List.mem_singleton.mpr rfl)
      have z' : SrtO.lexB (kf p1 x y (.ref p2)) (kf p1 x y (.ref p1)) = false := z
      rw [kf_1, kf_2 ne] at z'
      have z2 := SrtO.lexB_no.mp z'
      have c : x.1 < y.1 := by
        have : ¬ ((y.1 : Int) < x.1) := fun k => by
          have := (SrtO.lexB_iff (p := ((y.1 : Int), (y.2 : Int))) (q := ((x.1 : Int), (x.2 : Int)))).mpr (.inl k)
          rw [this] at z'
          cases z'
        omega
      have k := q l hl
      rw [if_pos c] at k
      exact k
    · have z := (List.pairwise_cons.mp hs).1 _ (List.mem_singleton.mpr rfl)
      have z' : SrtO.lexB (kf p1 x y (.ref p1)) (kf p1 x y (.ref p2)) = false := z
      rw [kf_1, kf_2 ne] at z'
      have c : ¬ x.1 < y.1 := fun k => by
        have := (SrtO.lexB_iff (p := ((x.1 : Int), (x.2 : Int))) (q := ((y.1 : Int), (y.2 : Int)))).mpr (.inl (by show (x.1 : Int) < y.1; omega))
        rw [this] at z'
        cases z'
      have k := q l hl
      rw [if_neg c] at k
      exact k
end
end Dk
namespace K21
open PySem PySem.Spec PyProof.Rows L2 Dk Tl
/-- one step of a reading -/
local macro_rules | `(tactic| walk_at "rd1") => `(tactic| first
  | ((with_reducible refine r_var (v := ?rv) ?rh ?_); (case rh => rfl))
  | with_reducible refine r_c ?_
  | with_reducible refine r_seq ?_
  | with_reducible refine r_asg ?_
  | with_reducible refine r_par ?_
  | with_reducible refine r_gname ?_
  | with_reducible refine r_op ?_
  | with_reducible refine r_forLo ?_
  | with_reducible refine r_forTo ?_
  | with_reducible refine r_forSo ?_
  | with_reducible refine r_forRo ?_
  | with_reducible refine r_lcRo ?_
  | with_reducible refine r_lcLo ?_
  | with_reducible refine r_yes ?_
  | with_reducible refine r_callK0 ?_
  | with_reducible refine r_break ?_
  | with_reducible refine r_forR2o ?_
  | with_reducible refine r_forEo ?_
  | with_reducible refine r_forESo ?_
  | with_reducible refine r_xfo ?_
  | with_reducible refine r_noP ?_
  | with_reducible refine r_part ?_
  | with_reducible refine r_pI ?_
  | with_reducible refine r_gcons ?_
  | with_reducible refine r_gnil ?_
  | with_reducible refine r_mkO ?_
  | with_reducible refine r_un ?_
  | with_reducible refine r_addI ?_
  | with_reducible refine r_I0 ?_
  | with_reducible refine r_U ?_
  | with_reducible refine r_cons ?_
  | with_reducible refine r_nil ?_
  | with_reducible refine r_CB ?_
  | with_reducible refine r_call ?_
  | with_reducible refine r_callS ?_
  | with_reducible refine r_int ?_
  | with_reducible refine r_max ?_
  | with_reducible refine r_min ?_
  | with_reducible refine r_test ?_
  | with_reducible refine r_B ?_
  | with_reducible refine r_blv ?_
  | with_reducible refine r_and ?_
  | with_reducible refine r_or ?_
  | with_reducible refine r_not ?_
  | with_reducible refine r_andV ?_
  | with_reducible refine r_orV ?_
  | with_reducible refine r_notV ?_
  | with_reducible refine r_ifE ?_
  | with_reducible refine r_ifS ?_
  | with_reducible refine r_ret ?_
  | with_reducible refine r_retN ?_
  | with_reducible refine r_drop ?_
  | with_reducible refine r_next ?_
  | with_reducible refine r_sl ?_
  | with_reducible refine r_gsub ?_
  | with_reducible refine r_bm ?_
  | with_reducible refine r_tup ?_
  | with_reducible refine r_lst ?_
  | with_reducible refine r_isN ?_
  | with_reducible refine r_notN ?_
  | with_reducible refine r_itt ?_
  | with_reducible refine r_iff ?_
  | with_reducible refine r_ittN ?_
  | with_reducible refine r_iffN ?_
  | ((with_reducible refine r_ittD ?rh ?_); (case rh => rfl))
  | ((with_reducible refine r_iffD ?rh ?_); (case rh => rfl))
  | ((with_reducible refine r_modP ?rh ?_); (case rh => decide))
  | ((with_reducible refine r_eq ?rh ?_); (case rh => rfl))
  | ((with_reducible refine r_eqP ?rh ?_); (case rh => rfl))
  | ((with_reducible refine r_ne ?rh ?_); (case rh => rfl)))
local macro_rules | `(tactic| walk_at "rd") => `(tactic| repeat walk_at "rd1")
local macro_rules | `(tactic| walk_at "isi") => `(tactic| first | refine r_isi (b := true) (by assumption) (by decide +kernel) ?_ | refine r_isi (b := false) (by assumption) (by decide +kernel) ?_)
local macro_rules | `(tactic| walk_at "rs1") => `(tactic| first
  | with_reducible refine r_seq ?_
  | with_reducible refine r_asg ?_
  | with_reducible refine r_gname ?_
  | with_reducible refine r_ret ?_)
local macro_rules | `(tactic| walk_at "rs") => `(tactic| repeat walk_at "rs1")

def topS (i : Nat) : Stmt := PySem.Challenge.pw_deedstand_k21_whole_meets_and_joins.main.body.getD i (.Pass ⟨0, 0, 0, 0⟩)
abbrev s_hops_of : Stmt := topS 1
abbrev N_hops_of : List Str := ["births", "one", "other", "hops"]
theorem sc_hops_of : FnScope ["births", "one", "other", "hops"] ["births", "one", "other"] (defScope s_hops_of) := ⟨rfl, rfl, rfl, by decide +kernel, rfl, by decide +kernel, by decide +kernel⟩
abbrev s_told_ahead : Stmt := topS 2
abbrev N_told_ahead : List Str := ["births", "one", "other", "hops", "left", "right"]
theorem sc_told_ahead : FnScope ["births", "one", "other", "hops", "left", "right"] ["births", "one", "other"] (defScope s_told_ahead) := ⟨rfl, rfl, rfl, by decide +kernel, rfl, by decide +kernel, by decide +kernel⟩
abbrev s_meet_of : Stmt := topS 4
abbrev N_meet_of : List Str := ["births", "one", "other", "less", "great"]
theorem sc_meet_of : FnScope ["births", "one", "other", "less", "great"] ["births", "one", "other"] (defScope s_meet_of) := ⟨rfl, rfl, rfl, by decide +kernel, rfl, by decide +kernel, by decide +kernel⟩
abbrev s_join_of : Stmt := topS 5
abbrev N_join_of : List Str := ["births", "one", "other", "less", "great"]
theorem sc_join_of : FnScope ["births", "one", "other", "less", "great"] ["births", "one", "other"] (defScope s_join_of) := ⟨rfl, rfl, rfl, by decide +kernel, rfl, by decide +kernel, by decide +kernel⟩
abbrev s_untold_stretch : Stmt := topS 7
abbrev N_untold_stretch : List Str := ["births", "one", "other"]
theorem sc_untold_stretch : FnScope ["births", "one", "other"] ["births", "one", "other"] (defScope s_untold_stretch) := ⟨rfl, rfl, rfl, by decide +kernel, rfl, by decide +kernel, by decide +kernel⟩
abbrev s_law_draws : Stmt := topS 9
abbrev N_law_draws : List Str := ["_law_script", "_law_state", "_law_heaps", "_law_cell", "_law_size"]
theorem sc_law_draws : FnScope ["_law_script", "_law_state", "_law_heaps", "_law_cell", "_law_size"] ["_law_script"] (defScope s_law_draws) := ⟨rfl, rfl, rfl, by decide +kernel, rfl, by decide +kernel, by decide +kernel⟩
abbrev s_law_pick : Stmt := topS 10
abbrev N_law_pick : List Str := ["_law_box", "_law_many", "_law_heaps", "_law_cell", "_law_mixed"]
theorem sc_law_pick : FnScope ["_law_box", "_law_many", "_law_heaps", "_law_cell", "_law_mixed"] ["_law_box", "_law_many"] (defScope s_law_pick) := ⟨rfl, rfl, rfl, by decide +kernel, rfl, by decide +kernel, by decide +kernel⟩
abbrev s_law_say : Stmt := topS 11
abbrev N_law_say : List Str := ["_law_box", "_law_most", "_law_every", "_law_size", "_law_k"]
theorem sc_law_say : FnScope ["_law_box", "_law_most", "_law_every", "_law_size", "_law_k"] ["_law_box", "_law_most"] (defScope s_law_say) := ⟨rfl, rfl, rfl, by decide +kernel, rfl, by decide +kernel, by decide +kernel⟩
abbrev s_law_all : Stmt := topS 12
abbrev N_law_all : List Str := ["_law_world_here", "_law_rows", "_law_c", "_law_i"]
theorem sc_law_all : FnScope ["_law_world_here", "_law_rows", "_law_c", "_law_i"] ["_law_world_here"] (defScope s_law_all) := ⟨rfl, rfl, rfl, by decide +kernel, rfl, by decide +kernel, by decide +kernel⟩
abbrev s_law_closed : Stmt := topS 13
abbrev N_law_closed : List Str := ["_law_world_here", "_law_marks", "_law_steps", "_law_c", "_law_size", "_law_first", "_law_i", "_law_table", "_law_turn", "_law_still", "_law_a", "_law_b", "_law_wide", "_law_k"]
theorem sc_law_closed : FnScope ["_law_world_here", "_law_marks", "_law_steps", "_law_c", "_law_size", "_law_first", "_law_i", "_law_table", "_law_turn", "_law_still", "_law_a", "_law_b", "_law_wide", "_law_k"] ["_law_world_here"] (defScope s_law_closed) := ⟨rfl, rfl, rfl, by decide +kernel, rfl, by decide +kernel, by decide +kernel⟩
abbrev s_law_behind : Stmt := topS 14
abbrev N_law_behind : List Str := ["_law_table", "_law_j", "_law_k"]
theorem sc_law_behind : FnScope ["_law_table", "_law_j", "_law_k"] ["_law_table", "_law_j"] (defScope s_law_behind) := ⟨rfl, rfl, rfl, by decide +kernel, rfl, by decide +kernel, by decide +kernel⟩
abbrev s_law_ahead : Stmt := topS 15
abbrev N_law_ahead : List Str := ["_law_table", "_law_j", "_law_k"]
theorem sc_law_ahead : FnScope ["_law_table", "_law_j", "_law_k"] ["_law_table", "_law_j"] (defScope s_law_ahead) := ⟨rfl, rfl, rfl, by decide +kernel, rfl, by decide +kernel, by decide +kernel⟩
abbrev s_law_close : Stmt := topS 16
abbrev N_law_close : List Str := ["_law_table", "_law_j", "_law_behind_here", "_law_found", "_law_k", "_law_m"]
theorem sc_law_close : FnScope ["_law_table", "_law_j", "_law_behind_here", "_law_found", "_law_k", "_law_m"] ["_law_table", "_law_j"] (defScope s_law_close) := ⟨rfl, rfl, rfl, by decide +kernel, rfl, by decide +kernel, by decide +kernel⟩
abbrev s_law_pair : Stmt := topS 17
abbrev N_law_pair : List Str := ["_law_box", "_law_table", "_law_mode", "_law_many", "_law_newest", "_law_ahead_here", "_law_behind_here", "_law_late", "_law_j"]
theorem sc_law_pair : FnScope ["_law_box", "_law_table", "_law_mode", "_law_many", "_law_newest", "_law_ahead_here", "_law_behind_here", "_law_late", "_law_j"] ["_law_box", "_law_table", "_law_mode"] (defScope s_law_pair) := ⟨rfl, rfl, rfl, by decide +kernel, rfl, by decide +kernel, by decide +kernel⟩
abbrev s_law_put : Stmt := topS 18
abbrev N_law_put : List Str := ["_law_box", "_law_world_here", "_law_mode", "_law_most", "_law_marks", "_law_a", "_law_b", "_law_who"]
theorem sc_law_put : FnScope ["_law_box", "_law_world_here", "_law_mode", "_law_most", "_law_marks", "_law_a", "_law_b", "_law_who"] ["_law_box", "_law_world_here", "_law_mode", "_law_most"] (defScope s_law_put) := ⟨rfl, rfl, rfl, by decide +kernel, rfl, by decide +kernel, by decide +kernel⟩
abbrev s_law_world : Stmt := topS 19
abbrev N_law_world : List Str := ["_law_box", "_law_mode", "_law_many", "_law_most", "_law_world_here", "_law_c"]
theorem sc_law_world : FnScope ["_law_box", "_law_mode", "_law_many", "_law_most", "_law_world_here", "_law_c"] ["_law_box"] (defScope s_law_world) := ⟨rfl, rfl, rfl, by decide +kernel, rfl, by decide +kernel, by decide +kernel⟩
abbrev s_law_same : Stmt := topS 20
abbrev N_law_same : List Str := ["_law_a", "_law_b", "_law_k"]
theorem sc_law_same : FnScope ["_law_a", "_law_b", "_law_k"] ["_law_a", "_law_b"] (defScope s_law_same) := ⟨rfl, rfl, rfl, by decide +kernel, rfl, by decide +kernel, by decide +kernel⟩
abbrev s_law_turned : Stmt := topS 21
abbrev N_law_turned : List Str := ["_law_table", "_law_many", "_law_rows", "_law_k", "_law_mask", "_law_j"]
theorem sc_law_turned : FnScope ["_law_table", "_law_many", "_law_rows", "_law_k", "_law_mask", "_law_j"] ["_law_table"] (defScope s_law_turned) := ⟨rfl, rfl, rfl, by decide +kernel, rfl, by decide +kernel, by decide +kernel⟩
abbrev s_law_last_of_all : Stmt := topS 22
abbrev N_law_last_of_all : List Str := ["_law_table", "_law_mirror", "_law_a", "_law_b", "_law_common", "_law_found", "_law_k"]
theorem sc_law_last_of_all : FnScope ["_law_table", "_law_mirror", "_law_a", "_law_b", "_law_common", "_law_found", "_law_k"] ["_law_table", "_law_mirror", "_law_a", "_law_b"] (defScope s_law_last_of_all) := ⟨rfl, rfl, rfl, by decide +kernel, rfl, by decide +kernel, by decide +kernel⟩
abbrev s_law_holds : Stmt := topS 23
abbrev N_law_holds : List Str := ["_law_world_here", "_law_marks", "_law_ahead_here", "_law_behind_here", "_law_a", "_law_b", "_law_low", "_law_high"]
theorem sc_law_holds : FnScope ["_law_world_here", "_law_marks", "_law_ahead_here", "_law_behind_here", "_law_a", "_law_b", "_law_low", "_law_high"] ["_law_world_here", "_law_marks", "_law_ahead_here", "_law_behind_here", "_law_a", "_law_b"] (defScope s_law_holds) := ⟨rfl, rfl, rfl, by decide +kernel, rfl, by decide +kernel, by decide +kernel⟩
abbrev s_law_by_name : Stmt := topS 24
abbrev N_law_by_name : List Str := ["_law_world_here", "_law_marks", "_law_ahead_here", "_law_behind_here", "_law_a", "_law_b", "_law_low", "_law_high"]
theorem sc_law_by_name : FnScope ["_law_world_here", "_law_marks", "_law_ahead_here", "_law_behind_here", "_law_a", "_law_b", "_law_low", "_law_high"] ["_law_world_here", "_law_marks", "_law_ahead_here", "_law_behind_here", "_law_a", "_law_b"] (defScope s_law_by_name) := ⟨rfl, rfl, rfl, by decide +kernel, rfl, by decide +kernel, by decide +kernel⟩
abbrev s_law_chosen : Stmt := topS 25
abbrev N_law_chosen : List Str := ["_law_box", "_law_many", "_law_k"]
theorem sc_law_chosen : FnScope ["_law_box", "_law_many", "_law_k"] ["_law_box", "_law_many"] (defScope s_law_chosen) := ⟨rfl, rfl, rfl, by decide +kernel, rfl, by decide +kernel, by decide +kernel⟩
abbrev s_law : Stmt := topS 26
abbrev N_law : List Str := ["_law_script", "_law_box", "_law_world_here", "_law_marks", "_law_ahead_here", "_law_behind_here", "_law_chosen_here", "_law_a", "_law_b", "_law_wider", "_law_every", "_law_table", "_law_mirror", "_law_turn", "_law_c"]
theorem sc_law : FnScope ["_law_script", "_law_box", "_law_world_here", "_law_marks", "_law_ahead_here", "_law_behind_here", "_law_chosen_here", "_law_a", "_law_b", "_law_wider", "_law_every", "_law_table", "_law_mirror", "_law_turn", "_law_c"] ["_law_script"] (defScope s_law) := ⟨rfl, rfl, rfl, by decide +kernel, rfl, by decide +kernel, by decide +kernel⟩
structure Txt (K : PySem.W.Frag) (mg : Str → Option Value) where
  a_hops_of : Addr
  d_hops_of : FuncData
  F_hops_of : Fun K "hops_of" "hops_of" s_hops_of a_hops_of d_hops_of
  b_hops_of : Binds K d_hops_of ["births", "one", "other"] []
  g_hops_of : mg "hops_of" = some (.ref a_hops_of)
  a_told_ahead : Addr
  d_told_ahead : FuncData
  F_told_ahead : Fun K "told_ahead" "told_ahead" s_told_ahead a_told_ahead d_told_ahead
  b_told_ahead : Binds K d_told_ahead ["births", "one", "other"] []
  g_told_ahead : mg "told_ahead" = some (.ref a_told_ahead)
  a_meet_of : Addr
  d_meet_of : FuncData
  F_meet_of : Fun K "meet_of" "meet_of" s_meet_of a_meet_of d_meet_of
  b_meet_of : Binds K d_meet_of ["births", "one", "other"] []
  g_meet_of : mg "meet_of" = some (.ref a_meet_of)
  a_join_of : Addr
  d_join_of : FuncData
  F_join_of : Fun K "join_of" "join_of" s_join_of a_join_of d_join_of
  b_join_of : Binds K d_join_of ["births", "one", "other"] []
  g_join_of : mg "join_of" = some (.ref a_join_of)
  a_untold_stretch : Addr
  d_untold_stretch : FuncData
  F_untold_stretch : Fun K "untold_stretch" "untold_stretch" s_untold_stretch a_untold_stretch d_untold_stretch
  b_untold_stretch : Binds K d_untold_stretch ["births", "one", "other"] []
  g_untold_stretch : mg "untold_stretch" = some (.ref a_untold_stretch)
  a_law_draws : Addr
  d_law_draws : FuncData
  F_law_draws : Fun K "_law_draws" "_law_draws" s_law_draws a_law_draws d_law_draws
  b_law_draws : Binds K d_law_draws ["_law_script"] []
  g_law_draws : mg "_law_draws" = some (.ref a_law_draws)
  a_law_pick : Addr
  d_law_pick : FuncData
  F_law_pick : Fun K "_law_pick" "_law_pick" s_law_pick a_law_pick d_law_pick
  b_law_pick : Binds K d_law_pick ["_law_box", "_law_many"] []
  g_law_pick : mg "_law_pick" = some (.ref a_law_pick)
  a_law_say : Addr
  d_law_say : FuncData
  F_law_say : Fun K "_law_say" "_law_say" s_law_say a_law_say d_law_say
  b_law_say : Binds K d_law_say ["_law_box", "_law_most"] []
  g_law_say : mg "_law_say" = some (.ref a_law_say)
  a_law_all : Addr
  d_law_all : FuncData
  F_law_all : Fun K "_law_all" "_law_all" s_law_all a_law_all d_law_all
  b_law_all : Binds K d_law_all ["_law_world_here"] []
  g_law_all : mg "_law_all" = some (.ref a_law_all)
  a_law_closed : Addr
  d_law_closed : FuncData
  F_law_closed : Fun K "_law_closed" "_law_closed" s_law_closed a_law_closed d_law_closed
  b_law_closed : Binds K d_law_closed ["_law_world_here"] []
  g_law_closed : mg "_law_closed" = some (.ref a_law_closed)
  a_law_behind : Addr
  d_law_behind : FuncData
  F_law_behind : Fun K "_law_behind" "_law_behind" s_law_behind a_law_behind d_law_behind
  b_law_behind : Binds K d_law_behind ["_law_table", "_law_j"] []
  g_law_behind : mg "_law_behind" = some (.ref a_law_behind)
  a_law_ahead : Addr
  d_law_ahead : FuncData
  F_law_ahead : Fun K "_law_ahead" "_law_ahead" s_law_ahead a_law_ahead d_law_ahead
  b_law_ahead : Binds K d_law_ahead ["_law_table", "_law_j"] []
  g_law_ahead : mg "_law_ahead" = some (.ref a_law_ahead)
  a_law_close : Addr
  d_law_close : FuncData
  F_law_close : Fun K "_law_close" "_law_close" s_law_close a_law_close d_law_close
  b_law_close : Binds K d_law_close ["_law_table", "_law_j"] []
  g_law_close : mg "_law_close" = some (.ref a_law_close)
  a_law_pair : Addr
  d_law_pair : FuncData
  F_law_pair : Fun K "_law_pair" "_law_pair" s_law_pair a_law_pair d_law_pair
  b_law_pair : Binds K d_law_pair ["_law_box", "_law_table", "_law_mode"] []
  g_law_pair : mg "_law_pair" = some (.ref a_law_pair)
  a_law_put : Addr
  d_law_put : FuncData
  F_law_put : Fun K "_law_put" "_law_put" s_law_put a_law_put d_law_put
  b_law_put : Binds K d_law_put ["_law_box", "_law_world_here", "_law_mode", "_law_most"] []
  g_law_put : mg "_law_put" = some (.ref a_law_put)
  a_law_world : Addr
  d_law_world : FuncData
  F_law_world : Fun K "_law_world" "_law_world" s_law_world a_law_world d_law_world
  b_law_world : Binds K d_law_world ["_law_box"] []
  g_law_world : mg "_law_world" = some (.ref a_law_world)
  a_law_same : Addr
  d_law_same : FuncData
  F_law_same : Fun K "_law_same" "_law_same" s_law_same a_law_same d_law_same
  b_law_same : Binds K d_law_same ["_law_a", "_law_b"] []
  g_law_same : mg "_law_same" = some (.ref a_law_same)
  a_law_turned : Addr
  d_law_turned : FuncData
  F_law_turned : Fun K "_law_turned" "_law_turned" s_law_turned a_law_turned d_law_turned
  b_law_turned : Binds K d_law_turned ["_law_table"] []
  g_law_turned : mg "_law_turned" = some (.ref a_law_turned)
  a_law_last_of_all : Addr
  d_law_last_of_all : FuncData
  F_law_last_of_all : Fun K "_law_last_of_all" "_law_last_of_all" s_law_last_of_all a_law_last_of_all d_law_last_of_all
  b_law_last_of_all : Binds K d_law_last_of_all ["_law_table", "_law_mirror", "_law_a", "_law_b"] []
  g_law_last_of_all : mg "_law_last_of_all" = some (.ref a_law_last_of_all)
  a_law_holds : Addr
  d_law_holds : FuncData
  F_law_holds : Fun K "_law_holds" "_law_holds" s_law_holds a_law_holds d_law_holds
  b_law_holds : Binds K d_law_holds ["_law_world_here", "_law_marks", "_law_ahead_here", "_law_behind_here", "_law_a", "_law_b"] []
  g_law_holds : mg "_law_holds" = some (.ref a_law_holds)
  a_law_by_name : Addr
  d_law_by_name : FuncData
  F_law_by_name : Fun K "_law_by_name" "_law_by_name" s_law_by_name a_law_by_name d_law_by_name
  b_law_by_name : Binds K d_law_by_name ["_law_world_here", "_law_marks", "_law_ahead_here", "_law_behind_here", "_law_a", "_law_b"] []
  g_law_by_name : mg "_law_by_name" = some (.ref a_law_by_name)
  a_law_chosen : Addr
  d_law_chosen : FuncData
  F_law_chosen : Fun K "_law_chosen" "_law_chosen" s_law_chosen a_law_chosen d_law_chosen
  b_law_chosen : Binds K d_law_chosen ["_law_box", "_law_many"] []
  g_law_chosen : mg "_law_chosen" = some (.ref a_law_chosen)
  a_law : Addr
  d_law : FuncData
  F_law : Fun K "law" "law" s_law a_law d_law
  b_law : Binds K d_law ["_law_script"] []
  g_law : mg "law" = some (.ref a_law)
  kb_meet_of : KBinds K d_meet_of ["births", "one", "other"] ["other", "births", "one"] p201 p201
  kb_join_of : KBinds K d_join_of ["births", "one", "other"] ["one", "other", "births"] p120 p120
  kb_untold_stretch : KBinds K d_untold_stretch ["births", "one", "other"] ["other", "one", "births"] p210 p210
  n_abs : mg "abs" = none
  n_bool : mg "bool" = none
  n_dict : mg "dict" = none
  n_int : mg "int" = none
  n_isinstance : mg "isinstance" = none
  n_len : mg "len" = none
  n_list : mg "list" = none
  n_max : mg "max" = none
  n_min : mg "min" = none
  n_range : mg "range" = none
  n_sorted : mg "sorted" = none
  n_str : mg "str" = none
  n_tuple : mg "tuple" = none
/-! ### births -/
/-- a birth: its left, its right, its size -/
def BtV (G : Hp) (v : V) (L R : Sg) (big : Bool) (sz : Nat) : Prop := ∃ (q : Addr) (who : Int) (l r : V) (t : Str), v = .ref q ∧ G q = some (.tup [.int who, l, r, .str t]) ∧ SgV G l L ∧ SgV G r R ∧ (big = true → t.length = sz) ∧ t.length ≤ 3
theorem BtV.up {G G' : Hp} {v : V} {L R : Sg} {big : Bool} {sz : Nat} (e : Ex G G') (h : BtV G v L R big sz) : BtV G' v L R big sz := by
  obtain ⟨q, who, l, r, t, h1, h2, h3, h4, h5, h6⟩ := h
  exact ⟨q, who, l, r, t, h1, e _ _ h2, h3.up e, h4.up e, h5, h6⟩
structure Brs (G : Hp) (xs : List V) (L R : Nat → Sg) (sz : Nat → Nat) (n : Nat) : Prop where
  len : xs.length = n
  at_ : ∀ c x, xs[c]? = some x → BtV G x (L c) (R c) (decide (0 < c)) (sz c)
  wv : Wv L R sz n
  small : n ≤ 250
theorem Brs.up {G G' : Hp} {xs : List V} {L R : Nat → Sg} {sz : Nat → Nat} {n : Nat} (e : Ex G G') (h : Brs G xs L R sz n) : Brs G' xs L R sz n := ⟨h.len, fun c x hx => (h.at_ c x hx).up e, h.wv, h.small⟩
def Wr (G : Hp) (b : Addr) (L R : Nat → Sg) (sz : Nat → Nat) (n : Nat) : Prop := ∃ xs, G b = some (.tup xs) ∧ Brs G xs L R sz n
theorem Wr.up {G G' : Hp} {b : Addr} {L R : Nat → Sg} {sz : Nat → Nat} {n : Nat} (e : Ex G G') (h : Wr G b L R sz n) : Wr G' b L R sz n := h.imp fun _ z => ⟨e _ _ z.1, z.2.up e⟩
/-- a pair of signs -/
def HpV (G : Hp) (v : V) (z : Sg × Sg) : Prop := ∃ (p : Addr) (a b : V), v = .ref p ∧ G p = some (.tup [a, b]) ∧ SgV G a z.1 ∧ SgV G b z.2
theorem HpV.up {G G' : Hp} {v : V} {z : Sg × Sg} (e : Ex G G') (h : HpV G v z) : HpV G' v z := by
  obtain ⟨p, a, b, h1, h2, h3, h4⟩ := h
  exact ⟨p, a, b, h1, e _ _ h2, h3.up e, h4.up e⟩
/-- a list of our own under way -/
structure Ls (A : Addr → Prop) (G H : Hp) (l : Addr) (G1 H1 : Hp) (xs : List V) : Prop where
  t : Gr A G H G1 H1
  own : H1 l = some (.lst xs)
  gp : G1 l = none
  hp : H l = none
section
variable {A : Addr → Prop} {G H G1 H1 G2 H2 : Hp} {l : Addr} {xs ys : List V}
theorem Ls.step (b : Ls A G H l G1 H1 xs) (t : Gr A G1 H1 G2 H2) (na : ¬ A l) : Ls A G H l G2 H2 xs := ⟨b.t.trans t, t.hh _ _ na b.own, t.nw _ _ b.own b.gp, b.hp⟩
theorem Ls.put (b : Ls A G H l G1 H1 xs) (ys : List V) : Ls A G H l G1 (upd H1 l (.lst ys)) ys := ⟨b.t.mut (.inr b.hp) b.gp, upd_same, b.gp, b.hp⟩
theorem Ls.start (t : Gr A G H G1 H1) (n : H1 l = none) : Ls A G H l G1 (upd H1 l (.lst xs)) xs := ⟨t.trans (Gr.own t.gh n), upd_same, t.gh.free n, t.fresh n⟩
theorem Ls.give (b : Ls A G H l G1 H1 xs) : Gr A G H (upd G1 l (.lst xs)) H1 := b.t.give b.hp b.own b.gp
end
section
variable {P : Program} {w : World} {K : PySem.W.Frag} {mg : Str → Option Value} {base : Heap}
def spHops : Sp := fun vs H Q _ => ∃ (b : Addr) (v u : V) (L R : Nat → Sg) (sz : Nat → Nat) (n : Nat) (x y : Sg), vs = [.ref b, v, u] ∧ Wr H b L R sz n ∧ SgV H v x ∧ SgV H u y ∧ Ok sz n x ∧ Ok sz n y ∧
  ∀ p H' xs hs, Ex H H' → H' p = some (.tup xs) → P2 (HpV H') xs hs → Hps L R x y hs → hs.length ≤ n → Q (.ref p) H'
theorem ok_hops_of (T : Txt K mg) : FnOk P w K mg base CX0 1 T.a_hops_of T.d_hops_of ["births", "one", "other"] spHops := by
  refine T.F_hops_of.ok sc_hops_of (fun vs H Q E h => ?_) (fun cdv A outer s H vs Q E hr h => ?_)
  · obtain ⟨b, v, u, L, R, sz, n, x, y, rfl, _⟩ := h
    rfl
  · obtain ⟨b, v, u, L, R, sz, n, x, y, rfl, ⟨ws, hb, br⟩, hv, hu, okx, oky, q⟩ := h
    refine ⟨_, (pss_cons (ps_set (i := 3) sc_hops_of.nd rfl (Or.inl rfl) (pe_lst (pa_cons (pe_tup (pa_cons (pv 1) (pa_cons (pv 2) pa_nil))) pa_nil)))
        (pss_cons (ps_while PassesOwn.never (pt_cmpR (op_neU hr.units) (pe_ix ix_seq (pv 1) pe_int (fun _ _ => rfl)) (pe_ix ix_seq (pv 2) pe_int (fun _ _ => rfl)) (nomark _)) (Evl.pss_cut (ps_if (pt_cmpR op_gt (pe_ix ix_seq (pv 1) pe_int (fun _ _ => rfl)) (pe_ix ix_seq (pv 2) pe_int (fun _ _ => rfl)) (nomark _)) (pss_one (ps_set (i := 1) sc_hops_of.nd rfl (Or.inl rfl) (pe_ix ix_seq (pe_ix ix_seq (pv 0) (pe_ix ix_seq (pv 1) pe_int (fun _ _ => rfl)) (fun _ _ => rfl)) pe_int (fun _ _ => rfl)))) (pss_one (ps_set (i := 2) sc_hops_of.nd rfl (Or.inl rfl) (pe_ix ix_seq (pe_ix ix_seq (pv 0) (pe_ix ix_seq (pv 2) pe_int (fun _ _ => rfl)) (fun _ _ => rfl)) pe_int (fun _ _ => rfl)))))
        (pss_one (ps_expr (pe_bm PySem.F.plainAttrs_list PySem.F.slot_list_append PySem.F.type_list_append mt_append (pv 3) (pa_cons (pe_tup (pa_cons (pv 1) (pa_cons (pv 2) pa_nil))) pa_nil))))))
        (pss_one (ps_ret (pe_callTy call_tupU (by rfl) T.n_tuple (by decide +kernel) (pa_cons (pv 3) pa_nil)))))), ?_⟩
    have e0 := Same.refl H
    walk_at "rd"
    refine r_small nsz fun p1 n1 => ?_
    obtain ⟨G1, H1, k1, s1, h1⟩ := new_ex e0 n1 (.tup [v, u])
    rw [← k1]
    walk_at "rd"
    refine r_small nsz fun l n2 => ?_
    have B : Ls A0 H H l G1 (upd H1 l (.lst [.ref p1])) [.ref p1] := Ls.start s1 n2
    walk_at "rd"
    refine ⟨fun m σ H' => ∃ v u x2 y2 pre xs G', σ = [some (.ref b), some v, some u, some (.ref l)] ∧ Ls A0 H H l G' H' xs ∧ P2 (HpV G') xs (pre ++ [(x2, y2)]) ∧ SgV G' v x2 ∧ SgV G' u y2 ∧ Ok sz n x2 ∧ Ok sz n y2 ∧
      m = x2.1 + y2.1 ∧ pre.length + max x2.1 y2.1 < n ∧ ∀ t, Hps L R x2 y2 t → Hps L R x y (pre ++ t), ⟨_, v, u, x, y, [], _, G1, rfl, B, .cons ⟨p1, v, u, rfl, h1, hv.up s1.gg, hu.up s1.gg⟩ .nil, hv.up s1.gg, hu.up s1.gg, okx, oky, rfl, ?_, fun t h => h⟩, fun m σ H' hW => ?_⟩
    · have a1 := okx.1
      have a2 := oky.1
      show 0 + _ < _
      omega
    obtain ⟨v', u', x', y', pre, xs, G', rfl, B', hP, hv', hu', okx', oky', rfl, hlen, hH⟩ := hW
    obtain ⟨p2, rfl, hp2⟩ := id hv'
    obtain ⟨p3, rfl, hp3⟩ := id hu'
    have hp2' := B'.t.gh _ _ hp2
    have hp3' := B'.t.gh _ _ hp3
    have b3' := B'.t.gh _ _ (B'.t.gg _ _ hb)
    have pl : xs.length ≤ 260 := by
      have z := hP.len
      rw [List.length_append] at z
      have z2 := br.small
      simp at z
      omega
    walk_at "rd"
    refine r_ixT (sqT hp2') (atI_nat (j := 0) rfl) ?_
    walk_at "rd"
    refine r_ixT (sqT hp3') (atI_nat (j := 0) rfl) ?_
    walk_at "rd"
    refine r_iteN (fun hne => ?_) (fun heq => ?_)
    · have hne' : x'.1 ≠ y'.1 := fun z => hne (by rw [z])
      refine ⟨fun σ H' => ∃ v u x2 y2 pre xs G', σ = [some (.ref b), some v, some u, some (.ref l)] ∧ Ls A0 H H l G' H' xs ∧ P2 (HpV G') xs (pre ++ [(x2, y2)]) ∧ SgV G' v x2 ∧ SgV G' u y2 ∧ Ok sz n x2 ∧ Ok sz n y2 ∧
        x2.1 + y2.1 < x'.1 + y'.1 ∧ pre.length + max x2.1 y2.1 < n ∧ ∀ t, Hps L R x2 y2 t → Hps L R x y (pre ++ t), fun σ' H2 ⟨v, u, x2, y2, pre, xs, G', h1, h2, h3, h4, h5, h6, h7, h8, h9⟩ => ⟨_, h8, v, u, x2, y2, pre, xs, G', h1, h2, h3, h4, h5, h6, h7, rfl, h9⟩, ?_⟩
      walk_at "rs"
      refine ⟨fun σ H2 => H2 = H' ∧ ∃ v u x2 y2, σ = [some (.ref b), some v, some u, some (.ref l)] ∧ SgV G' v x2 ∧ SgV G' u y2 ∧ Ok sz n x2 ∧ Ok sz n y2 ∧ x2.1 + y2.1 < x'.1 + y'.1 ∧ pre.length + 1 + max x2.1 y2.1 < n ∧ ∀ t, Hps L R x2 y2 t → Hps L R x' y' ((x', y') :: t), ?_, ?_⟩
      · walk_at "rd"
        refine r_ixT (sqT hp2') (atI_nat (j := 0) rfl) ?_
        walk_at "rd"
        refine r_ixT (sqT hp3') (atI_nat (j := 0) rfl) ?_
        walk_at "rd"
        refine r_ite (fun hgt => ?_) (fun hle => ?_)
        · have hg : y'.1 < x'.1 := by omega
          obtain ⟨bv, hbv⟩ : ∃ bv, ws[x'.1]? = some bv := ⟨_, List.getElem?_eq_getElem (by rw [br.len]; exact okx'.1)⟩
          obtain ⟨q4, who, lv, rv, tx, rfl, hq4, hL, hR, _⟩ := br.at_ _ _ hbv
          have hq4' := B'.t.gh _ _ (B'.t.gg _ _ hq4)
          walk_at "rd"
          refine r_ixT (sqT hp2') (atI_nat (j := 0) rfl) ?_
          walk_at "rd"
          refine r_ixT (sqT b3') (atI_nat hbv) ?_
          walk_at "rd"
          refine r_ixT (sqT hq4') (atI_nat (j := 2) rfl) ?_
          walk_at "rd"
          have w1 := br.wv.okR (show 0 < x'.1 by omega) okx'.1
          have w2 := br.wv.r x'.1 (by omega) okx'.1
          exact ⟨rfl, rv, .ref p3, R x'.1, y', rfl, hR.up B'.t.gg, hu', w1, oky', by omega, by omega, fun t ht => .rgo hg ht⟩
        · have hl : x'.1 < y'.1 := by omega
          obtain ⟨bv, hbv⟩ : ∃ bv, ws[y'.1]? = some bv := ⟨_, List.getElem?_eq_getElem (by rw [br.len]; exact oky'.1)⟩
          obtain ⟨q4, who, lv, rv, tx, rfl, hq4, hL, hR, _⟩ := br.at_ _ _ hbv
          have hq4' := B'.t.gh _ _ (B'.t.gg _ _ hq4)
          walk_at "rd"
          refine r_ixT (sqT hp3') (atI_nat (j := 0) rfl) ?_
          walk_at "rd"
          refine r_ixT (sqT b3') (atI_nat hbv) ?_
          walk_at "rd"
          refine r_ixT (sqT hq4') (atI_nat (j := 1) rfl) ?_
          walk_at "rd"
          have w1 := br.wv.okL (show 0 < y'.1 by omega) oky'.1
          have w2 := br.wv.l y'.1 (by omega) oky'.1
          exact ⟨rfl, .ref p2, lv, x', L y'.1, rfl, hv', hL.up B'.t.gg, okx', w1, by omega, by omega, fun t ht => .lgo hl ht⟩
      · rintro σ H2 ⟨rfl, v2, u2, x2, y2, rfl, sv2, su2, ok2, ok3, hm, hl2, hh⟩
        walk_at "rd"
        refine r_tyL (sqL B'.own) ?_
        walk_at "rd"
        refine r_small nsz fun p5 n5 => ?_
        obtain ⟨G5, H5, k5, s5, h5⟩ := new_ex B'.t.gh n5 (.tup [v2, u2])
        rw [← k5]
        have B5 := B'.step s5 id
        walk_at "rd"
        refine r_app B5.own (Nat.lt_of_le_of_lt pl (by decide)) ?_
        walk_at "rd"
        have B6 := B5.put (xs ++ [.ref p5])
        refine ⟨v2, u2, x2, y2, pre ++ [(x', y')], _, G5, rfl, B6, ?_, sv2.up s5.gg, su2.up s5.gg, ok2, ok3, hm, ?_, fun t ht => ?_⟩
        · exact (hP.imp fun _ _ z => z.up s5.gg).snoc ⟨p5, v2, u2, rfl, h5, sv2.up s5.gg, su2.up s5.gg⟩
        · rw [List.length_append]
          exact hl2
        · rw [List.append_assoc]
          exact hH _ (hh t ht)
    · have heq' : x'.1 = y'.1 := Int.ofNat.inj (V.int.inj heq)
      walk_at "rd"
      refine r_tupL (sqL B'.own) fun p6 n6 => ?_
      have hf := Same.new (o := .tup xs) (Same.refl H') n6
      refine q p6 _ xs _ (B'.t.g0.trans hf) upd_same (hP.imp fun _ _ z => (z.up B'.t.gh).up hf) (hH _ (.stop heq')) ?_
      rw [List.length_append]
      show _ + 1 ≤ _
      omega
/-- two signs of births -/
def spTold (f : (Nat → Sg) → (Nat → Sg) → Sg → Sg → Prop) : Sp := fun vs H Q _ => ∃ (b : Addr) (v u : V) (L R : Nat → Sg) (sz : Nat → Nat) (n : Nat) (x y : Sg), vs = [.ref b, v, u] ∧ Wr H b L R sz n ∧ SgV H v x ∧ SgV H u y ∧ Ok sz n x ∧ Ok sz n y ∧
  ∀ H' c, Ex H H' → (c = true ↔ f L R x y) → Q (.bl c) H'
theorem ok_told_ahead (T : Txt K mg) : FnOk P w K mg base CX0 2 T.a_told_ahead T.d_told_ahead ["births", "one", "other"] (spTold A) := by
  refine T.F_told_ahead.ok sc_told_ahead (fun vs H Q E h => ?_) (fun cdv A outer s H vs Q E hr h => ?_)
  · obtain ⟨b, v, u, L, R, sz, n, x, y, rfl, _⟩ := h
    rfl
  · obtain ⟨b, v, u, L, R, sz, n, x, y, rfl, wr, hv, hu, okx, oky, q⟩ := h
    refine ⟨_, (pss_cons (ps_set (i := 3) sc_told_ahead.nd rfl (Or.inl rfl) (pe_call (ok_hops_of T) hr (by rfl) T.g_hops_of T.F_hops_of.kp T.b_hops_of .nil pass0 (pa_cons (pv 0) (pa_cons (pv 1) (pa_cons (pv 2) pa_nil)))))
        (pss_cons (ps_asg (pe_ix ix_seq (pv 3) (pe_un un_neg pe_int) (fun _ _ => rfl)) (pg_tup rfl (pgs_cons (pg_name (i := 4) sc_told_ahead.nd rfl (Or.inl rfl)) (pgs_cons (pg_name (i := 5) sc_told_ahead.nd rfl (Or.inl rfl)) pgs_nil))))
        (pss_one (ps_ret (pe_or (pe_cmpR op_lt (pe_ix ix_seq (pv 4) pe_int (fun _ _ => rfl)) (pe_ix ix_seq (pv 5) pe_int (fun _ _ => rfl)) (nomark _)) (pe_one (pe_and (pe_cmpR (op_eqU hr.units) (pe_ix ix_seq (pv 4) pe_int (fun _ _ => rfl)) (pe_ix ix_seq (pv 5) pe_int (fun _ _ => rfl)) (nomark _)) (pe_one (pe_cmpR op_gt (pe_callB call_lenU (by rfl) T.n_len (by decide +kernel) (pa_cons (pv 3) pa_nil)) pe_int (nomark _)))))))))), ?_⟩
    walk_at "rd"
    refine ⟨b, v, u, L, R, sz, n, x, y, rfl, wr, hv, hu, okx, oky, fun p H1 xs hs e hp hP hH hl => ?_⟩
    obtain ⟨l, r, pre, rfl, _, ha⟩ := hH.last
    obtain ⟨z, hz, pz, v1, v2, rfl, hpz, ⟨q1, rfl, hq1⟩, q2, rfl, hq2⟩ := hP.get' (i := pre.length) (b := (l, r)) (by simp)
    have hlen := hP.len
    replace hq1 : H1 q1 = some (.tup [.int (l.1 : Nat), .int (l.2 : Nat)]) := hq1
    replace hq2 : H1 q2 = some (.tup [.int (r.1 : Nat), .int (r.2 : Nat)]) := hq2
    have hm1 : atI xs (-1) = some (.ref pz) := by
      have e2 : xs.length = pre.length + 1 := by rw [hlen]; simp
      obtain ⟨l', y', hxs⟩ : ∃ l' y', xs = l' ++ [y'] := ⟨_, _, (List.dropLast_concat_getLast (by intro z; rw [z] at e2; simp at e2)).symm⟩
      subst hxs
      rw [atI_last]
      have e3 : l'.length = pre.length := by simpa using e2
      rw [← e3] at hz
      simp at hz
      rw [hz]
    walk_at "rd"
    refine r_ixT (sqT hp) hm1 ?_
    walk_at "rd"
    refine r_gtup (sqT hpz) rfl ?_
    walk_at "rd"
    refine r_ixT (sqT hq1) (atI_nat (j := 1) rfl) ?_
    walk_at "rd"
    refine r_ixT (sqT hq2) (atI_nat (j := 1) rfl) ?_
    walk_at "rd"
    refine r_ite (fun h1 => ?_) (fun h1 => ?_)
    · exact q _ _ e ⟨fun _ => ha.mpr (.inl (by omega)), fun _ => rfl⟩
    walk_at "rd"
    refine r_ixT (sqT hq1) (atI_nat (j := 1) rfl) ?_
    walk_at "rd"
    refine r_ixT (sqT hq2) (atI_nat (j := 1) rfl) ?_
    walk_at "rd"
    refine r_ite (fun h2 => ?_) (fun h2 => ?_)
    · walk_at "rd"
      refine r_lenT (sqT hp) ?_
      walk_at "rd"
      refine q _ _ e ?_
      rw [decide_eq_true_iff, ha, hlen]
      have h2' := V.int.inj h2
      constructor
      · intro h3
        exact .inr ⟨by omega, by omega⟩
      · rintro (h3 | ⟨_, h3⟩) <;> omega
    · refine q _ _ e ⟨fun h => (nomatch h), fun h => ?_⟩
      have h2' : ¬ ((l.2 : Int) = r.2) := fun z => h2 (by rw [z])
      rcases ha.mp h with h3 | ⟨h3, _⟩ <;> omega
end
end K21
namespace K21
open PySem PySem.Spec PyProof.Rows L2 Dk Tl
/-- one step of a reading -/
local macro_rules | `(tactic| walk_at "rd1") => `(tactic| first
  | ((with_reducible refine r_var (v := ?rv) ?rh ?_); (case rh => rfl))
  | with_reducible refine r_c ?_
  | with_reducible refine r_seq ?_
  | with_reducible refine r_asg ?_
  | with_reducible refine r_par ?_
  | with_reducible refine r_gname ?_
  | with_reducible refine r_op ?_
  | with_reducible refine r_forLo ?_
  | with_reducible refine r_forTo ?_
  | with_reducible refine r_forSo ?_
  | with_reducible refine r_forRo ?_
  | with_reducible refine r_lcRo ?_
  | with_reducible refine r_lcLo ?_
  | with_reducible refine r_yes ?_
  | with_reducible refine r_callK0 ?_
  | with_reducible refine r_break ?_
  | with_reducible refine r_forR2o ?_
  | with_reducible refine r_forEo ?_
  | with_reducible refine r_forESo ?_
  | with_reducible refine r_xfo ?_
  | with_reducible refine r_noP ?_
  | with_reducible refine r_part ?_
  | with_reducible refine r_pI ?_
  | with_reducible refine r_gcons ?_
  | with_reducible refine r_gnil ?_
  | with_reducible refine r_mkO ?_
  | with_reducible refine r_un ?_
  | with_reducible refine r_addI ?_
  | with_reducible refine r_I0 ?_
  | with_reducible refine r_U ?_
  | with_reducible refine r_cons ?_
  | with_reducible refine r_nil ?_
  | with_reducible refine r_CB ?_
  | with_reducible refine r_call ?_
  | with_reducible refine r_callS ?_
  | with_reducible refine r_int ?_
  | with_reducible refine r_max ?_
  | with_reducible refine r_min ?_
  | with_reducible refine r_test ?_
  | with_reducible refine r_B ?_
  | with_reducible refine r_blv ?_
  | with_reducible refine r_and ?_
  | with_reducible refine r_or ?_
  | with_reducible refine r_not ?_
  | with_reducible refine r_andV ?_
  | with_reducible refine r_orV ?_
  | with_reducible refine r_notV ?_
  | with_reducible refine r_ifE ?_
  | with_reducible refine r_ifS ?_
  | with_reducible refine r_ret ?_
  | with_reducible refine r_retN ?_
  | with_reducible refine r_drop ?_
  | with_reducible refine r_next ?_
  | with_reducible refine r_sl ?_
  | with_reducible refine r_gsub ?_
  | with_reducible refine r_bm ?_
  | with_reducible refine r_tup ?_
  | with_reducible refine r_lst ?_
  | with_reducible refine r_isN ?_
  | with_reducible refine r_notN ?_
  | with_reducible refine r_itt ?_
  | with_reducible refine r_iff ?_
  | with_reducible refine r_ittN ?_
  | with_reducible refine r_iffN ?_
  | ((with_reducible refine r_ittD ?rh ?_); (case rh => rfl))
  | ((with_reducible refine r_iffD ?rh ?_); (case rh => rfl))
  | ((with_reducible refine r_modP ?rh ?_); (case rh => decide))
  | ((with_reducible refine r_eq ?rh ?_); (case rh => rfl))
  | ((with_reducible refine r_eqP ?rh ?_); (case rh => rfl))
  | ((with_reducible refine r_ne ?rh ?_); (case rh => rfl)))
local macro_rules | `(tactic| walk_at "rd") => `(tactic| repeat walk_at "rd1")
local macro_rules | `(tactic| walk_at "isi") => `(tactic| first | refine r_isi (b := true) (by assumption) (by decide +kernel) ?_ | refine r_isi (b := false) (by assumption) (by decide +kernel) ?_)
local macro_rules | `(tactic| walk_at "rs1") => `(tactic| first
  | with_reducible refine r_seq ?_
  | with_reducible refine r_asg ?_
  | with_reducible refine r_gname ?_
  | with_reducible refine r_ret ?_)
local macro_rules | `(tactic| walk_at "rs") => `(tactic| repeat walk_at "rs1")

section
variable {P : Program} {w : World} {K : PySem.W.Frag} {mg : Str → Option Value} {base : Heap}
/-! ### the same data -/
def Sm (H : Hp) : Nat → V → V → Prop
  | 0, _, _ => False
  | d + 1, v, u => (∃ b, v = .bl b ∧ u = .bl b) ∨ (∃ i, v = .int i ∧ u = .int i) ∨ ∃ p q xs ys, v = .ref p ∧ u = .ref q ∧ H p = some (.tup xs) ∧ H q = some (.tup ys) ∧ xs.length ≤ 1000 ∧ P2 (Sm H d) xs ys
theorem Sm.up {H H' : Hp} (e : Ex H H') : ∀ {d : Nat} {v u : V}, Sm H d v u → Sm H' d v u
  | 0, _, _, h => h
  | d + 1, v, u, h => by
    rcases h with h | h | ⟨p, q, xs, ys, h1, h2, h3, h4, h5, h6⟩
    · exact .inl h
    · exact .inr (.inl h)
    · exact .inr (.inr ⟨p, q, xs, ys, h1, h2, e _ _ h3, e _ _ h4, h5, h6.imp fun _ _ z => Sm.up e z⟩)
def spSame (d : Nat) : Sp := fun vs H Q _ => ∃ v u, vs = [v, u] ∧ Sm H d v u ∧ ∀ H', Ex H H' → Q (.bl true) H'
theorem ok_same (T : Txt K mg) : ∀ d, FnOk P w K mg base CX0 d T.a_law_same T.d_law_same ["_law_a", "_law_b"] (spSame d) := by
  intro d
  induction d with
  | zero => exact ⟨fun vs H Q E h => by
      obtain ⟨_, _, _, h, _⟩ := h
      exact h.elim, fun A outer s H args us vs Q E _ _ _ _ h => by
      obtain ⟨_, _, _, h, _⟩ := h
      exact h.elim⟩
  | succ d ih =>
    have ok_law_same : Txt K mg → FnOk P w K mg base CX0 d T.a_law_same T.d_law_same ["_law_a", "_law_b"] (spSame d) := fun _ => ih
    refine T.F_law_same.ok sc_law_same (fun vs H Q E h => ?_) (fun cdv A outer s H vs Q E hr h => ?_)
    · obtain ⟨v, u, rfl, _⟩ := h
      rfl
    · obtain ⟨v, u, rfl, h, q⟩ := h
      have hr1 := hr
      refine ⟨_, (pss_cons (ps_if (PW.pt (pw_or (pt_cmpR op_isU (pv 0) pe_non (nomark _)) (pw_or1 (pt_cmpR op_isU (pv 1) pe_non (nomark _))))) (pss_one (ps_ret (pe_and (pe_cmpR op_isU (pv 0) pe_non (nomark _)) (pe_one (pe_cmpR op_isU (pv 1) pe_non (nomark _)))))) pss_nil)
        (pss_cons (ps_if (PW.pt (pw_or (pt_val (pe_callB call_isi (by rfl) T.n_isinstance (by decide +kernel) (pa_cons (pv 0) (pa_cons (pe_bltn (v := .ty "bool") (by rfl) T.n_bool (by decide +kernel) rfl) pa_nil)))) (pw_or1 (pt_val (pe_callB call_isi (by rfl) T.n_isinstance (by decide +kernel) (pa_cons (pv 1) (pa_cons (pe_bltn (v := .ty "bool") (by rfl) T.n_bool (by decide +kernel) rfl) pa_nil))))))) (pss_one (ps_ret (pe_and (pe_callB call_isi (by rfl) T.n_isinstance (by decide +kernel) (pa_cons (pv 0) (pa_cons (pe_bltn (v := .ty "bool") (by rfl) T.n_bool (by decide +kernel) rfl) pa_nil))) (pe_and (pe_callB call_isi (by rfl) T.n_isinstance (by decide +kernel) (pa_cons (pv 1) (pa_cons (pe_bltn (v := .ty "bool") (by rfl) T.n_bool (by decide +kernel) rfl) pa_nil))) (pe_one (pe_cmpR (op_eqU hr.units) (pv 0) (pv 1) (nomark _))))))) pss_nil)
        (pss_cons (ps_if (PW.pt (pw_or (pt_val (pe_callB call_isi (by rfl) T.n_isinstance (by decide +kernel) (pa_cons (pv 0) (pa_cons (pe_bltn (v := .ty "int") (by rfl) T.n_int (by decide +kernel) rfl) pa_nil)))) (pw_or1 (pt_val (pe_callB call_isi (by rfl) T.n_isinstance (by decide +kernel) (pa_cons (pv 1) (pa_cons (pe_bltn (v := .ty "int") (by rfl) T.n_int (by decide +kernel) rfl) pa_nil))))))) (pss_one (ps_ret (pe_and (pe_callB call_isi (by rfl) T.n_isinstance (by decide +kernel) (pa_cons (pv 0) (pa_cons (pe_bltn (v := .ty "int") (by rfl) T.n_int (by decide +kernel) rfl) pa_nil))) (pe_and (pe_callB call_isi (by rfl) T.n_isinstance (by decide +kernel) (pa_cons (pv 1) (pa_cons (pe_bltn (v := .ty "int") (by rfl) T.n_int (by decide +kernel) rfl) pa_nil))) (pe_one (pe_cmpR (op_eqU hr.units) (pv 0) (pv 1) (nomark _))))))) pss_nil)
        (pss_cons (ps_if (PW.pt (pw_or (pt_val (pe_callB call_isi (by rfl) T.n_isinstance (by decide +kernel) (pa_cons (pv 0) (pa_cons (pe_bltn (v := .ty "str") (by rfl) T.n_str (by decide +kernel) rfl) pa_nil)))) (pw_or1 (pt_val (pe_callB call_isi (by rfl) T.n_isinstance (by decide +kernel) (pa_cons (pv 1) (pa_cons (pe_bltn (v := .ty "str") (by rfl) T.n_str (by decide +kernel) rfl) pa_nil))))))) (pss_one (ps_ret (pe_and (pe_callB call_isi (by rfl) T.n_isinstance (by decide +kernel) (pa_cons (pv 0) (pa_cons (pe_bltn (v := .ty "str") (by rfl) T.n_str (by decide +kernel) rfl) pa_nil))) (pe_and (pe_callB call_isi (by rfl) T.n_isinstance (by decide +kernel) (pa_cons (pv 1) (pa_cons (pe_bltn (v := .ty "str") (by rfl) T.n_str (by decide +kernel) rfl) pa_nil))) (pe_one (pe_cmpR (op_eqU hr.units) (pv 0) (pv 1) (nomark _))))))) pss_nil)
        (pss_cons (ps_if (PW.pt (pw_or (pt_val (pe_callB call_isi (by rfl) T.n_isinstance (by decide +kernel) (pa_cons (pv 0) (pa_cons (pe_bltn (v := .ty "dict") (by rfl) T.n_dict (by decide +kernel) rfl) pa_nil)))) (pw_or1 (pt_val (pe_callB call_isi (by rfl) T.n_isinstance (by decide +kernel) (pa_cons (pv 1) (pa_cons (pe_bltn (v := .ty "dict") (by rfl) T.n_dict (by decide +kernel) rfl) pa_nil))))))) (pss_cons (ps_if (pt_not (PW.pt (pw_and (pt_val (pe_callB call_isi (by rfl) T.n_isinstance (by decide +kernel) (pa_cons (pv 0) (pa_cons (pe_bltn (v := .ty "dict") (by rfl) T.n_dict (by decide +kernel) rfl) pa_nil)))) (pw_and1 (pt_val (pe_callB call_isi (by rfl) T.n_isinstance (by decide +kernel) (pa_cons (pv 1) (pa_cons (pe_bltn (v := .ty "dict") (by rfl) T.n_dict (by decide +kernel) rfl) pa_nil)))))))) (pss_one (ps_ret pe_bl)) pss_nil)
        (pss_one (ps_ret pe_never))) pss_nil)
        (pss_cons (ps_if (PW.pt (pw_or (pt_cmpR (op_neU hr.units) (pe_callB call_isi (by rfl) T.n_isinstance (by decide +kernel) (pa_cons (pv 0) (pa_cons (pe_bltn (v := .ty "tuple") (by rfl) T.n_tuple (by decide +kernel) rfl) pa_nil))) (pe_callB call_isi (by rfl) T.n_isinstance (by decide +kernel) (pa_cons (pv 1) (pa_cons (pe_bltn (v := .ty "tuple") (by rfl) T.n_tuple (by decide +kernel) rfl) pa_nil))) (nomark _)) (pw_or1 (pt_cmpR (op_neU hr.units) (pe_callB call_isi (by rfl) T.n_isinstance (by decide +kernel) (pa_cons (pv 0) (pa_cons (pe_bltn (v := .ty "list") (by rfl) T.n_list (by decide +kernel) rfl) pa_nil))) (pe_callB call_isi (by rfl) T.n_isinstance (by decide +kernel) (pa_cons (pv 1) (pa_cons (pe_bltn (v := .ty "list") (by rfl) T.n_list (by decide +kernel) rfl) pa_nil))) (nomark _))))) (pss_one (ps_ret pe_bl)) pss_nil)
        (pss_cons (ps_if (PW.pt (pw_or (pt_not (pt_val (pe_callB call_isiT (by rfl) T.n_isinstance (by decide +kernel) (pa_cons (pv 0) (pa_cons (pe_tup (pa_cons (pe_bltn (v := .ty "tuple") (by rfl) T.n_tuple (by decide +kernel) rfl) (pa_cons (pe_bltn (v := .ty "list") (by rfl) T.n_list (by decide +kernel) rfl) pa_nil))) pa_nil))))) (pw_or1 (pt_cmpR (op_neU hr.units) (pe_callB call_lenU (by rfl) T.n_len (by decide +kernel) (pa_cons (pv 0) pa_nil)) (pe_callB call_lenU (by rfl) T.n_len (by decide +kernel) (pa_cons (pv 1) pa_nil)) (nomark _))))) (pss_one (ps_ret pe_bl)) pss_nil)
        (pss_cons (ps_for PassesOwn.never rfl (pi_range1 (by rfl) T.n_range (pa_cons (pe_callB call_lenU (by rfl) T.n_len (by decide +kernel) (pa_cons (pv 0) pa_nil)) pa_nil)) (pg_name (i := 2) sc_law_same.nd rfl (Or.inl rfl)) (pss_one (ps_if (pt_not (pt_val (pe_call (ok_law_same T) hr1 (by rfl) T.g_law_same T.F_law_same.kp T.b_law_same .nil pass0 (pa_cons (pe_ix ix_seq (pv 0) (pv 2) (fun _ _ => rfl)) (pa_cons (pe_ix ix_seq (pv 1) (pv 2) (fun _ _ => rfl)) pa_nil))))) (pss_one (ps_ret pe_bl)) pss_nil)))
        (pss_one (ps_ret pe_bl)))))))))), ?_⟩
      rcases h with ⟨b, rfl, rfl⟩ | ⟨i, rfl, rfl⟩ | ⟨p, p2, xs, ys, rfl, rfl, hp, hp2, hl, hP⟩
      · have ty : TyX K H (.bl b) (.type "bool") := .base (.bl b)
        walk_at "rd"
        walk_at "isi"
        walk_at "rd"
        walk_at "isi"
        walk_at "rd"
        walk_at "isi"
        walk_at "rd"
        have e : decide (V.bl b = V.bl b) = true := decide_eq_true rfl
        rw [e]
        exact q _ (Same.refl H)
      · have ty : TyX K H (.int i) (.type "int") := .base (.int i)
        walk_at "rd"
        walk_at "isi"
        walk_at "rd"
        walk_at "isi"
        walk_at "rd"
        walk_at "isi"
        walk_at "rd"
        walk_at "isi"
        walk_at "rd"
        walk_at "isi"
        walk_at "rd"
        have e : decide (V.int i = V.int i) = true := decide_eq_true rfl
        rw [e]
        exact q _ (Same.refl H)
      · have ty : TyX K H (.ref p) (.type "tuple") := .base (.tup hp)
        have ty2 : TyX K H (.ref p2) (.type "tuple") := .base (.tup hp2)
        walk_at "rd"
        iterate 12 (walk_at "isi"; walk_at "rd")
        refine r_small nsz fun f n1 => ?_
        have e1 : Ex H (upd H f (.tup [.ty "tuple", .ty "list"])) := Same.new (Same.refl H) n1
        walk_at "rd"
        refine r_isiT2 upd_same (.base (.tup (e1 _ _ hp))) (b := true) (c := false) (by decide +kernel) (by decide +kernel) ?_
        walk_at "rd"
        refine r_lenT (sqT (e1 _ _ hp)) ?_
        walk_at "rd"
        refine r_lenT (sqT (e1 _ _ hp2)) ?_
        walk_at "rd"
        have el : xs.length = ys.length := hP.len
        refine r_iteN (fun hn => absurd (by rw [el]) hn) (fun _ => ?_)
        walk_at "rd"
        refine r_lenT (sqT (e1 _ _ hp)) ?_
        walk_at "rd"
        refine l_R (by omega) (by omega) (fun i σ H' => ∃ z, σ = [some (.ref p), some (.ref p2), z] ∧ Ex H H') ⟨none, rfl, e1⟩ (fun i σ H' hi hW => ?_) (fun σ H' hW => ?_)
        · obtain ⟨z, rfl, e⟩ := hW
          obtain ⟨x, hx⟩ : ∃ x, xs[i]? = some x := ⟨_, List.getElem?_eq_getElem (by omega)⟩
          obtain ⟨y, hy, hxy⟩ := hP.get hx
          walk_at "rd"
          refine r_ixT (sqT (e _ _ hp)) (atI_nat hx) ?_
          walk_at "rd"
          refine r_ixT (sqT (e _ _ hp2)) (atI_nat hy) ?_
          walk_at "rd"
          refine ⟨x, y, rfl, hxy.up e, fun H2 e2 => ?_⟩
          walk_at "rd"
          exact ⟨_, rfl, e.trans e2⟩
        · obtain ⟨z, rfl, e⟩ := hW
          walk_at "rd"
          exact q _ e
theorem ok_law_same (T : Txt K mg) : FnOk P w K mg base CX0 4 T.a_law_same T.d_law_same ["_law_a", "_law_b"] (spSame 4) := ok_same T 4
end
end K21
namespace K21
open PySem PySem.Spec PyProof.Rows L2 Dk Tl
/-- one step of a reading -/
local macro_rules | `(tactic| walk_at "rd1") => `(tactic| first
  | ((with_reducible refine r_var (v := ?rv) ?rh ?_); (case rh => rfl))
  | with_reducible refine r_c ?_
  | with_reducible refine r_seq ?_
  | with_reducible refine r_asg ?_
  | with_reducible refine r_par ?_
  | with_reducible refine r_gname ?_
  | with_reducible refine r_op ?_
  | with_reducible refine r_forLo ?_
  | with_reducible refine r_forTo ?_
  | with_reducible refine r_forSo ?_
  | with_reducible refine r_forRo ?_
  | with_reducible refine r_lcRo ?_
  | with_reducible refine r_lcLo ?_
  | with_reducible refine r_yes ?_
  | with_reducible refine r_callK0 ?_
  | with_reducible refine r_break ?_
  | with_reducible refine r_forR2o ?_
  | with_reducible refine r_forEo ?_
  | with_reducible refine r_forESo ?_
  | with_reducible refine r_xfo ?_
  | with_reducible refine r_noP ?_
  | with_reducible refine r_part ?_
  | with_reducible refine r_pI ?_
  | with_reducible refine r_gcons ?_
  | with_reducible refine r_gnil ?_
  | with_reducible refine r_mkO ?_
  | with_reducible refine r_un ?_
  | with_reducible refine r_addI ?_
  | with_reducible refine r_I0 ?_
  | with_reducible refine r_U ?_
  | with_reducible refine r_cons ?_
  | with_reducible refine r_nil ?_
  | with_reducible refine r_CB ?_
  | with_reducible refine r_call ?_
  | with_reducible refine r_callS ?_
  | with_reducible refine r_int ?_
  | with_reducible refine r_max ?_
  | with_reducible refine r_min ?_
  | with_reducible refine r_test ?_
  | with_reducible refine r_B ?_
  | with_reducible refine r_blv ?_
  | with_reducible refine r_and ?_
  | with_reducible refine r_or ?_
  | with_reducible refine r_not ?_
  | with_reducible refine r_andV ?_
  | with_reducible refine r_orV ?_
  | with_reducible refine r_notV ?_
  | with_reducible refine r_ifE ?_
  | with_reducible refine r_ifS ?_
  | with_reducible refine r_ret ?_
  | with_reducible refine r_retN ?_
  | with_reducible refine r_drop ?_
  | with_reducible refine r_next ?_
  | with_reducible refine r_sl ?_
  | with_reducible refine r_gsub ?_
  | with_reducible refine r_bm ?_
  | with_reducible refine r_tup ?_
  | with_reducible refine r_lst ?_
  | with_reducible refine r_isN ?_
  | with_reducible refine r_notN ?_
  | with_reducible refine r_itt ?_
  | with_reducible refine r_iff ?_
  | with_reducible refine r_ittN ?_
  | with_reducible refine r_iffN ?_
  | ((with_reducible refine r_ittD ?rh ?_); (case rh => rfl))
  | ((with_reducible refine r_iffD ?rh ?_); (case rh => rfl))
  | ((with_reducible refine r_modP ?rh ?_); (case rh => decide))
  | ((with_reducible refine r_eq ?rh ?_); (case rh => rfl))
  | ((with_reducible refine r_eqP ?rh ?_); (case rh => rfl))
  | ((with_reducible refine r_ne ?rh ?_); (case rh => rfl)))
local macro_rules | `(tactic| walk_at "rd") => `(tactic| repeat walk_at "rd1")
local macro_rules | `(tactic| walk_at "isi") => `(tactic| first | refine r_isi (b := true) (by assumption) (by decide +kernel) ?_ | refine r_isi (b := false) (by assumption) (by decide +kernel) ?_)
local macro_rules | `(tactic| walk_at "rs1") => `(tactic| first
  | with_reducible refine r_seq ?_
  | with_reducible refine r_asg ?_
  | with_reducible refine r_gname ?_
  | with_reducible refine r_ret ?_)
local macro_rules | `(tactic| walk_at "rs") => `(tactic| repeat walk_at "rs1")

section
variable {P : Program} {w : World} {K : PySem.W.Frag} {mg : Str → Option Value} {base : Heap}
theorem ok_law_draws (T : Txt K mg) : FnOk P w K mg base CX0 1 T.a_law_draws T.d_law_draws ["_law_script"] (spDraws K) := by
  refine T.F_law_draws.ok sc_law_draws (fun vs H Q E h => ?_) (fun cdv A outer s H vs Q E hr h => ?_)
  · obtain ⟨a, ns, rfl, _⟩ := h
    rfl
  · obtain ⟨a, ns, rfl, hS, hlen, q⟩ := h
    refine ⟨_, (pss_cons (ps_set (i := 1) sc_law_draws.nd rfl (Or.inl rfl) pe_int)
        (pss_cons (ps_set (i := 2) sc_law_draws.nd rfl (Or.inl rfl) (pe_lst pa_nil))
        (pss_cons (ps_for PassesOwn.never rfl (pi_list (pv 0)) (pg_name (i := 3) sc_law_draws.nd rfl (Or.inl rfl)) (pss_cons (ps_set (i := 4) sc_law_draws.nd rfl (Or.inl rfl) (pe_callB call_absU (by rfl) T.n_abs (by decide +kernel) (pa_cons (pv 3) pa_nil)))
        (pss_cons (ps_set (i := 1) sc_law_draws.nd rfl (Or.inl rfl) (pe_op op_modP (pe_callTy call_intU (by rfl) T.n_int (by decide +kernel) (pa_cons (pe_op op_addU (pe_op op_addU (pe_op op_addU (pe_op op_mulWW (pv 1) pe_int) (pe_op op_modP (pe_callTy call_intU (by rfl) T.n_int (by decide +kernel) (pa_cons (pv 4) pa_nil)) pe_int)) (pe_op op_mulWW pe_int (pe_callTy call_intU (by rfl) T.n_int (by decide +kernel) (pa_cons (pe_cmpR op_lt (pv 3) pe_int (nomark _)) pa_nil)))) pe_int) pa_nil)) pe_int))
        (pss_one (ps_if (pt_cmpR op_ge (pv 4) pe_int (nomark _)) (pss_one (ps_expr (pe_bm PySem.F.plainAttrs_list PySem.F.slot_list_append PySem.F.type_list_append mt_append (pv 2) (pa_cons (pv 4) pa_nil)))) pss_nil)))))
        (pss_one (ps_ret (pe_lst (pa_cons (pv 1) (pa_cons (pv 2) pa_nil)))))))), ?_⟩
    walk_at "rd"
    refine r_small nsz fun h hh => ?_
    have e0 : Ex H (upd H h (.lst [])) := Same.new (Same.refl H) hh
    walk_at "rd"
    refine l_L (SqL.up e0 hS) (fun i σ H' => ∃ z y1 y2 hs, σ = [some (.ref a), some (.int z), some (.ref h), y1, y2] ∧ 0 ≤ z ∧ z < M31 ∧ Ex H H' ∧ H' h = some (.lst (hs.map V.int)) ∧ hs.length ≤ i) ⟨_, none, none, [], rfl, by decide, by decide, e0, upd_same, Nat.le_refl _⟩ (fun i σ H' h => ?_) (fun i x σ H' hx hP => ?_) (fun σ H' hP => ?_)
    · obtain ⟨_, _, _, _, _, _, _, e, _⟩ := h
      exact SqL.up e hS
    · obtain ⟨z, y1, y2, hs, rfl, z0, z1, e, hh', hl⟩ := hP
      obtain ⟨c, hc, rfl⟩ : ∃ c, ns[i]? = some c ∧ x = V.int c := by
        rw [List.getElem?_map] at hx
        cases e : ns[i]? with
        | none => rw [e] at hx; cases hx
        | some c => rw [e] at hx; exact ⟨c, rfl, (Option.some.inj hx).symm⟩
      have hi : i < ns.length := (List.getElem?_eq_some_iff.mp hc).1
      walk_at "rd"
      refine r_abs ?_
      walk_at "rd"
      refine r_mulW (wide_mul (a := 31) (b := 33) (nat31 z0 z1) (by decide) (by decide) (by decide) (by decide)) ?_
      walk_at "rd"
      refine r_bool ?_
      refine r_mulW (wide_mul (a := 31) (b := 33) (by decide) (by split <;> decide) (by decide) (by decide) (by decide)) ?_
      walk_at "rd"
      refine r_ite (fun hb => ?_) (fun hb => ?_)
      · walk_at "rd"
        refine r_tyL (sqL hh') ?_
        walk_at "rd"
        refine r_app hh' (by rw [List.length_map]; exact Nat.lt_of_le_of_lt (show hs.length ≤ 100 by omega) (by decide)) ?_
        walk_at "rd"
        exact ⟨_, _, _, hs ++ [_], rfl, (mix31 _).1, (mix31 _).2, Same.mut e hh, by rw [upd_same, List.map_append]; rfl, by rw [List.length_append]; simp; exact hl⟩
      · walk_at "rd"
        exact ⟨_, _, _, hs, rfl, (mix31 _).1, (mix31 _).2, e, hh', by omega⟩
    · obtain ⟨z, y1, y2, hs, rfl, z0, z1, e, hh', hl⟩ := hP
      rw [List.length_map] at hl
      walk_at "rd"
      refine r_small nsz fun b hb => ?_
      have hne : b ≠ h := fun z => by rw [z, hh'] at hb; cases hb
      refine q b h _ (e.trans (Same.new (Same.refl _) hb)) (e.free hb) hh ⟨hne, z, hs, upd_same, z0, z1, by rw [upd_ne (Ne.symm hne)]; exact hh', by omega⟩
theorem ok_law_pick (T : Txt K mg) : FnOk P w K mg base CX0 1 T.a_law_pick T.d_law_pick ["_law_box", "_law_many"] spPick := by
  refine T.F_law_pick.ok sc_law_pick (fun vs H Q E h => ?_) (fun cdv A outer s H vs Q E hr h => ?_)
  · obtain ⟨b, h, n, rfl, _⟩ := h
    rfl
  · obtain ⟨b, h, n, rfl, ⟨ne, z, ns, hb, z0, z1, hh, hl⟩, n0, n1, q⟩ := h
    refine ⟨_, (pss_cons (ps_set (i := 2) sc_law_pick.nd rfl (Or.inl rfl) (pe_ix ix_seq (pv 0) pe_int (fun _ _ => rfl)))
        (pss_cons (ps_if (pt_cmpR op_gt (pe_callB call_lenU (by rfl) T.n_len (by decide +kernel) (pa_cons (pv 2) pa_nil)) pe_int (nomark _)) (pss_cons (ps_set (i := 3) sc_law_pick.nd rfl (Or.inl rfl) (pe_ix ix_seq (pv 2) pe_int (fun _ _ => rfl)))
        (pss_cons (ps_asg (pe_op op_divW (pv 3) (pv 1)) (pg_sub (pv 2) pe_int set_list))
        (Evl.pss_cut (ps_if (pt_cmpR (op_eqU hr.units) (pe_ix ix_seq (pv 2) pe_int (fun _ _ => rfl)) pe_int (nomark _)) (pss_one (ps_expr (pe_bm PySem.F.plainAttrs_list PySem.F.slot_list_pop PySem.F.type_list_pop mt_popAt (pv 2) (pa_cons pe_int pa_nil)))) pss_nil)
        (pss_one (ps_ret (pe_op op_modP (pe_callTy call_intU (by rfl) T.n_int (by decide +kernel) (pa_cons (pv 3) pa_nil)) (pv 1))))))) pss_nil)
        (pss_cons (ps_asg (pe_op op_modP (pe_callTy call_intU (by rfl) T.n_int (by decide +kernel) (pa_cons (pe_op op_addU (pe_op op_mulWW (pe_ix ix_seq (pv 0) pe_int (fun _ _ => rfl)) pe_int) pe_int) pa_nil)) pe_int) (pg_sub (pv 0) pe_int set_list))
        (pss_cons (ps_set (i := 4) sc_law_pick.nd rfl (Or.inl rfl) (pe_op op_modP (pe_callTy call_intU (by rfl) T.n_int (by decide +kernel) (pa_cons (pe_op op_mulWW (pe_ix ix_seq (pv 0) pe_int (fun _ _ => rfl)) pe_int) pa_nil)) pe_int))
        (pss_one (ps_ret (pe_op op_modP (pe_callTy call_intU (by rfl) T.n_int (by decide +kernel) (pa_cons (pe_op op_divW (pv 4) pe_int) pa_nil)) (pv 1)))))))), ?_⟩
    walk_at "rd"
    refine r_ixL (sqL hb) (atI_nat (j := 1) rfl) ?_
    walk_at "rd"
    refine r_lenL (sqL hh) ?_
    walk_at "rd"
    have w11 : n.natAbs < 2 ^ 11 := by
      have e : (2 : Nat) ^ 11 = 2048 := by decide
      omega
    have wd : CDivW (0 : Int) n := wide_div (b := 11) n0 w11 (by decide) (by decide)
    cases ns with
    | cons c ns =>
      refine r_ite (fun _ => ?_) (fun hn => absurd (by simp) hn)
      walk_at "rd"
      refine r_ixL (sqL hh) (atI_nat (j := 0) rfl) ?_
      walk_at "rd"
      refine r_divW ⟨n0, wd.2⟩ ?_
      walk_at "rd"
      refine r_setL hh (n := 0) (ixN_nat (Int.le_refl 0) (by rw [List.length_map, List.length_cons]; omega)) ?_
      walk_at "rs"
      have D1 : ∀ (ms : List Int), ms.length ≤ 63 → ∀ H1, H1 b = some (.lst [.int z, .ref h]) → H1 h = some (.lst (ms.map V.int)) → (∀ x o, x ≠ b → x ≠ h → H x = some o → H1 x = some o) → Dr2 b h H H1 := fun ms hm H1 e1 e2 e3 => ⟨e3, ne, z, ms, e1, z0, z1, e2, hm⟩
      refine ⟨fun σ H1 => σ = [some (.ref b), some (.int n), some (.ref h), some (.int c), none] ∧ Dr2 b h H H1, ?_, ?_⟩
      · walk_at "rd"
        refine r_ixL (sqL upd_same) (atI_nat (j := 0) rfl) ?_
        walk_at "rd"
        refine r_ite (fun h0 => ?_) (fun h0 => ?_)
        · walk_at "rd"
          refine r_tyL (sqL upd_same) ?_
          walk_at "rd"
          refine r_pop0 upd_same ?_
          walk_at "rd"
          refine ⟨rfl, D1 ns (by simp at hl; omega) _ ?_ ?_ ?_⟩
          · rw [upd_ne ne, upd_ne ne]; exact hb
          · rw [upd_same]
          · intro x o h1 h2 e
            rw [upd_ne h2, upd_ne h2]
            exact e
        · walk_at "rd"
          refine ⟨rfl, D1 (c / n :: ns) (by simpa using hl) _ ?_ ?_ ?_⟩
          · rw [upd_ne ne]; exact hb
          · rw [upd_same]; rfl
          · intro x o h1 h2 e
            rw [upd_ne h2]
            exact e
      · rintro σ H1 ⟨rfl, D⟩
        walk_at "rd"
        refine r_modP n0 ?_
        exact q _ _ (Int.emod_nonneg _ (by omega)) (Int.emod_lt_of_pos _ n0) D
    | nil =>
      refine r_ite (fun hn => absurd hn (by simp)) (fun _ => ?_)
      walk_at "rd"
      refine r_ixL (sqL hb) (atI_nat (j := 0) rfl) ?_
      walk_at "rd"
      refine r_mulW (wide_mul (a := 31) (b := 33) (nat31 z0 z1) (by decide) (by decide) (by decide) (by decide)) ?_
      walk_at "rd"
      refine r_setL hb (n := 0) rfl ?_
      walk_at "rd"
      refine r_ixL (sqL upd_same) (atI_nat (j := 0) rfl) ?_
      walk_at "rd"
      refine r_mulW (wide_mul (a := 31) (b := 33) (nat31 (mix31 _).1 (mix31 _).2) (by decide) (by decide) (by decide) (by decide)) ?_
      walk_at "rd"
      refine r_divW (wide_div (b := 17) (by decide) (by decide) (by decide) (by decide)) ?_
      walk_at "rd"
      refine r_modP n0 ?_
      refine q _ _ (Int.emod_nonneg _ (by omega)) (Int.emod_lt_of_pos _ n0) ⟨fun x o h1 h2 e => by rw [upd_ne h1]; exact e, ne, _, [], upd_same, (mix31 _).1, (mix31 _).2, by rw [upd_ne (Ne.symm ne)]; exact hh, by simp⟩
theorem ab_at {z : Str} (hz : z.length ≤ 1000) {i : Int} (h0 : 0 ≤ i) (h : i < (z.length : Int)) : ∃ c, atI z.cps.toList i = some c := by
  have hl : (cs z).length = z.length := cs_len z
  have hi : i.toNat < (cs z).length := by omega
  exact ⟨(cs z)[i.toNat], at_g (by omega) (List.getElem?_eq_getElem hi)⟩
theorem join_len {ps : List Str} (h : ∀ y ∈ ps, y.length = 1) : (Txt.join "" ps).length = ps.length := by
  rw [← cs_len, cs_join, List.length_flatten]
  have e : ((ps.map cs).map List.length) = ps.map fun _ => 1 := by
    rw [List.map_map]
    exact List.map_congr_left fun y hy => by
      show (cs y).length = 1
      rw [cs_len]
      exact h y hy
  rw [e, sum_ones]
theorem sum_len {ps : List Str} (h : ∀ y ∈ ps, y.length = 1) : (ps.map (·.length)).sum = ps.length := by
  have e : (ps.map (·.length)) = ps.map fun _ => 1 := List.map_congr_left fun y hy => h y hy
  rw [e, sum_ones]
theorem ok_law_say (T : Txt K mg) : FnOk P w K mg base CX0 2 T.a_law_say T.d_law_say ["_law_box", "_law_most"] spSay := by
  refine T.F_law_say.ok sc_law_say (fun vs H Q E h => ?_) (fun cdv A outer s H vs Q E hr h => ?_)
  · obtain ⟨b, h, n, rfl, _⟩ := h
    rfl
  · obtain ⟨b, h, n, rfl, st, n0, n1, q⟩ := h
    refine ⟨_, (pss_cons (ps_set (i := 2) sc_law_say.nd rfl (Or.inr rfl) pe_str)
        (pss_cons (ps_set (i := 2) sc_law_say.nd rfl (Or.inr rfl) (pe_op op_addU (pv 2) pe_str))
        (pss_cons (ps_set (i := 3) sc_law_say.nd rfl (Or.inl rfl) (pe_op op_addU pe_int (pe_call (ok_law_pick T) hr (by rfl) T.g_law_pick T.F_law_pick.kp T.b_law_pick .nil pass0 (pa_cons (pv 0) (pa_cons (pv 1) pa_nil)))))
        (pss_cons (ps_if (pt_cmpR (op_eqU hr.units) (pe_call (ok_law_pick T) hr (by rfl) T.g_law_pick T.F_law_pick.kp T.b_law_pick .nil pass0 (pa_cons (pv 0) (pa_cons pe_int pa_nil))) pe_int (nomark _)) (pss_one (ps_ret (pe_join pe_str (pe_lc (own := [("_law_k", 4)]) (g := gName 4) rfl sc_law_say.nd (pi_range1 (by rfl) T.n_range (pa_cons (pv 3) pa_nil)) (blkOk_by (N := N_law_say) (sc := defScope s_law_say) (by decide +kernel)) (fun _ _ _ _ _ => pg_name (i := 4) sc_law_say.nd rfl (Or.inl rfl)) (fun _ _ _ _ _ => pts_nil) (fun _ _ _ _ _ => (pe_ix (k_ix (K := K) rfl) (pv 2) (pe_call (ok_law_pick T) hr (by rfl) T.g_law_pick T.F_law_pick.kp T.b_law_pick .nil pass0 (pa_cons (pv 0) (pa_cons pe_int pa_nil))) (fun _ _ => rfl))))))) pss_nil)
        (pss_one (ps_ret (pe_join pe_str (pe_lc (own := [("_law_k", 4)]) (g := gName 4) rfl sc_law_say.nd (pi_range1 (by rfl) T.n_range (pa_cons (pv 3) pa_nil)) (blkOk_by (N := N_law_say) (sc := defScope s_law_say) (by decide +kernel)) (fun _ _ _ _ _ => pg_name (i := 4) sc_law_say.nd rfl (Or.inl rfl)) (fun _ _ _ _ _ => pts_nil) (fun _ _ _ _ _ => (pe_ix (k_ix (K := K) rfl) pe_str (pe_call (ok_law_pick T) hr (by rfl) T.g_law_pick T.F_law_pick.kp T.b_law_pick .nil pass0 (pa_cons (pv 0) (pa_cons pe_int pa_nil))) (fun _ _ => rfl))))))))))), ?_⟩
    walk_at "rd"
    refine r_addS (by decide +kernel) ?_
    walk_at "rd"
    refine ⟨b, h, n, rfl, st, n0, by omega, fun d H1 d0 d1 D1 => ?_⟩
    walk_at "rd"
    refine ⟨b, h, 3, rfl, D1.st, by decide, by decide, fun e H2 e0 e1 D2 => ?_⟩
    have D := D1.trans D2
    walk_at "rd"
    refine r_ite (fun _ => ?_) (fun _ => ?_)
    · walk_at "rd"
      refine ⟨⟨_, rfl⟩, ?_⟩
      walk_at "rd"
      refine l_lcR (by omega) (by omega) (fun f i H' => ∃ ps : List Str, Dr2 b h H H' ∧ H' f = some (.lst (ps.map V.str)) ∧ ps.length = i ∧ ∀ y ∈ ps, y.length = 1) (fun f hf => ⟨[], D.new hf, upd_same, rfl, by simp⟩) (fun f i H' hf hi hP => ?_) (fun f H' hf hP => ?_)
      · obtain ⟨ps, D3, gf, hl, hy⟩ := hP
        have hf0 := D.fresh hf
        have nb := D.st.nb hf
        have nh := D.st.nh hf
        walk_at "rd"
        refine ⟨rfl, ?_⟩
        walk_at "rd"
        refine ⟨b, h, 95, rfl, D3.st, by decide, by decide, fun x H4 x0 x1 D4 => ?_⟩
        walk_at "rd"
        obtain ⟨c, hc⟩ := ab_at (z := "\n !\"#$&'()*+,-./0123456789:;<=>?@ABCDEFGHIJKLMNOPQRSTUVWXYZ[\\]^_`" ++ "abcdefghijklmnopqrstuvwxyz{|}~") (by decide +kernel) x0 (by
          have e : ("\n !\"#$&'()*+,-./0123456789:;<=>?@ABCDEFGHIJKLMNOPQRSTUVWXYZ[\\]^_`" ++ "abcdefghijklmnopqrstuvwxyz{|}~" : Str).length = 95 := by decide +kernel
          rw [e]
          exact x1)
        refine r_ixS (by decide +kernel) hc ?_
        refine ⟨ps.map V.str, D4.hh _ _ nb nh gf, by rw [List.length_map]; exact Nat.lt_of_le_of_lt (show ps.length ≤ 101 by omega) (by decide), ps ++ [⟨#[c]⟩], (D3.trans D4).mut hf0 nb nh, by rw [upd_same, List.map_append]; rfl, by rw [List.length_append, hl]; rfl, fun y hy' => ?_⟩
        rcases List.mem_append.mp hy' with h1 | h1
        · exact hy y h1
        · rw [List.mem_singleton.mp h1]; rfl
      · obtain ⟨ps, D3, gf, hl, hy⟩ := hP
        have hj := join_len hy
        refine ⟨"", f, ps, rfl, rfl, .inl (sqL gf), ?_, q _ _ (by omega) (by omega) D3⟩
        have hsum := sum_len hy
        have h5 : ("" : Str).length = 0 := rfl
        rw [h5, Nat.mul_zero, Nat.add_zero]
        omega
    · walk_at "rd"
      refine ⟨⟨_, rfl⟩, ?_⟩
      walk_at "rd"
      refine l_lcR (by omega) (by omega) (fun f i H' => ∃ ps : List Str, Dr2 b h H H' ∧ H' f = some (.lst (ps.map V.str)) ∧ ps.length = i ∧ ∀ y ∈ ps, y.length = 1) (fun f hf => ⟨[], D.new hf, upd_same, rfl, by simp⟩) (fun f i H' hf hi hP => ?_) (fun f H' hf hP => ?_)
      · obtain ⟨ps, D3, gf, hl, hy⟩ := hP
        have hf0 := D.fresh hf
        have nb := D.st.nb hf
        have nh := D.st.nh hf
        walk_at "rd"
        refine ⟨rfl, ?_⟩
        walk_at "rd"
        refine ⟨b, h, 5, rfl, D3.st, by decide, by decide, fun x H4 x0 x1 D4 => ?_⟩
        walk_at "rd"
        obtain ⟨c, hc⟩ := ab_at (z := "ab\nX ") (by decide +kernel) x0 (by
          have e : ("ab\nX " : Str).length = 5 := by decide +kernel
          rw [e]
          exact x1)
        refine r_ixS (by decide +kernel) hc ?_
        refine ⟨ps.map V.str, D4.hh _ _ nb nh gf, by rw [List.length_map]; exact Nat.lt_of_le_of_lt (show ps.length ≤ 101 by omega) (by decide), ps ++ [⟨#[c]⟩], (D3.trans D4).mut hf0 nb nh, by rw [upd_same, List.map_append]; rfl, by rw [List.length_append, hl]; rfl, fun y hy' => ?_⟩
        rcases List.mem_append.mp hy' with h1 | h1
        · exact hy y h1
        · rw [List.mem_singleton.mp h1]; rfl
      · obtain ⟨ps, D3, gf, hl, hy⟩ := hP
        have hj := join_len hy
        refine ⟨"", f, ps, rfl, rfl, .inl (sqL gf), ?_, q _ _ (by omega) (by omega) D3⟩
        have hsum := sum_len hy
        have h5 : ("" : Str).length = 0 := rfl
        rw [h5, Nat.mul_zero, Nat.add_zero]
        omega
end
end K21
namespace K21
open PySem PySem.Spec PyProof.Rows L2 Dk Tl
/-- one step of a reading -/
local macro_rules | `(tactic| walk_at "rd1") => `(tactic| first
  | ((with_reducible refine r_var (v := ?rv) ?rh ?_); (case rh => rfl))
  | with_reducible refine r_c ?_
  | with_reducible refine r_seq ?_
  | with_reducible refine r_asg ?_
  | with_reducible refine r_par ?_
  | with_reducible refine r_gname ?_
  | with_reducible refine r_op ?_
  | with_reducible refine r_forLo ?_
  | with_reducible refine r_forTo ?_
  | with_reducible refine r_forSo ?_
  | with_reducible refine r_forRo ?_
  | with_reducible refine r_lcRo ?_
  | with_reducible refine r_lcLo ?_
  | with_reducible refine r_yes ?_
  | with_reducible refine r_callK0 ?_
  | with_reducible refine r_break ?_
  | with_reducible refine r_forR2o ?_
  | with_reducible refine r_forEo ?_
  | with_reducible refine r_forESo ?_
  | with_reducible refine r_xfo ?_
  | with_reducible refine r_noP ?_
  | with_reducible refine r_part ?_
  | with_reducible refine r_pI ?_
  | with_reducible refine r_gcons ?_
  | with_reducible refine r_gnil ?_
  | with_reducible refine r_mkO ?_
  | with_reducible refine r_un ?_
  | with_reducible refine r_addI ?_
  | with_reducible refine r_I0 ?_
  | with_reducible refine r_U ?_
  | with_reducible refine r_cons ?_
  | with_reducible refine r_nil ?_
  | with_reducible refine r_CB ?_
  | with_reducible refine r_call ?_
  | with_reducible refine r_callS ?_
  | with_reducible refine r_int ?_
  | with_reducible refine r_max ?_
  | with_reducible refine r_min ?_
  | with_reducible refine r_test ?_
  | with_reducible refine r_B ?_
  | with_reducible refine r_blv ?_
  | with_reducible refine r_and ?_
  | with_reducible refine r_or ?_
  | with_reducible refine r_not ?_
  | with_reducible refine r_andV ?_
  | with_reducible refine r_orV ?_
  | with_reducible refine r_notV ?_
  | with_reducible refine r_ifE ?_
  | with_reducible refine r_ifS ?_
  | with_reducible refine r_ret ?_
  | with_reducible refine r_retN ?_
  | with_reducible refine r_drop ?_
  | with_reducible refine r_next ?_
  | with_reducible refine r_sl ?_
  | with_reducible refine r_gsub ?_
  | with_reducible refine r_bm ?_
  | with_reducible refine r_tup ?_
  | with_reducible refine r_lst ?_
  | with_reducible refine r_isN ?_
  | with_reducible refine r_notN ?_
  | with_reducible refine r_itt ?_
  | with_reducible refine r_iff ?_
  | with_reducible refine r_ittN ?_
  | with_reducible refine r_iffN ?_
  | ((with_reducible refine r_ittD ?rh ?_); (case rh => rfl))
  | ((with_reducible refine r_iffD ?rh ?_); (case rh => rfl))
  | ((with_reducible refine r_modP ?rh ?_); (case rh => decide))
  | ((with_reducible refine r_eq ?rh ?_); (case rh => rfl))
  | ((with_reducible refine r_eqP ?rh ?_); (case rh => rfl))
  | ((with_reducible refine r_ne ?rh ?_); (case rh => rfl)))
local macro_rules | `(tactic| walk_at "rd") => `(tactic| repeat walk_at "rd1")
local macro_rules | `(tactic| walk_at "isi") => `(tactic| first | refine r_isi (b := true) (by assumption) (by decide +kernel) ?_ | refine r_isi (b := false) (by assumption) (by decide +kernel) ?_)
local macro_rules | `(tactic| walk_at "rs1") => `(tactic| first
  | with_reducible refine r_seq ?_
  | with_reducible refine r_asg ?_
  | with_reducible refine r_gname ?_
  | with_reducible refine r_ret ?_)
local macro_rules | `(tactic| walk_at "rs") => `(tactic| repeat walk_at "rs1")

section
variable {P : Program} {w : World} {K : PySem.W.Frag} {mg : Str → Option Value} {base : Heap}
theorem Brs.sz3 {G : Hp} {xs : List V} {L R : Nat → Sg} {sz : Nat → Nat} {n : Nat} (h : Brs G xs L R sz n) : ∀ c, 0 < c → c < n → sz c ≤ 3 := fun c h0 hc => by
  obtain ⟨x, hx⟩ : ∃ x, xs[c]? = some x := ⟨_, List.getElem?_eq_getElem (by rw [h.len]; exact hc)⟩
  obtain ⟨q, who, l, r, t, _, _, _, _, h5, h6⟩ := h.at_ c x hx
  rw [← h5 (decide_eq_true h0)]
  exact h6
theorem Brs.off_le {G : Hp} {xs : List V} {L R : Nat → Sg} {sz : Nat → Nat} {n : Nat} (h : Brs G xs L R sz n) {m : Nat} (hm : m ≤ n) : off sz m ≤ 750 := by
  have z := Tl.off_le (Nat.le_of_eq h.wv.s0) h.sz3 m hm
  have z2 := h.small
  omega
def spAll : Sp := fun vs H Q _ => ∃ (b : Addr) (L R : Nat → Sg) (sz : Nat → Nat) (n : Nat) (G : Hp), vs = [.ref b] ∧ Ex G H ∧ Wr G b L R sz n ∧ ∀ p G' H' xs, Gr A0 G H G' H' → H p = none → G' p = some (.lst xs) → SgL G' xs (marks sz n) → Q (.ref p) H'
theorem ok_law_all (T : Txt K mg) : FnOk P w K mg base CX0 1 T.a_law_all T.d_law_all ["_law_world_here"] spAll := by
  refine T.F_law_all.ok sc_law_all (fun vs H Q E h => ?_) (fun cdv A outer s H vs Q E hr h => ?_)
  · obtain ⟨b, L, R, sz, n, G, rfl, _⟩ := h
    rfl
  · obtain ⟨b, L, R, sz, n, G, rfl, e0, ⟨ws, hb, br⟩, q⟩ := h
    refine ⟨_, (pss_cons (ps_set (i := 1) sc_law_all.nd rfl (Or.inl rfl) (pe_lst (pa_cons (pe_tup (pa_cons pe_int (pa_cons pe_int pa_nil))) (pa_cons (pe_tup (pa_cons pe_int (pa_cons pe_int pa_nil))) pa_nil))))
        (pss_cons (ps_for PassesOwn.never rfl (pi_range2 (by rfl) T.n_range (pa_cons pe_int (pa_cons (pe_callB call_lenU (by rfl) T.n_len (by decide +kernel) (pa_cons (pv 0) pa_nil)) pa_nil))) (pg_name (i := 2) sc_law_all.nd rfl (Or.inl rfl)) (pss_one (ps_for PassesOwn.never rfl (pi_range1 (by rfl) T.n_range (pa_cons (pe_callB call_lenU (by rfl) T.n_len (by decide +kernel) (pa_cons (pe_ix ix_seq (pe_ix ix_seq (pv 0) (pv 2) (fun _ _ => rfl)) pe_int (fun _ _ => rfl)) pa_nil)) pa_nil)) (pg_name (i := 3) sc_law_all.nd rfl (Or.inl rfl)) (pss_one (ps_expr (pe_bm PySem.F.plainAttrs_list PySem.F.slot_list_append PySem.F.type_list_append mt_append (pv 1) (pa_cons (pe_tup (pa_cons (pv 2) (pa_cons (pv 3) pa_nil))) pa_nil)))))))
        (pss_one (ps_ret (pv 1))))), ?_⟩
    have bl := br.len
    have bn := br.small
    have w0 := br.wv.n0
    walk_at "rd"
    refine r_small nsz fun p1 n1 => ?_
    obtain ⟨G1, H1, k1, s1, h1⟩ := new_ex e0 n1 (.tup [.int 0, .int 0])
    rw [← k1]
    walk_at "rd"
    refine r_small nsz fun p2 n2 => ?_
    obtain ⟨G2, H2, k2, s2, h2⟩ := new_ex s1.gh n2 (.tup [.int 0, .int 1])
    rw [← k2]
    walk_at "rd"
    refine r_small nsz fun l n3 => ?_
    have B : Ls A0 G H l G2 (upd H2 l (.lst [.ref p1, .ref p2])) [.ref p1, .ref p2] := Ls.start (s1.trans s2) n3
    walk_at "rd"
    refine r_lenT (sqT (B.t.gh _ _ (B.t.gg _ _ hb))) ?_
    rw [bl]
    walk_at "rd"
    refine l_R1n (by omega) (by omega) (fun c σ H' => ∃ xs G' y1 y2, σ = [some (.ref b), some (.ref l), y1, y2] ∧ Ls A0 G H l G' H' xs ∧ SgL G' xs (marks sz c)) ⟨_, G2, none, none, rfl, B, ?_⟩ (fun c σ H' c1 c2 hW => ?_) (fun σ H' hW => ?_)
    · rw [marks_one br.wv.s0]
      exact .cons ⟨p1, rfl, s2.gg _ _ h1⟩ (.cons ⟨p2, rfl, h2⟩ .nil)
    · obtain ⟨xs, G', y1, y2, rfl, B', hS⟩ := hW
      obtain ⟨bv, hbv⟩ : ∃ bv, ws[c]? = some bv := ⟨_, List.getElem?_eq_getElem (by omega)⟩
      obtain ⟨q4, who, lv, rv, tx, rfl, hq4, hL, hR, ht, ht3⟩ := br.at_ _ _ hbv
      have hq4' := B'.t.gh _ _ (B'.t.gg _ _ hq4)
      have hsz := ht (decide_eq_true c1)
      walk_at "rd"
      refine r_ixT (sqT (B'.t.gh _ _ (B'.t.gg _ _ hb))) (atI_nat hbv) ?_
      walk_at "rd"
      refine r_ixT (sqT hq4') (atI_nat (j := 3) rfl) ?_
      walk_at "rd"
      refine r_lenS (by rw [sizeLine_eq]; omega) ?_
      walk_at "rd"
      refine l_R (by omega) (by omega) (fun i σ H' => ∃ xs G' y2, σ = [some (.ref b), some (.ref l), some (.int (c : Nat)), y2] ∧ Ls A0 G H l G' H' xs ∧ SgL G' xs (marks sz c ++ (List.range i).map fun k => (c, k))) ⟨xs, G', y2, rfl, B', by simpa using hS⟩ (fun i σ H2 hi hW => ?_) (fun σ H2 hW => ?_)
      · obtain ⟨xs, G', y2, rfl, B', hS⟩ := hW
        have hlen : xs.length ≤ 760 := by
          have z := hS.len
          rw [List.length_append, marks_len] at z
          have z2 := br.off_le (Nat.le_of_lt c2)
          simp at z
          omega
        walk_at "rd"
        refine r_tyL (sqL B'.own) ?_
        walk_at "rd"
        refine r_small nsz fun p5 n5 => ?_
        obtain ⟨G5, H5, k5, s5, h5⟩ := new_ex B'.t.gh n5 (.tup [.int (c : Nat), .int (i : Nat)])
        rw [← k5]
        have B5 := B'.step s5 id
        walk_at "rd"
        refine r_app B5.own (Nat.lt_of_le_of_lt hlen (by decide)) ?_
        walk_at "rd"
        refine ⟨_, G5, _, rfl, B5.put _, ?_⟩
        rw [List.range_succ, List.map_append, ← List.append_assoc]
        exact (hS.up s5.gg).snoc ⟨p5, rfl, h5⟩
      · obtain ⟨xs, G', y2, rfl, B', hS⟩ := hW
        rw [Int.toNat_natCast, hsz] at hS
        exact ⟨xs, G', _, _, rfl, B', hS⟩
    · obtain ⟨xs, G', y1, y2, rfl, B', hS⟩ := hW
      walk_at "rd"
      exact q l _ _ xs B'.give B'.hp upd_same (hS.up (Same.new (Same.refl G') B'.gp))
/-! ### the table -/
abbrev tbv (T : List Nat) : List V := T.map fun m => V.int (m : Nat)
theorem tb_at {T : List Nat} {a : Nat} (h : a < T.length) : (tbv T)[a]? = some (.int ((T.getD a 0 : Nat) : Int)) := by
  rw [List.getElem?_map, List.getElem?_eq_getElem h, List.getD_eq_getElem?_getD, List.getElem?_eq_getElem h]
  rfl
theorem tb_set {T : List Nat} {a m : Nat} : (tbv T).set a (.int (m : Nat)) = tbv (T.set a m) := by
  show (T.map fun m => V.int (m : Nat)).set a ((fun m : Nat => V.int (m : Nat)) m) = _
  exact (List.map_set ..).symm
theorem Gr.all {H H1 : Hp} (e : Ex H H1) : Gr A0 H H H1 H1 :=
  ⟨e, Same.refl _, fun b o _ h => e b o h, fun b o h => ⟨o, e b o h⟩, fun b o h h' => absurd h' (by rw [h]; exact fun z => nomatch z)⟩
def spClosed : Sp := fun vs H Q _ => ∃ (b : Addr) (L R : Nat → Sg) (sz : Nat → Nat) (n : Nat), vs = [.ref b] ∧ Wr H b L R sz n ∧ ∀ p H' T, Ex H H' → H p = none → H' p = some (.lst (tbv T)) → Tells L R sz n T → (∀ a b, Bit T a b → b < off sz n) → Q (.ref p) H'
theorem ok_law_closed (T : Txt K mg) : FnOk P w K mg base CX0 2 T.a_law_closed T.d_law_closed ["_law_world_here"] spClosed := by
  refine T.F_law_closed.ok sc_law_closed (fun vs H Q E h => ?_) (fun cdv A outer s H vs Q E hr h => ?_)
  · obtain ⟨b, L, R, sz, n, rfl, _⟩ := h
    rfl
  · obtain ⟨b, L, R, sz, n, rfl, ⟨ws, hb, br⟩, q⟩ := h
    refine ⟨_, (pss_cons (ps_set (i := 1) sc_law_closed.nd rfl (Or.inl rfl) (pe_call (ok_law_all T) hr (by rfl) T.g_law_all T.F_law_all.kp T.b_law_all .nil pass0 (pa_cons (pv 0) pa_nil)))
        (pss_cons (ps_set (i := 2) sc_law_closed.nd rfl (Or.inl rfl) (pe_lst (pa_cons (pe_tup (pa_cons pe_int (pa_cons pe_int pa_nil))) pa_nil)))
        (pss_cons (ps_for PassesOwn.never rfl (pi_range2 (by rfl) T.n_range (pa_cons pe_int (pa_cons (pe_callB call_lenU (by rfl) T.n_len (by decide +kernel) (pa_cons (pv 0) pa_nil)) pa_nil))) (pg_name (i := 3) sc_law_closed.nd rfl (Or.inl rfl)) (pss_cons (ps_set (i := 4) sc_law_closed.nd rfl (Or.inl rfl) (pe_callB call_lenU (by rfl) T.n_len (by decide +kernel) (pa_cons (pe_ix ix_seq (pe_ix ix_seq (pv 0) (pv 3) (fun _ _ => rfl)) pe_int (fun _ _ => rfl)) pa_nil)))
        (pss_cons (ps_set (i := 5) sc_law_closed.nd rfl (Or.inl rfl) (pe_bm PySem.F.plainAttrs_list PySem.F.slot_list_index PySem.F.type_list_index (mt_indexD hr.units65) (pv 1) (pa_cons (pe_tup (pa_cons (pv 3) (pa_cons pe_int pa_nil))) pa_nil)))
        (pss_cons (ps_expr (pe_bm PySem.F.plainAttrs_list PySem.F.slot_list_append PySem.F.type_list_append mt_append (pv 2) (pa_cons (pe_tup (pa_cons (pe_bm PySem.F.plainAttrs_list PySem.F.slot_list_index PySem.F.type_list_index (mt_indexD hr.units65) (pv 1) (pa_cons (pe_ix ix_seq (pe_ix ix_seq (pv 0) (pv 3) (fun _ _ => rfl)) pe_int (fun _ _ => rfl)) pa_nil)) (pa_cons (pv 5) pa_nil))) pa_nil)))
        (pss_cons (ps_for PassesOwn.never rfl (pi_range1 (by rfl) T.n_range (pa_cons (pe_op op_sub (pv 4) pe_int) pa_nil)) (pg_name (i := 6) sc_law_closed.nd rfl (Or.inl rfl)) (pss_one (ps_expr (pe_bm PySem.F.plainAttrs_list PySem.F.slot_list_append PySem.F.type_list_append mt_append (pv 2) (pa_cons (pe_tup (pa_cons (pe_op op_addU (pv 5) (pv 6)) (pa_cons (pe_op op_addU (pe_op op_addU (pv 5) (pv 6)) pe_int) pa_nil))) pa_nil)))))
        (pss_one (ps_expr (pe_bm PySem.F.plainAttrs_list PySem.F.slot_list_append PySem.F.type_list_append mt_append (pv 2) (pa_cons (pe_tup (pa_cons (pe_op op_sub (pe_op op_addU (pv 5) (pv 4)) pe_int) (pa_cons (pe_bm PySem.F.plainAttrs_list PySem.F.slot_list_index PySem.F.type_list_index (mt_indexD hr.units65) (pv 1) (pa_cons (pe_ix ix_seq (pe_ix ix_seq (pv 0) (pv 3) (fun _ _ => rfl)) pe_int (fun _ _ => rfl)) pa_nil)) pa_nil))) pa_nil)))))))))
        (pss_cons (ps_setLc (i := 7) (own := [("_law_k", 13)]) (g := gName 13) rfl sc_law_closed.nd rfl rfl (sw_true rfl rfl rfl (by decide +kernel)) (pi_list (pv 1)) (blkOk_by (N := N_law_closed) (sc := defScope s_law_closed) (by decide +kernel)) (fun _ _ _ _ _ => pg_name (i := 13) sc_law_closed.nd rfl (Or.inl rfl)) (fun _ _ _ _ _ => pts_nil) (fun _ _ _ _ _ => pe_int))
        (pss_cons (ps_for PassesOwn.never rfl (pi_range1 (by rfl) T.n_range (pa_cons (pe_op op_addU (pe_callB call_lenU (by rfl) T.n_len (by decide +kernel) (pa_cons (pv 2) pa_nil)) pe_int) pa_nil)) (pg_name (i := 8) sc_law_closed.nd rfl (Or.inl rfl)) (pss_cons (ps_set (i := 9) sc_law_closed.nd rfl (Or.inl rfl) pe_bl)
        (pss_cons (ps_for PassesOwn.never rfl (pi_list (pv 2)) (pg_tup rfl (pgs_cons (pg_name (i := 10) sc_law_closed.nd rfl (Or.inl rfl)) (pgs_cons (pg_name (i := 11) sc_law_closed.nd rfl (Or.inl rfl)) pgs_nil))) (pss_cons (ps_set (i := 12) sc_law_closed.nd rfl (Or.inl rfl) (pe_op op_or (pe_op op_or (pe_ix ix_seq (pv 7) (pv 10) (fun _ _ => rfl)) (pe_op op_shl pe_int (pv 11))) (pe_ix ix_seq (pv 7) (pv 11) (fun _ _ => rfl))))
        (pss_one (ps_if (pt_cmpR (op_neU hr.units) (pv 12) (pe_ix ix_seq (pv 7) (pv 10) (fun _ _ => rfl)) (nomark _)) (pss_cons (ps_asg (pv 12) (pg_sub (pv 7) (pv 10) set_list))
        (pss_one (ps_set (i := 9) sc_law_closed.nd rfl (Or.inl rfl) pe_bl))) pss_nil))))
        (pss_one (ps_if (pt_val (pv 9)) (pss_one ps_break) pss_nil)))))
        (pss_one (ps_ret (pv 7)))))))), ?_⟩
    have e0 := Same.refl H
    have bl := br.len
    have bn := br.small
    have w0 := br.wv.n0
    have wv := br.wv
    walk_at "rd"
    refine ⟨b, L, R, sz, n, H, rfl, e0, ⟨ws, hb, br⟩, fun m G1 H1 ms t1 _ hm hms => ?_⟩
    walk_at "rd"
    refine r_small nsz fun p2 n2 => ?_
    obtain ⟨G2, H2, k2, s2, h2⟩ := new_ex t1.gh n2 (.tup [.int 0, .int 1])
    rw [← k2]
    walk_at "rd"
    refine r_small nsz fun l n3 => ?_
    have B : Ls A0 H H l G2 (upd H2 l (.lst [.ref p2])) [.ref p2] := Ls.start (t1.trans s2) n3
    have stl : ∀ c, c ≤ n → 1 ≤ c → (steps L R sz (c - 1)).length ≤ 1000 := fun c h1 h2 => by
      have z := steps_le wv (c - 1) (by omega)
      have z2 := br.off_le (m := c - 1 + 1) (by omega)
      omega
    have hmG : ∀ {G'}, Ex G2 G' → G' m = some (.lst ms) := fun e => e _ _ (s2.gg _ _ hm)
    have msG : ∀ {G'}, Ex G2 G' → SgL G' ms (marks sz n) := fun e => hms.up (s2.gg.trans e)
    walk_at "rd"
    refine r_lenT (sqT (B.t.gh _ _ (B.t.gg _ _ hb))) ?_
    rw [bl]
    walk_at "rd"
    refine l_R1n (by omega) (by omega) (fun c σ H' => ∃ xs G' y1 y2 y3 y4, σ = [some (.ref b), some (.ref m), some (.ref l), y1, y2, y3, y4, none, none, none, none, none, none, none] ∧ Ls A0 H H l G' H' xs ∧ Ex G2 G' ∧ SgL G' xs (steps L R sz (c - 1))) ⟨_, G2, none, none, none, none, rfl, B, Same.refl _, .cons ⟨p2, rfl, h2⟩ .nil⟩ (fun c σ H' c1 c2 hW => ?_) (fun σ H' hW => ?_)
    · obtain ⟨xs, G', y1, y2, y3, y4, rfl, B', eG, hS⟩ := hW
      obtain ⟨bv, hbv⟩ : ∃ bv, ws[c]? = some bv := ⟨_, List.getElem?_eq_getElem (by omega)⟩
      obtain ⟨q4, who, lv, rv, tx, rfl, hq4, hL, hR, ht, ht3⟩ := br.at_ _ _ hbv
      have hsz := ht (decide_eq_true c1)
      have sz1 := wv.s1 c c1 c2
      have hlen : xs.length ≤ 1010 := by
        have z := hS.len
        have z2 := stl c (by omega) c1
        omega
      walk_at "rd"
      refine r_ixT (sqT (B'.t.gh _ _ (B'.t.gg _ _ hb))) (atI_nat hbv) ?_
      walk_at "rd"
      refine r_ixT (sqT (B'.t.gh _ _ (B'.t.gg _ _ hq4))) (atI_nat (j := 3) rfl) ?_
      walk_at "rd"
      refine r_lenS (by rw [sizeLine_eq]; omega) ?_
      walk_at "rd"
      refine r_tyL (sqL (B'.t.gh _ _ (hmG eG))) ?_
      walk_at "rd"
      refine r_small nsz fun p5 n5 => ?_
      obtain ⟨G5, H5, k5, s5, h5⟩ := new_ex B'.t.gh n5 (.tup [.int (c : Nat), .int 0])
      rw [← k5]
      have B5 := B'.step s5 id
      have eG5 := eG.trans s5.gg
      have okc : Ok sz n (c, 0) := ⟨c2, sz1⟩
      walk_at "rd"
      refine r_indexSg (sqL (B5.t.gh _ _ (hmG eG5))) ((msG eG5).up B5.t.gh) ((show SgV G5 (.ref p5) (c, 0) from ⟨p5, rfl, h5⟩).up B5.t.gh) (mark_first okc).1 (mark_first okc).2 ?_
      rw [show ps sz (c, 0) = off sz c from rfl]
      walk_at "rd"
      refine r_tyL (sqL B5.own) ?_
      walk_at "rd"
      refine r_tyL (sqL (B5.t.gh _ _ (hmG eG5))) ?_
      walk_at "rd"
      refine r_ixT (sqT (B5.t.gh _ _ (B5.t.gg _ _ hb))) (atI_nat hbv) ?_
      walk_at "rd"
      refine r_ixT (sqT (B5.t.gh _ _ (B5.t.gg _ _ hq4))) (atI_nat (j := 1) rfl) ?_
      walk_at "rd"
      have okl := wv.okL c1 c2
      refine r_indexSg (sqL (B5.t.gh _ _ (hmG eG5))) ((msG eG5).up B5.t.gh) (hL.up (B5.t.g0)) (mark_first okl).1 (mark_first okl).2 ?_
      walk_at "rd"
      refine r_small nsz fun p6 n6 => ?_
      obtain ⟨G6, H6, k6, s6, h6⟩ := new_ex B5.t.gh n6 (.tup [.int (ps sz (L c) : Nat), .int (off sz c : Nat)])
      rw [← k6]
      have B6 := B5.step s6 id
      have eG6 := eG5.trans s6.gg
      walk_at "rd"
      refine r_app B6.own (Nat.lt_of_le_of_lt hlen (by decide)) ?_
      walk_at "rd"
      have B7 := B6.put (xs ++ [.ref p6])
      have S7 : SgL G6 (xs ++ [.ref p6]) (steps L R sz (c - 1) ++ [(ps sz (L c), off sz c)]) := ((hS.up s5.gg).up s6.gg).snoc ⟨p6, rfl, h6⟩
      refine l_R (by omega) (by omega) (fun i σ H' => ∃ xs G' y4, σ = [some (.ref b), some (.ref m), some (.ref l), some (.int (c : Nat)), some (.int (tx.length : Nat)), some (.int (off sz c : Nat)), y4, none, none, none, none, none, none, none] ∧ Ls A0 H H l G' H' xs ∧ Ex G2 G' ∧
        SgL G' xs (steps L R sz (c - 1) ++ [(ps sz (L c), off sz c)] ++ (List.range i).map fun k => (off sz c + k, off sz c + k + 1))) ⟨_, G6, y4, rfl, B7, eG6, by simpa using S7⟩ (fun i σ H2 hi hW => ?_) (fun σ H2 hW => ?_)
      · obtain ⟨xs, G', y4, rfl, B', eG, hS⟩ := hW
        have hlen : xs.length ≤ 1010 := by
          have z := hS.len
          have z2 := stl c (by omega) c1
          have z3 := br.sz3 c c1 c2
          simp only [List.length_append, List.length_map, List.length_range, List.length_cons, List.length_nil] at z
          omega
        walk_at "rd"
        refine r_tyL (sqL B'.own) ?_
        walk_at "rd"
        refine r_small nsz fun p5 n5 => ?_
        obtain ⟨G5, H5, k5, s5, h5⟩ := new_ex B'.t.gh n5 (.tup [.int (off sz c + i : Nat), .int (off sz c + i + 1 : Nat)])
        rw [show (HO.tup [V.int ((off sz c : Nat) + (i : Nat) : Int), V.int ((off sz c : Nat) + (i : Nat) + 1 : Int)]) = .tup [.int (off sz c + i : Nat), .int (off sz c + i + 1 : Nat)] from rfl, ← k5]
        have B5 := B'.step s5 id
        walk_at "rd"
        refine r_app B5.own (Nat.lt_of_le_of_lt hlen (by decide)) ?_
        walk_at "rd"
        refine ⟨_, G5, _, rfl, B5.put _, eG.trans s5.gg, ?_⟩
        rw [List.range_succ, List.map_append, ← List.append_assoc]
        exact (hS.up s5.gg).snoc ⟨p5, rfl, h5⟩
      · obtain ⟨xs, G', y4, rfl, B', eG, hS⟩ := hW
        have hlen : xs.length ≤ 1010 := by
          have z := hS.len
          have z2 := stl c (by omega) c1
          have z3 := br.sz3 c c1 c2
          simp only [List.length_append, List.length_map, List.length_range, List.length_cons, List.length_nil] at z
          omega
        walk_at "rd"
        refine r_tyL (sqL B'.own) ?_
        walk_at "rd"
        refine r_tyL (sqL (B'.t.gh _ _ (hmG eG))) ?_
        walk_at "rd"
        refine r_ixT (sqT (B'.t.gh _ _ (B'.t.gg _ _ hb))) (atI_nat hbv) ?_
        walk_at "rd"
        refine r_ixT (sqT (B'.t.gh _ _ (B'.t.gg _ _ hq4))) (atI_nat (j := 2) rfl) ?_
        walk_at "rd"
        have okr := wv.okR c1 c2
        refine r_indexSg (sqL (B'.t.gh _ _ (hmG eG))) ((msG eG).up B'.t.gh) (hR.up (B'.t.g0)) (mark_first okr).1 (mark_first okr).2 ?_
        walk_at "rd"
        refine r_small nsz fun p6 n6 => ?_
        obtain ⟨G6, H6, k6, s6, h6⟩ := new_ex B'.t.gh n6 (.tup [.int (off sz c + sz c - 1 : Nat), .int (ps sz (R c) : Nat)])
        have ev : ((off sz c : Nat) + (tx.length : Nat) - 1 : Int) = ((off sz c + sz c - 1 : Nat) : Int) := by omega
        rw [ev, ← k6]
        have B6 := B'.step s6 id
        walk_at "rd"
        refine r_app B6.own (Nat.lt_of_le_of_lt hlen (by decide)) ?_
        walk_at "rd"
        refine ⟨_, G6, _, _, _, _, rfl, B6.put _, eG.trans s6.gg, ?_⟩
        have e2 : ((tx.length : Nat) - 1 : Int).toNat = sz c - 1 := by omega
        rw [e2] at hS
        have e3 : steps L R sz (c + 1 - 1) = steps L R sz (c - 1) ++ [(ps sz (L c), off sz c)] ++ ((List.range (sz c - 1)).map fun k => (off sz c + k, off sz c + k + 1)) ++ [(off sz c + sz c - 1, ps sz (R c))] := by
          obtain ⟨d, rfl⟩ : ∃ d, c = d + 1 := ⟨c - 1, by omega⟩
          show steps L R sz d ++ stepsOf L R sz (d + 1) = steps L R sz d ++ _ ++ _ ++ _
          unfold stepsOf
          simp
        rw [e3]
        exact (hS.up s6.gg).snoc ⟨p6, rfl, h6⟩
    · obtain ⟨xs, G', y1, y2, y3, y4, rfl, B', eG, hS⟩ := hW
      have hS3 := stl n (Nat.le_refl _) w0
      have hSl := hS.len
      have t3 := B'.give
      obtain ⟨G3, hG3⟩ : ∃ G3, G3 = upd G' l (.lst xs) := ⟨_, rfl⟩
      rw [← hG3] at t3
      have eG3 : Ex G' G3 := fun b o e => by
        rw [hG3, upd_ne (ne_of_none e B'.gp)]
        exact e
      have h3l : G3 l = some (.lst xs) := by rw [hG3, upd_same]
      have hS' := hS.up eG3
      have mlen : ms.length = off sz n := by rw [hms.len, marks_len]
      have off1 := br.off_le (Nat.le_refl n)
      walk_at "rd"
      refine l_lcL (sqL (B'.t.gh _ _ (hmG eG))) (fun D i H2 => Ls A0 H H D G3 H2 (tbv (List.replicate i 0))) (fun D hD => Ls.start t3 hD) (fun D i H2 hP => sqL (hP.t.gh _ _ (eG3 _ _ (hmG eG)))) (fun D i x H2 hD hx hP => ?_) (fun t H2 hD hP => ?_)
      · have hi := (List.getElem?_eq_some_iff.mp hx).1
        walk_at "rd"
        refine ⟨rfl, ?_⟩
        walk_at "rd"
        refine ⟨_, hP.own, by rw [List.length_map, List.length_replicate]; exact Nat.lt_of_le_of_lt (show i ≤ 1000 by omega) (by decide), ?_⟩
        have z := hP.put (tbv (List.replicate (i + 1) 0))
        have e : tbv (List.replicate (i + 1) 0) = tbv (List.replicate i 0) ++ [V.int 0] := by
          rw [List.replicate_succ']
          exact List.map_append ..
        rw [e] at z ⊢
        exact z
      · walk_at "rd"
        refine r_lenL (sqL (hP.t.gh _ _ h3l)) ?_
        walk_at "rd"
        refine l_R (by omega) (by omega) (fun i σ H' => ∃ T z1 z2 z3 z4 z5, σ = [some (.ref b), some (.ref m), some (.ref l), y1, y2, y3, y4, some (.ref t), z1, z2, z3, z4, z5, none] ∧ Ls A0 H H t G3 H' (tbv T) ∧ Under L R sz n T i) ⟨_, none, none, none, none, none, rfl, hP, by rw [mlen]; exact Under.zero⟩ (fun i σ H' hi hW => ?_) (fun σ H' hW => ?_)
        · obtain ⟨T, z1, z2, z3, z4, z5, rfl, B4, u⟩ := hW
          walk_at "rd"
          refine l_L (sqL (B4.t.gh _ _ h3l)) (fun j σ H' => ∃ T1 st z3 z4 z5, σ = [some (.ref b), some (.ref m), some (.ref l), y1, y2, y3, y4, some (.ref t), some (.int (i : Nat)), some (.bl st), z3, z4, z5, none] ∧ Ls A0 H H t G3 H' (tbv T1) ∧ T1 = lap ((steps L R sz (n - 1)).take j) T ∧
            (st = true → T1 = T ∧ ∀ i e, i < j → (steps L R sz (n - 1))[i]? = some e → put T e = T)) ⟨T, true, z3, z4, z5, rfl, B4, rfl, fun _ => ⟨rfl, fun i e hi => absurd hi (Nat.not_lt_zero _)⟩⟩ (fun j σ H' hW => ?_) (fun j x σ H' hx hW => ?_) (fun σ H' hW => ?_)
          · obtain ⟨_, _, _, _, _, _, B5, _⟩ := hW
            exact sqL (B5.t.gh _ _ h3l)
          · obtain ⟨T1, st, z3, z4, z5, rfl, B5, hT, hst⟩ := hW
            obtain ⟨e, he, p, rfl, hp⟩ := hS'.get hx
            have hem := List.mem_of_getElem? he
            have hlt := step_lt wv (a := e.1) (b := e.2) hem
            have T1l : T1.length = off sz n := by rw [hT, lap_len, u.len]
            have ha : e.1 < T1.length := by omega
            have hb2 : e.2 < T1.length := by omega
            have hput : put T1 e = lap ((steps L R sz (n - 1)).take (j + 1)) T := by
              rw [hT, ← lap_snoc, List.take_add_one, he]
              rfl
            refine r_gtup (sqT (B5.t.gh _ _ hp)) rfl ?_
            walk_at "rd"
            refine r_ixL (sqL B5.own) (atI_nat (tb_at ha)) ?_
            walk_at "rd"
            refine r_I ⟨by omega, by omega, by decide⟩ ?_
            walk_at "rd"
            refine r_ixL (sqL B5.own) (atI_nat (tb_at hb2)) ?_
            walk_at "rd"
            rw [or_val]
            walk_at "rd"
            refine r_ixL (sqL B5.own) (atI_nat (tb_at ha)) ?_
            walk_at "rd"
            refine r_iteN (fun hn => ?_) (fun heq => ?_)
            · walk_at "rd"
              refine r_setL B5.own (ixN_nat (by omega) (by rw [List.length_map]; omega)) ?_
              walk_at "rd"
              refine ⟨put T1 e, false, _, _, _, rfl, ?_, hput, fun z => nomatch z⟩
              rw [Int.toNat_natCast, tb_set]
              exact B5.put _
            · have hpe : put T1 e = T1 := put_eq ha (by
                have z := V.int.inj heq
                omega)
              walk_at "rd"
              refine ⟨T1, st, _, _, _, rfl, B5, by rw [← hput, hpe], fun hs => ?_⟩
              obtain ⟨h1, h2⟩ := hst hs
              refine ⟨h1, fun i' e' hi' he' => ?_⟩
              by_cases hij : i' < j
              · exact h2 i' e' hij he'
              · have e4 : i' = j := by omega
                rw [e4, he] at he'
                rw [← Option.some.inj he', ← h1]
                exact hpe
          · obtain ⟨T1, st, z3, z4, z5, rfl, B5, hT, hst⟩ := hW
            rw [hSl, List.take_length] at hT
            walk_at "rd"
            refine r_iteB (fun hs => ?_) (fun hs => ?_)
            · refine r_break ?_
              walk_at "rd"
              obtain ⟨h1, h2⟩ := hst hs
              subst h1
              refine q t H' T1 B5.t.g0 B5.hp B5.own (u.still wv fun a b' c' hab hc => ?_) (u.bits wv)
              obtain ⟨i', hi'⟩ := List.getElem?_of_mem hab
              have hlt := step_lt wv (a := a) (b := b') hab
              have hi2 := (List.getElem?_eq_some_iff.mp hi').1
              exact bit_same (e := (a, b')) (h2 i' _ (by rw [hSl]; exact hi2) hi') (by rw [u.len]; exact hlt.1) c' hc
            · walk_at "rd"
              refine ⟨T1, _, _, _, _, _, rfl, B5, ?_⟩
              rw [hT]
              exact u.lap wv
        · obtain ⟨T, z1, z2, z3, z4, z5, rfl, B4, u⟩ := hW
          walk_at "rd"
          refine q t H' T B4.t.g0 B4.hp B4.own (u.done wv ?_) (u.bits wv)
          have z := steps_len wv
          omega
end
end K21
namespace K21
open PySem PySem.Spec PyProof.Rows L2 Dk Tl
/-- one step of a reading -/
local macro_rules | `(tactic| walk_at "rd1") => `(tactic| first
  | ((with_reducible refine r_var (v := ?rv) ?rh ?_); (case rh => rfl))
  | with_reducible refine r_c ?_
  | with_reducible refine r_seq ?_
  | with_reducible refine r_asg ?_
  | with_reducible refine r_par ?_
  | with_reducible refine r_gname ?_
  | with_reducible refine r_op ?_
  | with_reducible refine r_forLo ?_
  | with_reducible refine r_forTo ?_
  | with_reducible refine r_forSo ?_
  | with_reducible refine r_forRo ?_
  | with_reducible refine r_lcRo ?_
  | with_reducible refine r_lcLo ?_
  | with_reducible refine r_yes ?_
  | with_reducible refine r_callK0 ?_
  | with_reducible refine r_break ?_
  | with_reducible refine r_forR2o ?_
  | with_reducible refine r_forEo ?_
  | with_reducible refine r_forESo ?_
  | with_reducible refine r_xfo ?_
  | with_reducible refine r_noP ?_
  | with_reducible refine r_part ?_
  | with_reducible refine r_pI ?_
  | with_reducible refine r_gcons ?_
  | with_reducible refine r_gnil ?_
  | with_reducible refine r_mkO ?_
  | with_reducible refine r_un ?_
  | with_reducible refine r_addI ?_
  | with_reducible refine r_I0 ?_
  | with_reducible refine r_U ?_
  | with_reducible refine r_cons ?_
  | with_reducible refine r_nil ?_
  | with_reducible refine r_CB ?_
  | with_reducible refine r_call ?_
  | with_reducible refine r_callS ?_
  | with_reducible refine r_int ?_
  | with_reducible refine r_max ?_
  | with_reducible refine r_min ?_
  | with_reducible refine r_test ?_
  | with_reducible refine r_B ?_
  | with_reducible refine r_blv ?_
  | with_reducible refine r_and ?_
  | with_reducible refine r_or ?_
  | with_reducible refine r_not ?_
  | with_reducible refine r_andV ?_
  | with_reducible refine r_orV ?_
  | with_reducible refine r_notV ?_
  | with_reducible refine r_ifE ?_
  | with_reducible refine r_ifS ?_
  | with_reducible refine r_ret ?_
  | with_reducible refine r_retN ?_
  | with_reducible refine r_drop ?_
  | with_reducible refine r_next ?_
  | with_reducible refine r_sl ?_
  | with_reducible refine r_gsub ?_
  | with_reducible refine r_bm ?_
  | with_reducible refine r_tup ?_
  | with_reducible refine r_lst ?_
  | with_reducible refine r_isN ?_
  | with_reducible refine r_notN ?_
  | with_reducible refine r_itt ?_
  | with_reducible refine r_iff ?_
  | with_reducible refine r_ittN ?_
  | with_reducible refine r_iffN ?_
  | ((with_reducible refine r_ittD ?rh ?_); (case rh => rfl))
  | ((with_reducible refine r_iffD ?rh ?_); (case rh => rfl))
  | ((with_reducible refine r_modP ?rh ?_); (case rh => decide))
  | ((with_reducible refine r_eq ?rh ?_); (case rh => rfl))
  | ((with_reducible refine r_eqP ?rh ?_); (case rh => rfl))
  | ((with_reducible refine r_ne ?rh ?_); (case rh => rfl)))
local macro_rules | `(tactic| walk_at "rd") => `(tactic| repeat walk_at "rd1")
local macro_rules | `(tactic| walk_at "isi") => `(tactic| first | refine r_isi (b := true) (by assumption) (by decide +kernel) ?_ | refine r_isi (b := false) (by assumption) (by decide +kernel) ?_)
local macro_rules | `(tactic| walk_at "rs1") => `(tactic| first
  | with_reducible refine r_seq ?_
  | with_reducible refine r_asg ?_
  | with_reducible refine r_gname ?_
  | with_reducible refine r_ret ?_)
local macro_rules | `(tactic| walk_at "rs") => `(tactic| repeat walk_at "rs1")

section
variable {P : Program} {w : World} {K : PySem.W.Frag} {mg : Str → Option Value} {base : Heap}
def spRowOf (f : List Nat → Nat → List Nat) : Sp := fun vs H Q _ => ∃ (t : Addr) (T : List Nat) (j : Nat), vs = [.ref t, .int (j : Nat)] ∧ H t = some (.lst (tbv T)) ∧ j < T.length ∧ T.length ≤ 1000 ∧ ∀ p H', Ex H H' → H p = none → H' p = some (.lst (tbv (f T j))) → Q (.ref p) H'
theorem filter_take {f : Nat → Bool} {n i : Nat} : (List.range (i + 1)).filter f = (List.range i).filter f ++ (if f i then [i] else []) := by
  rw [List.range_succ, List.filter_append]
  congr 1
  cases h : f i <;> simp [h]
theorem filter_len {f : Nat → Bool} {i : Nat} : ((List.range i).filter f).length ≤ i := Nat.le_trans (List.length_filter_le ..) (by simp)
theorem ok_law_behind (T : Txt K mg) : FnOk P w K mg base CX0 1 T.a_law_behind T.d_law_behind ["_law_table", "_law_j"] (spRowOf bh) := by
  refine T.F_law_behind.ok sc_law_behind (fun vs H Q E h => ?_) (fun cdv A outer s H vs Q E hr h => ?_)
  · obtain ⟨t, U, j, rfl, _⟩ := h
    rfl
  · obtain ⟨t, U, j, rfl, ht, hj, hl, q⟩ := h
    refine ⟨_, (pss_one (ps_ret (pe_lc (own := [("_law_k", 2)]) (g := gName 2) rfl sc_law_behind.nd (pi_range1 (by rfl) T.n_range (pa_cons (pe_callB call_lenU (by rfl) T.n_len (by decide +kernel) (pa_cons (pv 0) pa_nil)) pa_nil)) (blkOk_by (N := N_law_behind) (sc := defScope s_law_behind) (by decide +kernel)) (fun _ _ _ _ _ => pg_name (i := 2) sc_law_behind.nd rfl (Or.inl rfl)) (fun _ _ _ _ _ => (pts_one (pt_cmpR op_eq (pe_op op_and (pe_op op_shr (pe_ix (k_ix (K := K) rfl) (pv 0) (pv 1) (fun _ _ => rfl)) (pv 2)) pe_int) pe_int (nomark _)))) (fun _ _ _ _ _ => (pv 2))))), ?_⟩
    walk_at "rd"
    refine r_lenL (sqL ht) ?_
    walk_at "rd"
    rw [List.length_map]
    refine l_lcR (by omega) (by omega) (fun D i H' => Ex H H' ∧ H' D = some (.lst (tbv ((List.range i).filter fun k => (U.getD j 0).testBit k)))) (fun D hD => ⟨Same.new (Same.refl H) hD, upd_same⟩) (fun D i H' hD hi hP => ?_) (fun D H' hD hP => ?_)
    · obtain ⟨e, hd⟩ := hP
      walk_at "rd"
      refine ⟨rfl, ?_⟩
      walk_at "rd"
      refine r_ixL (sqL (e _ _ ht)) (atI_nat (tb_at hj)) ?_
      walk_at "rd"
      refine r_I (by omega) ?_
      walk_at "rd"
      rw [bit_val]
      refine r_iteB (fun hb => ?_) (fun hb => ?_)
      · walk_at "rd"
        refine ⟨_, hd, by rw [List.length_map]; exact Nat.lt_of_le_of_lt (Nat.le_trans filter_len (show i ≤ 1000 by omega)) (by decide), Same.mut e hD, ?_⟩
        rw [filter_take (n := 0), if_pos hb, upd_same, ← show tbv [i] = [V.int (i : Nat)] from rfl]
        exact congrArg (fun z => some (HO.lst z)) (List.map_append ..).symm
      · refine ⟨e, ?_⟩
        rw [filter_take (n := 0), hb, hd]
        simp
    · obtain ⟨e, hd⟩ := hP
      rw [Int.toNat_natCast] at hd
      exact q D H' e hD hd
theorem ok_law_ahead (T : Txt K mg) : FnOk P w K mg base CX0 1 T.a_law_ahead T.d_law_ahead ["_law_table", "_law_j"] (spRowOf ah) := by
  refine T.F_law_ahead.ok sc_law_ahead (fun vs H Q E h => ?_) (fun cdv A outer s H vs Q E hr h => ?_)
  · obtain ⟨t, U, j, rfl, _⟩ := h
    rfl
  · obtain ⟨t, U, j, rfl, ht, hj, hl, q⟩ := h
    refine ⟨_, (pss_one (ps_ret (pe_lc (own := [("_law_k", 2)]) (g := gName 2) rfl sc_law_ahead.nd (pi_range1 (by rfl) T.n_range (pa_cons (pe_callB call_lenU (by rfl) T.n_len (by decide +kernel) (pa_cons (pv 0) pa_nil)) pa_nil)) (blkOk_by (N := N_law_ahead) (sc := defScope s_law_ahead) (by decide +kernel)) (fun _ _ _ _ _ => pg_name (i := 2) sc_law_ahead.nd rfl (Or.inl rfl)) (fun _ _ _ _ _ => (pts_one (pt_cmpR op_eq (pe_op op_and (pe_op op_shr (pe_ix (k_ix (K := K) rfl) (pv 0) (pv 2) (fun _ _ => rfl)) (pv 1)) pe_int) pe_int (nomark _)))) (fun _ _ _ _ _ => (pv 2))))), ?_⟩
    walk_at "rd"
    refine r_lenL (sqL ht) ?_
    walk_at "rd"
    rw [List.length_map]
    refine l_lcR (by omega) (by omega) (fun D i H' => Ex H H' ∧ H' D = some (.lst (tbv ((List.range i).filter fun k => (U.getD k 0).testBit j)))) (fun D hD => ⟨Same.new (Same.refl H) hD, upd_same⟩) (fun D i H' hD hi hP => ?_) (fun D H' hD hP => ?_)
    · obtain ⟨e, hd⟩ := hP
      walk_at "rd"
      refine ⟨rfl, ?_⟩
      walk_at "rd"
      refine r_ixL (sqL (e _ _ ht)) (atI_nat (tb_at (by omega))) ?_
      walk_at "rd"
      refine r_I (by omega) ?_
      walk_at "rd"
      rw [bit_val]
      refine r_iteB (fun hb => ?_) (fun hb => ?_)
      · walk_at "rd"
        refine ⟨_, hd, by rw [List.length_map]; exact Nat.lt_of_le_of_lt (Nat.le_trans filter_len (show i ≤ 1000 by omega)) (by decide), Same.mut e hD, ?_⟩
        rw [filter_take (n := 0), if_pos hb, upd_same, ← show tbv [i] = [V.int (i : Nat)] from rfl]
        exact congrArg (fun z => some (HO.lst z)) (List.map_append ..).symm
      · refine ⟨e, ?_⟩
        rw [filter_take (n := 0), hb, hd]
        simp
    · obtain ⟨e, hd⟩ := hP
      rw [Int.toNat_natCast] at hd
      exact q D H' e hD hd
theorem filter_step {f : Nat → Bool} {B : List Nat} {i k : Nat} (h : B[i]? = some k) : (B.take (i + 1)).filter f = (B.take i).filter f ++ (if f k then [k] else []) := by
  rw [List.take_add_one, h, List.filter_append]
  congr 1
  cases h : f k <;> simp [h]
theorem tb_get {B : List Nat} {i : Nat} {x : V} (h : (tbv B)[i]? = some x) : ∃ k, B[i]? = some k ∧ x = .int (k : Nat) := by
  rw [List.getElem?_map] at h
  obtain ⟨k, hk, rfl⟩ := Option.map_eq_some_iff.mp h
  exact ⟨k, hk, rfl⟩
theorem ok_law_close (T : Txt K mg) : FnOk P w K mg base CX0 2 T.a_law_close T.d_law_close ["_law_table", "_law_j"] (spRowOf cl) := by
  refine T.F_law_close.ok sc_law_close (fun vs H Q E h => ?_) (fun cdv A outer s H vs Q E hr h => ?_)
  · obtain ⟨t, U, j, rfl, _⟩ := h
    rfl
  · obtain ⟨t, U, j, rfl, ht, hj, hl, q⟩ := h
    refine ⟨_, (pss_cons (ps_set (i := 2) sc_law_close.nd rfl (Or.inl rfl) (pe_call (ok_law_behind T) hr (by rfl) T.g_law_behind T.F_law_behind.kp T.b_law_behind .nil pass0 (pa_cons (pv 0) (pa_cons (pv 1) pa_nil))))
        (pss_cons (ps_set (i := 3) sc_law_close.nd rfl (Or.inl rfl) (pe_lst pa_nil))
        (pss_cons (ps_for PassesOwn.never rfl (pi_list (pv 2)) (pg_name (i := 4) sc_law_close.nd rfl (Or.inr rfl)) (pss_one (ps_if (pt_cmpR (op_eqU hr.units) (pe_callB call_lenU (by rfl) T.n_len (by decide +kernel) (pa_cons (pe_lc (own := [("_law_m", 5)]) (g := gName 5) rfl sc_law_close.nd (pi_list (pv 2)) (blkOk_by (N := N_law_close) (sc := defScope s_law_close) (by decide +kernel)) (fun _ _ _ _ _ => pg_name (i := 5) sc_law_close.nd rfl (Or.inl rfl)) (fun _ _ _ _ _ => (pts_one (pt_cmpR op_eq (pe_op op_and (pe_op op_shr (pe_ix (k_ix (K := K) rfl) (pv 0) (pv 5) (fun _ _ => rfl)) (pv 4)) pe_int) pe_int (nomark _)))) (fun _ _ _ _ _ => (pv 5))) pa_nil)) pe_int (nomark _)) (pss_one (ps_expr (pe_bm PySem.F.plainAttrs_list PySem.F.slot_list_append PySem.F.type_list_append mt_append (pv 3) (pa_cons (pv 4) pa_nil)))) pss_nil)))
        (pss_one (ps_ret (pv 3)))))), ?_⟩
    walk_at "rd"
    refine ⟨t, U, j, rfl, ht, hj, hl, fun p H1 e1 _ hp => ?_⟩
    have bl : (bh U j).length ≤ 1000 := Nat.le_trans filter_len hl
    walk_at "rd"
    refine r_small nsz fun f hf => ?_
    have hp2 : ∀ {H'}, Ex H1 H' → H' p = some (.lst (tbv (bh U j))) := fun e => e _ _ hp
    walk_at "rd"
    refine l_L (sqL (hp2 (Same.new (Same.refl H1) hf))) (fun i σ H' => ∃ z1 z2, σ = [some (.ref t), some (.int (j : Nat)), some (.ref p), some (.ref f), z1, z2] ∧ Ex H1 H' ∧ H' f = some (.lst (tbv (((bh U j).take i).filter fun k => ((bh U j).filter fun m => (U.getD m 0).testBit k).isEmpty)))) ⟨none, none, rfl, Same.new (Same.refl H1) hf, upd_same⟩ (fun i σ H' hW => ?_) (fun i x σ H' hx hW => ?_) (fun σ H' hW => ?_)
    · obtain ⟨_, _, _, e, _⟩ := hW
      exact sqL (hp2 e)
    · obtain ⟨z1, z2, rfl, e, hd⟩ := hW
      obtain ⟨k, hk, rfl⟩ := tb_get hx
      have hkT := (mem_bh.mp (List.mem_of_getElem? hk)).1
      have hi := (List.getElem?_eq_some_iff.mp hk).1
      walk_at "rd"
      refine l_lcL (sqL (hp2 e)) (fun D i H2 => Ex H' H2 ∧ H2 D = some (.lst (tbv (((bh U j).take i).filter fun m => (U.getD m 0).testBit k)))) (fun D hD => ⟨Same.new (Same.refl H') hD, upd_same⟩) (fun D i H2 hP => sqL (hp2 (e.trans hP.1))) (fun D i x H2 hD hx hP => ?_) (fun D H2 hD hP => ?_)
      · obtain ⟨e2, hd2⟩ := hP
        obtain ⟨m, hm, rfl⟩ := tb_get hx
        have hmT := (mem_bh.mp (List.mem_of_getElem? hm)).1
        walk_at "rd"
        refine ⟨rfl, ?_⟩
        walk_at "rd"
        refine r_ixL (sqL (e2 _ _ (e _ _ (e1 _ _ ht)))) (atI_nat (tb_at hmT)) ?_
        walk_at "rd"
        refine r_I (by omega) ?_
        walk_at "rd"
        rw [bit_val]
        refine r_iteB (fun hb => ?_) (fun hb => ?_)
        · walk_at "rd"
          refine ⟨_, hd2, by rw [List.length_map]; exact Nat.lt_of_le_of_lt (Nat.le_trans (List.length_filter_le ..) (Nat.le_trans (List.length_take_le' ..) bl)) (by decide), Same.mut e2 hD, ?_⟩
          rw [filter_step hm, if_pos hb, upd_same, ← show tbv [m] = [V.int (m : Nat)] from rfl]
          exact congrArg (fun z => some (HO.lst z)) (List.map_append ..).symm
        · refine ⟨e2, ?_⟩
          rw [filter_step hm, hb, hd2]
          simp
      · obtain ⟨e2, hd2⟩ := hP
        rw [List.length_map, List.take_length] at hd2
        walk_at "rd"
        refine r_lenL (sqL hd2) ?_
        walk_at "rd"
        rw [List.length_map]
        have hd3 := e2 _ _ hd
        refine r_ite (fun h0 => ?_) (fun h0 => ?_)
        · have hb : (((bh U j).filter fun m => (U.getD m 0).testBit k).isEmpty) = true := by
            rw [List.isEmpty_iff]
            have z := V.int.inj h0
            exact List.length_eq_zero_iff.mp (by omega)
          walk_at "rd"
          refine r_tyL (sqL hd3) ?_
          walk_at "rd"
          refine r_app hd3 (by rw [List.length_map]; exact Nat.lt_of_le_of_lt (Nat.le_trans (List.length_filter_le ..) (Nat.le_trans (List.length_take_le' ..) bl)) (by decide)) ?_
          walk_at "rd"
          refine ⟨_, _, rfl, Same.mut (e.trans e2) hf, ?_⟩
          rw [filter_step hk, if_pos hb, upd_same, ← show tbv [k] = [V.int (k : Nat)] from rfl]
          exact congrArg (fun z => some (HO.lst z)) (List.map_append ..).symm
        · have hb : (((bh U j).filter fun m => (U.getD m 0).testBit k).isEmpty) = false := by
            rw [Bool.eq_false_iff]
            intro z
            rw [List.isEmpty_iff] at z
            exact h0 (by rw [z]; rfl)
          walk_at "rd"
          refine ⟨_, _, rfl, e.trans e2, ?_⟩
          rw [filter_step hk, hb, hd3]
          simp
    · obtain ⟨z1, z2, rfl, e, hd⟩ := hW
      rw [List.length_map, List.take_length] at hd
      walk_at "rd"
      exact q f H' (e1.trans e) (e1.free hf) hd
end
end K21
namespace K21
open PySem PySem.Spec PyProof.Rows L2 Dk Tl
/-- one step of a reading -/
local macro_rules | `(tactic| walk_at "rd1") => `(tactic| first
  | ((with_reducible refine r_var (v := ?rv) ?rh ?_); (case rh => rfl))
  | with_reducible refine r_c ?_
  | with_reducible refine r_seq ?_
  | with_reducible refine r_asg ?_
  | with_reducible refine r_par ?_
  | with_reducible refine r_gname ?_
  | with_reducible refine r_op ?_
  | with_reducible refine r_forLo ?_
  | with_reducible refine r_forTo ?_
  | with_reducible refine r_forSo ?_
  | with_reducible refine r_forRo ?_
  | with_reducible refine r_lcRo ?_
  | with_reducible refine r_lcLo ?_
  | with_reducible refine r_yes ?_
  | with_reducible refine r_callK0 ?_
  | with_reducible refine r_break ?_
  | with_reducible refine r_forR2o ?_
  | with_reducible refine r_forEo ?_
  | with_reducible refine r_forESo ?_
  | with_reducible refine r_xfo ?_
  | with_reducible refine r_noP ?_
  | with_reducible refine r_part ?_
  | with_reducible refine r_pI ?_
  | with_reducible refine r_gcons ?_
  | with_reducible refine r_gnil ?_
  | with_reducible refine r_mkO ?_
  | with_reducible refine r_un ?_
  | with_reducible refine r_addI ?_
  | with_reducible refine r_I0 ?_
  | with_reducible refine r_U ?_
  | with_reducible refine r_cons ?_
  | with_reducible refine r_nil ?_
  | with_reducible refine r_CB ?_
  | with_reducible refine r_call ?_
  | with_reducible refine r_callS ?_
  | with_reducible refine r_int ?_
  | with_reducible refine r_max ?_
  | with_reducible refine r_min ?_
  | with_reducible refine r_test ?_
  | with_reducible refine r_B ?_
  | with_reducible refine r_blv ?_
  | with_reducible refine r_and ?_
  | with_reducible refine r_or ?_
  | with_reducible refine r_not ?_
  | with_reducible refine r_andV ?_
  | with_reducible refine r_orV ?_
  | with_reducible refine r_notV ?_
  | with_reducible refine r_ifE ?_
  | with_reducible refine r_ifS ?_
  | with_reducible refine r_ret ?_
  | with_reducible refine r_retN ?_
  | with_reducible refine r_drop ?_
  | with_reducible refine r_next ?_
  | with_reducible refine r_sl ?_
  | with_reducible refine r_gsub ?_
  | with_reducible refine r_bm ?_
  | with_reducible refine r_tup ?_
  | with_reducible refine r_lst ?_
  | with_reducible refine r_isN ?_
  | with_reducible refine r_notN ?_
  | with_reducible refine r_itt ?_
  | with_reducible refine r_iff ?_
  | with_reducible refine r_ittN ?_
  | with_reducible refine r_iffN ?_
  | ((with_reducible refine r_ittD ?rh ?_); (case rh => rfl))
  | ((with_reducible refine r_iffD ?rh ?_); (case rh => rfl))
  | ((with_reducible refine r_modP ?rh ?_); (case rh => decide))
  | ((with_reducible refine r_eq ?rh ?_); (case rh => rfl))
  | ((with_reducible refine r_eqP ?rh ?_); (case rh => rfl))
  | ((with_reducible refine r_ne ?rh ?_); (case rh => rfl)))
local macro_rules | `(tactic| walk_at "rd") => `(tactic| repeat walk_at "rd1")
local macro_rules | `(tactic| walk_at "isi") => `(tactic| first | refine r_isi (b := true) (by assumption) (by decide +kernel) ?_ | refine r_isi (b := false) (by assumption) (by decide +kernel) ?_)
local macro_rules | `(tactic| walk_at "rs1") => `(tactic| first
  | with_reducible refine r_seq ?_
  | with_reducible refine r_asg ?_
  | with_reducible refine r_gname ?_
  | with_reducible refine r_ret ?_)
local macro_rules | `(tactic| walk_at "rs") => `(tactic| repeat walk_at "rs1")

/-- where a drawing def stands: from G0 H0 on -/
structure Wk (b h : Addr) (G0 H0 G H : Hp) : Prop where
  t : Gr (A2 b h) G0 H0 G H
  w : W2 b h G H
section
variable {b h p : Addr} {G0 H0 G H G1 H1 : Hp} {o : HO}
theorem Wk.start (w : W2 b h G H) : Wk b h G H G H := ⟨Gr.refl w.g, w⟩
theorem Wk.dr (k : Wk b h G0 H0 G H) (d : Dr2 b h H H1) : Wk b h G0 H0 G H1 := ⟨k.t.trans (k.w.gdr d), k.w.dr d⟩
theorem Wk.sub (k : Wk b h G0 H0 G H) (t : Gr (A2 b h) G H G1 H1) (s : Bx H1 b h) : Wk b h G0 H0 G1 H1 := ⟨k.t.trans t, k.w.step t s⟩
theorem Wk.pure (k : Wk b h G0 H0 G H) (t : Gr A0 G H G1 H1) : Wk b h G0 H0 G1 H1 := ⟨k.t.trans t.of0, k.w.pure t⟩
theorem Gr.ex {A : Addr → Prop} (g : Ex G H) (e : Ex H H1) : Gr A G H G H1 :=
  ⟨Same.refl _, g.trans e, fun b o _ h => e b o h, fun b o h => ⟨o, e b o h⟩, fun b o h h' => h'⟩
theorem Wk.ex (k : Wk b h G0 H0 G H) (e : Ex H H1) : Wk b h G0 H0 G H1 := k.pure (Gr.ex k.w.g e)
theorem Wk.know (k : Wk b h G0 H0 G H) (e : Ex H H1) (hp : H p = none) (hp1 : H1 p = some o) : ∃ G1, Wk b h G0 H0 G1 H1 ∧ G1 p = some o ∧ Ex G G1 := by
  have t : Gr A0 G H (upd G p o) H1 := (Gr.ex k.w.g e).give hp hp1 (k.w.g.free hp)
  exact ⟨_, k.pure t, upd_same, t.gg⟩
theorem Wk.new (k : Wk b h G0 H0 G H) (hp : H p = none) (o : HO) : ∃ G1 H1, H1 = upd H p o ∧ Wk b h G0 H0 G1 H1 ∧ G1 p = some o ∧ Ex G G1 := by
  obtain ⟨G1, H1, k1, s1, h1⟩ := new_ex k.w.g hp o
  exact ⟨G1, H1, k1, k.pure s1, h1, s1.gg⟩
theorem Wk.g (k : Wk b h G0 H0 G H) (e : G p = some o) : H p = some o := k.w.g _ _ e
end
section
variable {P : Program} {w : World} {K : PySem.W.Frag} {mg : Str → Option Value} {base : Heap}
def spPair : Sp := fun vs H Q _ => ∃ (b h t : Addr) (L R : Nat → Sg) (sz : Nat → Nat) (n : Nat) (U : List Nat) (m : Int) (G : Hp), vs = [.ref b, .ref t, .int m] ∧ W2 b h G H ∧ G t = some (.lst (tbv U)) ∧ Wv L R sz n ∧ Tells L R sz n U ∧ U.length ≤ 1000 ∧
  ∀ q G' H' x y, Wk b h G H G' H' → G' q = some (.tup [.int (x : Nat), .int (y : Nat)]) → x < U.length → y < U.length → Bit U x y → Q (.ref q) H'
theorem ok_law_pair (T : Txt K mg) : FnOk P w K mg base CX0 3 T.a_law_pair T.d_law_pair ["_law_box", "_law_table", "_law_mode"] spPair := by
  refine T.F_law_pair.ok sc_law_pair (fun vs H Q E h => ?_) (fun cdv A outer s H vs Q E hr h => ?_)
  · obtain ⟨b, h, t, L, R, sz, n, U, m, G, rfl, _⟩ := h
    rfl
  · obtain ⟨b, h, t, L, R, sz, n, U, m, G, rfl, w2, ht, wv, tl, ul, q⟩ := h
    refine ⟨_, (pss_cons (ps_set (i := 3) sc_law_pair.nd rfl (Or.inl rfl) (pe_callB call_lenU (by rfl) T.n_len (by decide +kernel) (pa_cons (pv 1) pa_nil)))
        (Evl.pss_cut (ps_if (PW.pt (pw_or (pt_cmpR op_gt (pv 2) pe_int (nomark _)) (pw_or1 (PW.pt (pw_and (PW.pt (pw_or (pt_cmpR (op_eqU hr.units) (pv 2) pe_int (nomark _)) (pw_or1 (pt_cmpR (op_eqU hr.units) (pv 2) pe_int (nomark _))))) (pw_and1 (pt_cmpR op_gt (pe_call (ok_law_pick T) (hr.mono (by decide)) (by rfl) T.g_law_pick T.F_law_pick.kp T.b_law_pick .nil pass0 (pa_cons (pv 0) (pa_cons pe_int pa_nil))) pe_int (nomark _)))))))) (pss_cons (ps_set (i := 4) sc_law_pair.nd rfl (Or.inl rfl) (pe_op op_sub (pv 3) pe_int))
        (pss_cons (ps_set (i := 5) sc_law_pair.nd rfl (Or.inl rfl) (pe_call (ok_law_ahead T) (hr.mono (by decide)) (by rfl) T.g_law_ahead T.F_law_ahead.kp T.b_law_ahead .nil pass0 (pa_cons (pv 1) (pa_cons (pv 4) pa_nil))))
        (pss_cons (ps_set (i := 6) sc_law_pair.nd rfl (Or.inl rfl) (pe_call (ok_law_behind T) (hr.mono (by decide)) (by rfl) T.g_law_behind T.F_law_behind.kp T.b_law_behind .nil pass0 (pa_cons (pv 1) (pa_cons (pv 4) pa_nil))))
        (pss_cons (ps_set (i := 7) sc_law_pair.nd rfl (Or.inl rfl) (pe_or (pe_cmpR op_gt (pv 2) pe_int (nomark _)) (pe_one (pe_cmpR op_gt (pe_call (ok_law_pick T) (hr.mono (by decide)) (by rfl) T.g_law_pick T.F_law_pick.kp T.b_law_pick .nil pass0 (pa_cons (pv 0) (pa_cons pe_int pa_nil))) pe_int (nomark _)))))
        (pss_cons (ps_if (PW.pt (pw_and (pt_cmpR op_gt (pe_callB call_lenU (by rfl) T.n_len (by decide +kernel) (pa_cons (pv 5) pa_nil)) pe_int (nomark _)) (pw_and1 (PW.pt (pw_or (pt_cmpR (op_eqU hr.units) (pv 7) (pe_or (pe_cmpR (op_eqU hr.units) (pv 2) pe_int (nomark _)) (pe_one (pe_cmpR (op_eqU hr.units) (pv 2) pe_int (nomark _)))) (nomark _)) (pw_or1 (pt_cmpR (op_eqU hr.units) (pe_callB call_lenU (by rfl) T.n_len (by decide +kernel) (pa_cons (pv 6) pa_nil)) pe_int (nomark _)))))))) (pss_one (ps_ret (pe_tup (pa_cons (pe_ix ix_seq (pv 5) (pe_call (ok_law_pick T) (hr.mono (by decide)) (by rfl) T.g_law_pick T.F_law_pick.kp T.b_law_pick .nil pass0 (pa_cons (pv 0) (pa_cons (pe_callB call_lenU (by rfl) T.n_len (by decide +kernel) (pa_cons (pv 5) pa_nil)) pa_nil))) (fun _ _ => rfl)) (pa_cons (pv 4) pa_nil))))) pss_nil)
        (pss_one (ps_if (pt_cmpR op_gt (pe_callB call_lenU (by rfl) T.n_len (by decide +kernel) (pa_cons (pv 6) pa_nil)) pe_int (nomark _)) (pss_one (ps_ret (pe_tup (pa_cons (pv 4) (pa_cons (pe_ix ix_seq (pv 6) (pe_call (ok_law_pick T) (hr.mono (by decide)) (by rfl) T.g_law_pick T.F_law_pick.kp T.b_law_pick .nil pass0 (pa_cons (pv 0) (pa_cons (pe_callB call_lenU (by rfl) T.n_len (by decide +kernel) (pa_cons (pv 6) pa_nil)) pa_nil))) (fun _ _ => rfl)) pa_nil))))) pss_nil))))))) pss_nil)
        (Evl.pss_cut (ps_if (PW.pt (pw_and (pt_cmpR (op_eqU hr.units) (pv 2) pe_int (nomark _)) (pw_and1 (pt_cmpR op_gt (pe_call (ok_law_pick T) (hr.mono (by decide)) (by rfl) T.g_law_pick T.F_law_pick.kp T.b_law_pick .nil pass0 (pa_cons (pv 0) (pa_cons pe_int pa_nil))) pe_int (nomark _))))) (pss_one (ps_ret (pe_tup (pa_cons pe_int (pa_cons pe_int pa_nil))))) pss_nil)
        (pss_cons (ps_set (i := 8) sc_law_pair.nd rfl (Or.inl rfl) (pe_call (ok_law_pick T) (hr.mono (by decide)) (by rfl) T.g_law_pick T.F_law_pick.kp T.b_law_pick .nil pass0 (pa_cons (pv 0) (pa_cons (pv 3) pa_nil))))
        (Evl.pss_cut (ps_if (pt_cmpR (op_eqU hr.units) (pe_callB call_lenU (by rfl) T.n_len (by decide +kernel) (pa_cons (pe_call (ok_law_behind T) (hr.mono (by decide)) (by rfl) T.g_law_behind T.F_law_behind.kp T.b_law_behind .nil pass0 (pa_cons (pv 1) (pa_cons (pv 8) pa_nil))) pa_nil)) pe_int (nomark _)) (pss_one (ps_set (i := 8) sc_law_pair.nd rfl (Or.inl rfl) pe_int)) pss_nil)
        (pss_cons (ps_set (i := 6) sc_law_pair.nd rfl (Or.inl rfl) (pe_call (ok_law_behind T) (hr.mono (by decide)) (by rfl) T.g_law_behind T.F_law_behind.kp T.b_law_behind .nil pass0 (pa_cons (pv 1) (pa_cons (pv 8) pa_nil))))
        (Evl.pss_cut (ps_if (PW.pt (pw_and (pt_cmpR (op_eqU hr.units) (pv 2) pe_int (nomark _)) (pw_and1 (pt_cmpR op_gt (pe_call (ok_law_pick T) (hr.mono (by decide)) (by rfl) T.g_law_pick T.F_law_pick.kp T.b_law_pick .nil pass0 (pa_cons (pv 0) (pa_cons pe_int pa_nil))) pe_int (nomark _))))) (pss_one (ps_set (i := 6) sc_law_pair.nd rfl (Or.inl rfl) (pe_call (ok_law_close T) hr (by rfl) T.g_law_close T.F_law_close.kp T.b_law_close .nil pass0 (pa_cons (pv 1) (pa_cons (pv 8) pa_nil))))) pss_nil)
        (pss_one (ps_ret (pe_tup (pa_cons (pv 8) (pa_cons (pe_ix ix_seq (pv 6) (pe_call (ok_law_pick T) (hr.mono (by decide)) (by rfl) T.g_law_pick T.F_law_pick.kp T.b_law_pick .nil pass0 (pa_cons (pv 0) (pa_cons (pe_callB call_lenU (by rfl) T.n_len (by decide +kernel) (pa_cons (pv 6) pa_nil)) pa_nil))) (fun _ _ => rfl)) pa_nil)))))))))))), ?_⟩
    obtain ⟨b0, one⟩ := tl.bh0 wv
    have k0 := Wk.start w2
    have htG : ∀ {G'}, Ex G G' → G' t = some (.lst (tbv U)) := fun e => e _ _ ht
    have pickd : ∀ {C : List Nat} {d : Int}, 0 ≤ d → d < (C.length : Nat) → ∃ k, atI (tbv C) d = some (.int (k : Nat)) ∧ k ∈ C := fun {C d} d0 d1 => by
      have hd : d.toNat < C.length := by omega
      have e : (tbv C)[d.toNat]? = some (.int ((C[d.toNat] : Nat) : Int)) := by
        rw [List.getElem?_map, List.getElem?_eq_getElem hd]
        rfl
      exact ⟨C[d.toNat], at_g (by omega) e, List.getElem_mem _⟩
    walk_at "rd"
    refine r_lenL (sqL (k0.g ht)) ?_
    rw [List.length_map]
    walk_at "rs"
    refine ⟨fun σ H' => ∃ y4 y5 y6 y7 y8 G1, σ = [some (.ref b), some (.ref t), some (.int m), some (.int (U.length : Nat)), y4, y5, y6, y7, y8] ∧ Wk b h G H G1 H', ?_, ?_⟩
    · refine r_ifS ?_
      refine any_test (S := fun _ H1 => Dr2 b h H H1) (fun QB k => ?_) (fun c H1 D => ?_)
      · have rf : Dr2 b h H H := Dr2.refl w2.st
        walk_at "rd"
        refine r_ite (fun _ => k _ _ rf) (fun _ => ?_)
        walk_at "rd"
        refine r_ite (fun _ => ?_) (fun _ => ?_)
        · walk_at "rd"
          refine ⟨b, h, 4, rfl, w2.st, by decide, by decide, fun d H1 d0 d1 D1 => ?_⟩
          walk_at "rd"
          exact k _ _ D1
        · walk_at "rd"
          refine r_ite (fun _ => ?_) (fun _ => k _ _ rf)
          walk_at "rd"
          refine ⟨b, h, 4, rfl, w2.st, by decide, by decide, fun d H1 d0 d1 D1 => ?_⟩
          walk_at "rd"
          exact k _ _ D1
      · have k1 := k0.dr D
        refine r_iteB (fun _ => ?_) (fun _ => ?_)
        · walk_at "rd"
          have hnew : ((U.length : Nat) - 1 : Int) = ((U.length - 1 : Nat) : Int) := by omega
          rw [hnew]
          refine ⟨t, U, U.length - 1, rfl, k1.g ht, by omega, ul, fun p1 H2 e2 hp2 hp2' => ?_⟩
          obtain ⟨G2, k2, g2, eG2⟩ := k1.know e2 hp2 hp2'
          walk_at "rd"
          refine ⟨t, U, U.length - 1, rfl, k2.g (htG eG2), by omega, ul, fun p2 H3 e3 hp3 hp3' => ?_⟩
          obtain ⟨G3, k3, g3, eG3⟩ := k2.know e3 hp3 hp3'
          have g2' := eG3 _ _ g2
          have al : (ah U (U.length - 1)).length ≤ 1000 := Nat.le_trans filter_len ul
          have bl : (bh U (U.length - 1)).length ≤ 1000 := Nat.le_trans filter_len ul
          walk_at "rs"
          refine any_val (S := fun v H2 => ∃ c, v = .bl c ∧ Dr2 b h H3 H2) (fun Q k => ?_) (fun v H4 hv => ?_)
          · walk_at "rd"
            refine r_ite (fun _ => k _ _ ⟨true, rfl, Dr2.refl k3.w.st⟩) (fun _ => ?_)
            walk_at "rd"
            refine ⟨b, h, 3, rfl, k3.w.st, by decide, by decide, fun d H1 d0 d1 D1 => ?_⟩
            walk_at "rd"
            exact k _ _ ⟨_, rfl, D1⟩
          obtain ⟨c1, rfl, D4⟩ := hv
          have k4 := k3.dr D4
          walk_at "rs"
          refine r_ifS ?_
          refine any_test (S := fun c H2 => H2 = H4 ∧ (c = true → 0 < (ah U (U.length - 1)).length)) (fun QB k => ?_) (fun c H5 hc => ?_)
          · walk_at "rd"
            refine r_lenL (sqL (k4.g g2')) ?_
            walk_at "rd"
            rw [List.length_map]
            refine r_ite (fun hl => ?_) (fun hl => k _ _ ⟨rfl, fun z => nomatch z⟩)
            have hl' : 0 < (ah U (U.length - 1)).length := by omega
            have fin : ∀ c, QB c H4 := fun c => k _ _ ⟨rfl, fun _ => hl'⟩
            have two : ∀ c : Bool, (if c = true then QB true H4 else QB (decide (V.int ((bh U (U.length - 1)).length : Nat) = V.int 0)) H4) := fun c => r_iteB (fun _ => fin _) (fun _ => fin _)
            walk_at "rd"
            refine r_ite (fun _ => ?_) (fun _ => ?_)
            · walk_at "rd"
              refine r_iteB (fun _ => fin _) (fun _ => ?_)
              walk_at "rd"
              refine r_lenL (sqL (k4.g g3)) ?_
              walk_at "rd"
              exact fin _
            · walk_at "rd"
              refine r_iteB (fun _ => fin _) (fun _ => ?_)
              walk_at "rd"
              refine r_lenL (sqL (k4.g g3)) ?_
              walk_at "rd"
              exact fin _
          obtain ⟨rfl, hc⟩ := hc
          refine r_iteB (fun hc' => ?_) (fun _ => ?_)
          · have hl := hc hc'
            walk_at "rd"
            refine r_lenL (sqL (k4.g g2')) ?_
            rw [List.length_map]
            walk_at "rd"
            refine ⟨b, h, ((ah U (U.length - 1)).length : Nat), rfl, k4.w.st, by omega, by omega, fun d H6 d0 d1 D6 => ?_⟩
            have k6 := k4.dr D6
            obtain ⟨k, hk, hkC⟩ := pickd d0 d1
            walk_at "rd"
            refine r_ixL (sqL (k6.g g2')) hk ?_
            walk_at "rd"
            refine r_small nsz fun p hp => ?_
            obtain ⟨G8, H8, e8, k8, h8, eG8⟩ := k6.new hp (.tup [.int (k : Nat), .int (U.length - 1 : Nat)])
            rw [← e8]
            have hm := mem_ah.mp hkC
            exact q p G8 H8 k (U.length - 1) k8 h8 hm.1 (by omega) hm.2
          · walk_at "rd"
            refine r_lenL (sqL (k4.g g3)) ?_
            walk_at "rd"
            rw [List.length_map]
            refine r_ite (fun hl => ?_) (fun hl => ?_)
            · walk_at "rd"
              refine r_lenL (sqL (k4.g g3)) ?_
              rw [List.length_map]
              walk_at "rd"
              refine ⟨b, h, ((bh U (U.length - 1)).length : Nat), rfl, k4.w.st, by omega, by omega, fun d H6 d0 d1 D6 => ?_⟩
              have k6 := k4.dr D6
              obtain ⟨k, hk, hkC⟩ := pickd d0 d1
              walk_at "rd"
              refine r_ixL (sqL (k6.g g3)) hk ?_
              walk_at "rd"
              refine r_small nsz fun p hp => ?_
              obtain ⟨G8, H8, e8, k8, h8, eG8⟩ := k6.new hp (.tup [.int (U.length - 1 : Nat), .int (k : Nat)])
              rw [← e8]
              have hm := mem_bh.mp hkC
              exact q p G8 H8 (U.length - 1) k k8 h8 (by omega) hm.1 hm.2
            · walk_at "rd"
              exact ⟨_, _, _, _, _, G3, rfl, k4⟩
        · walk_at "rd"
          exact ⟨_, _, _, _, _, G, rfl, k1⟩
    · rintro σ H1 ⟨y4, y5, y6, y7, y8, G1, rfl, k1⟩
      have eG1 := k1.t.gg
      walk_at "rs"
      refine ⟨fun σ H' => ∃ y4 y5 y6 y7 y8 G1, σ = [some (.ref b), some (.ref t), some (.int m), some (.int (U.length : Nat)), y4, y5, y6, y7, y8] ∧ Wk b h G H G1 H', ?_, ?_⟩
      · refine r_ifS ?_
        refine any_test (S := fun _ H2 => Dr2 b h H1 H2) (fun QB k => ?_) (fun c H2 D => ?_)
        · have rf : Dr2 b h H1 H1 := Dr2.refl k1.w.st
          walk_at "rd"
          refine r_ite (fun _ => ?_) (fun _ => k _ _ rf)
          walk_at "rd"
          refine ⟨b, h, 4, rfl, k1.w.st, by decide, by decide, fun d H1 d0 d1 D1 => ?_⟩
          walk_at "rd"
          exact k _ _ D1
        · have k2 := k1.dr D
          refine r_iteB (fun _ => ?_) (fun _ => ?_)
          · walk_at "rd"
            refine r_small nsz fun p hp => ?_
            obtain ⟨G3, H3, e3, k3, h3, eG3⟩ := k2.new hp (.tup [.int 0, .int 1])
            rw [← e3]
            refine q p G3 H3 0 1 k3 h3 (by omega) one ?_
            have o0 : Ok sz n (0, 0) := ⟨wv.n0, by show 0 < sz 0; rw [wv.s0]; decide⟩
            have o1 : Ok sz n (0, 1) := ⟨wv.n0, by show 1 < sz 0; rw [wv.s0]; decide⟩
            exact (tl.2 (0, 0) (0, 1) o0 o1).mpr (.same rfl (by decide))
          · walk_at "rd"
            exact ⟨_, _, _, _, _, G1, rfl, k2⟩
      rintro σ H2 ⟨z4, z5, z6, z7, z8, G2, rfl, k2⟩
      have eG2 := k2.t.gg
      walk_at "rd"
      refine ⟨b, h, (U.length : Nat), rfl, k2.w.st, by omega, by omega, fun d H3 d0 d1 D3 => ?_⟩
      have k3 := k2.dr D3
      obtain ⟨j, rfl⟩ : ∃ j : Nat, d = (j : Nat) := ⟨d.toNat, by omega⟩
      walk_at "rs"
      refine ⟨fun σ H' => ∃ j G1, σ = [some (.ref b), some (.ref t), some (.int m), some (.int (U.length : Nat)), z4, z5, z6, z7, some (.int (j : Nat))] ∧ Wk b h G H G1 H' ∧ j < U.length ∧ bh U j ≠ [], ?_, ?_⟩
      · walk_at "rd"
        refine ⟨t, U, j, rfl, k3.g (htG eG2), by omega, ul, fun p1 H4 e4 hp4 hp4' => ?_⟩
        have k4 := k3.ex e4
        walk_at "rd"
        refine r_lenL (sqL hp4') ?_
        walk_at "rd"
        rw [List.length_map]
        refine r_ite (fun h0 => ?_) (fun h0 => ?_)
        · walk_at "rd"
          exact ⟨0, G2, rfl, k4, by omega, b0⟩
        · walk_at "rd"
          exact ⟨j, G2, rfl, k4, by omega, fun z => h0 (by rw [z]; rfl)⟩
      rintro σ H4 ⟨j, G4, rfl, k4, hj, hb⟩
      have eG4 := k4.t.gg
      walk_at "rd"
      refine ⟨t, U, j, rfl, k4.g (htG eG4), by omega, ul, fun p5 H5 e5 hp5 hp5' => ?_⟩
      obtain ⟨G5, k5, g5, eG5⟩ := k4.know e5 hp5 hp5'
      walk_at "rs"
      refine ⟨fun σ H' => ∃ p G1 C, σ = [some (.ref b), some (.ref t), some (.int m), some (.int (U.length : Nat)), z4, z5, some (.ref p), z7, some (.int (j : Nat))] ∧ Wk b h G H G1 H' ∧ G1 p = some (.lst (tbv C)) ∧ C ≠ [] ∧ C.length ≤ 1000 ∧ ∀ k ∈ C, k ∈ bh U j, ?_, ?_⟩
      · refine r_ifS ?_
        refine any_test (S := fun _ H2 => Dr2 b h H5 H2) (fun QB k => ?_) (fun c H2 D => ?_)
        · have rf : Dr2 b h H5 H5 := Dr2.refl k5.w.st
          walk_at "rd"
          refine r_ite (fun _ => ?_) (fun _ => k _ _ rf)
          walk_at "rd"
          refine ⟨b, h, 3, rfl, k5.w.st, by decide, by decide, fun d H1 d0 d1 D1 => ?_⟩
          walk_at "rd"
          exact k _ _ D1
        · have k6 := k5.dr D
          refine r_iteB (fun _ => ?_) (fun _ => ?_)
          · walk_at "rd"
            refine ⟨t, U, j, rfl, k6.g (htG (eG4.trans eG5)), by omega, ul, fun p7 H7 e7 hp7 hp7' => ?_⟩
            obtain ⟨G7, k7, g7, eG7⟩ := k6.know e7 hp7 hp7'
            walk_at "rd"
            exact ⟨p7, G7, cl U j, rfl, k7, g7, tl.cl_ne wv hj hb, Nat.le_trans (List.length_filter_le ..) (Nat.le_trans filter_len ul), fun k hk => cl_sub hk⟩
          · walk_at "rd"
            exact ⟨p5, G5, bh U j, rfl, k6, g5, hb, Nat.le_trans filter_len ul, fun k hk => hk⟩
      rintro σ H6 ⟨p6, G6, C, rfl, k6, g6, hC, cl2, hsub⟩
      have cl1 : 0 < C.length := List.length_pos_iff.mpr hC
      walk_at "rd"
      refine r_lenL (sqL (k6.g g6)) ?_
      rw [List.length_map]
      walk_at "rd"
      refine ⟨b, h, (C.length : Nat), rfl, k6.w.st, by omega, by omega, fun d H7 d0 d1 D7 => ?_⟩
      have k7 := k6.dr D7
      obtain ⟨k, hk, hkC⟩ := pickd d0 d1
      walk_at "rd"
      refine r_ixL (sqL (k7.g g6)) hk ?_
      walk_at "rd"
      refine r_small nsz fun p hp => ?_
      obtain ⟨G8, H8, e8, k8, h8, eG8⟩ := k7.new hp (.tup [.int (j : Nat), .int (k : Nat)])
      rw [← e8]
      have hm := mem_bh.mp (hsub k hkC)
      exact q p G8 H8 j k k8 h8 hj hm.1 hm.2
end
end K21
namespace K21
open PySem PySem.Spec PyProof.Rows L2 Dk Tl
/-- one step of a reading -/
local macro_rules | `(tactic| walk_at "rd1") => `(tactic| first
  | ((with_reducible refine r_var (v := ?rv) ?rh ?_); (case rh => rfl))
  | with_reducible refine r_c ?_
  | with_reducible refine r_seq ?_
  | with_reducible refine r_asg ?_
  | with_reducible refine r_par ?_
  | with_reducible refine r_gname ?_
  | with_reducible refine r_op ?_
  | with_reducible refine r_forLo ?_
  | with_reducible refine r_forTo ?_
  | with_reducible refine r_forSo ?_
  | with_reducible refine r_forRo ?_
  | with_reducible refine r_lcRo ?_
  | with_reducible refine r_lcLo ?_
  | with_reducible refine r_yes ?_
  | with_reducible refine r_callK0 ?_
  | with_reducible refine r_break ?_
  | with_reducible refine r_forR2o ?_
  | with_reducible refine r_forEo ?_
  | with_reducible refine r_forESo ?_
  | with_reducible refine r_xfo ?_
  | with_reducible refine r_noP ?_
  | with_reducible refine r_part ?_
  | with_reducible refine r_pI ?_
  | with_reducible refine r_gcons ?_
  | with_reducible refine r_gnil ?_
  | with_reducible refine r_mkO ?_
  | with_reducible refine r_un ?_
  | with_reducible refine r_addI ?_
  | with_reducible refine r_I0 ?_
  | with_reducible refine r_U ?_
  | with_reducible refine r_cons ?_
  | with_reducible refine r_nil ?_
  | with_reducible refine r_CB ?_
  | with_reducible refine r_call ?_
  | with_reducible refine r_callS ?_
  | with_reducible refine r_int ?_
  | with_reducible refine r_max ?_
  | with_reducible refine r_min ?_
  | with_reducible refine r_test ?_
  | with_reducible refine r_B ?_
  | with_reducible refine r_blv ?_
  | with_reducible refine r_and ?_
  | with_reducible refine r_or ?_
  | with_reducible refine r_not ?_
  | with_reducible refine r_andV ?_
  | with_reducible refine r_orV ?_
  | with_reducible refine r_notV ?_
  | with_reducible refine r_ifE ?_
  | with_reducible refine r_ifS ?_
  | with_reducible refine r_ret ?_
  | with_reducible refine r_retN ?_
  | with_reducible refine r_drop ?_
  | with_reducible refine r_next ?_
  | with_reducible refine r_sl ?_
  | with_reducible refine r_gsub ?_
  | with_reducible refine r_bm ?_
  | with_reducible refine r_tup ?_
  | with_reducible refine r_lst ?_
  | with_reducible refine r_isN ?_
  | with_reducible refine r_notN ?_
  | with_reducible refine r_itt ?_
  | with_reducible refine r_iff ?_
  | with_reducible refine r_ittN ?_
  | with_reducible refine r_iffN ?_
  | ((with_reducible refine r_ittD ?rh ?_); (case rh => rfl))
  | ((with_reducible refine r_iffD ?rh ?_); (case rh => rfl))
  | ((with_reducible refine r_modP ?rh ?_); (case rh => decide))
  | ((with_reducible refine r_eq ?rh ?_); (case rh => rfl))
  | ((with_reducible refine r_eqP ?rh ?_); (case rh => rfl))
  | ((with_reducible refine r_ne ?rh ?_); (case rh => rfl)))
local macro_rules | `(tactic| walk_at "rd") => `(tactic| repeat walk_at "rd1")
local macro_rules | `(tactic| walk_at "isi") => `(tactic| first | refine r_isi (b := true) (by assumption) (by decide +kernel) ?_ | refine r_isi (b := false) (by assumption) (by decide +kernel) ?_)
local macro_rules | `(tactic| walk_at "rs1") => `(tactic| first
  | with_reducible refine r_seq ?_
  | with_reducible refine r_asg ?_
  | with_reducible refine r_gname ?_
  | with_reducible refine r_ret ?_)
local macro_rules | `(tactic| walk_at "rs") => `(tactic| repeat walk_at "rs1")

section
variable {P : Program} {w : World} {K : PySem.W.Frag} {mg : Str → Option Value} {base : Heap}
def spMeet (f : (Nat → Sg) → (Nat → Sg) → Sg → Sg → Sg → Prop) : Sp := fun vs H Q _ => ∃ (b : Addr) (v u : V) (L R : Nat → Sg) (sz : Nat → Nat) (n : Nat) (x y : Sg), vs = [.ref b, v, u] ∧ Wr H b L R sz n ∧ SgV H v x ∧ SgV H u y ∧ Ok sz n x ∧ Ok sz n y ∧
  ∀ H' z m, Ex H H' → SgV H' z m → f L R x y m → Q z H'
theorem ok_meet_of (T : Txt K mg) : FnOk P w K mg base CX0 3 T.a_meet_of T.d_meet_of ["births", "one", "other"] (spMeet Mt) := by
  refine T.F_meet_of.ok sc_meet_of (fun vs H Q E h => ?_) (fun cdv A outer s H vs Q E hr h => ?_)
  · obtain ⟨b, v, u, L, R, sz, n, x, y, rfl, _⟩ := h
    rfl
  · obtain ⟨b, v, u, L, R, sz, n, x, y, rfl, wr, hv, hu, okx, oky, q⟩ := h
    refine ⟨_, (pss_cons (ps_while PassesOwn.never (pt_cmpR (op_neU hr.units) (pe_ix ix_seq (pv 1) pe_int (fun _ _ => rfl)) (pe_ix ix_seq (pv 2) pe_int (fun _ _ => rfl)) (nomark _)) (pss_cons (ps_asg (pe_callB cr_sortedPO (by rfl) T.n_sorted (by decide +kernel) (pa_cons (pe_lst (pa_cons (pv 1) (pa_cons (pv 2) pa_nil))) pa_nil)) (pg_unl rfl (pgs_cons (pg_name (i := 3) sc_meet_of.nd rfl (Or.inl rfl)) (pgs_cons (pg_name (i := 4) sc_meet_of.nd rfl (Or.inl rfl)) pgs_nil))))
        (pss_cons (ps_if (pt_val (pe_call (ok_told_ahead T) hr (by rfl) T.g_told_ahead T.F_told_ahead.kp T.b_told_ahead .nil pass0 (pa_cons (pv 0) (pa_cons (pv 4) (pa_cons (pv 3) pa_nil))))) (pss_one (ps_ret (pv 4))) pss_nil)
        (pss_one (ps_par (i := 1) (j := 2) rfl sc_meet_of.nd rfl rfl (by decide) rfl rfl (pa_cons (pv 3) (pa_cons (pe_ix ix_seq (pe_ix ix_seq (pv 0) (pe_ix ix_seq (pv 4) pe_int (fun _ _ => rfl)) (fun _ _ => rfl)) pe_int (fun _ _ => rfl)) pa_nil)) rfl)))))
        (pss_one (ps_ret (pe_callB (call_minD rfl hr.units65) (by rfl) T.n_min (by decide +kernel) (pa_cons (pv 1) (pa_cons (pv 2) pa_nil)))))), ?_⟩
    refine r_seq ?_
    refine ⟨fun m σ H' => ∃ v u x2 y2 z1 z2, σ = [some (.ref b), some v, some u, z1, z2] ∧ Ex H H' ∧ SgV H' v x2 ∧ SgV H' u y2 ∧ Ok sz n x2 ∧ Ok sz n y2 ∧ m = x2.1 + y2.1 ∧ ∀ t, Mt L R x2 y2 t → Mt L R x y t,
      ⟨_, v, u, x, y, none, none, rfl, Same.refl H, hv, hu, okx, oky, rfl, fun t h => h⟩, fun m σ H' hW => ?_⟩
    obtain ⟨v', u', x', y', z1, z2, rfl, e, hv', hu', okx', oky', rfl, hH⟩ := hW
    obtain ⟨ws, hws, br⟩ := wr.up e
    obtain ⟨p2, rfl, hp2⟩ := id hv'
    obtain ⟨p3, rfl, hp3⟩ := id hu'
    walk_at "rd"
    refine r_ixT (sqT hp2) (atI_nat (j := 0) rfl) ?_
    walk_at "rd"
    refine r_ixT (sqT hp3) (atI_nat (j := 0) rfl) ?_
    walk_at "rd"
    refine r_iteN (fun hne => ?_) (fun heq => ?_)
    · have hne' : x'.1 ≠ y'.1 := fun z => hne (by rw [z])
      refine ⟨fun σ H' => ∃ v u x2 y2 z1 z2, σ = [some (.ref b), some v, some u, z1, z2] ∧ Ex H H' ∧ SgV H' v x2 ∧ SgV H' u y2 ∧ Ok sz n x2 ∧ Ok sz n y2 ∧ x2.1 + y2.1 < x'.1 + y'.1 ∧ ∀ t, Mt L R x2 y2 t → Mt L R x y t,
        fun σ' H2 ⟨v, u, x2, y2, z1, z2, h1, h2, h3, h4, h5, h6, h7, h8⟩ => ⟨_, h7, v, u, x2, y2, z1, z2, h1, h2, h3, h4, h5, h6, rfl, h8⟩, ?_⟩
      walk_at "rd"
      refine r_small nsz fun l hl => ?_
      have e1 := Same.new (o := .lst [.ref p2, .ref p3]) (Same.refl H') hl
      walk_at "rd"
      refine r_sortSg hne' (sqL upd_same) (hv'.up e1) (hu'.up e1) fun l2 hl2 => ?_
      by_cases hc' : x'.1 < y'.1
      · rw [if_pos hc']
        have e2 := e1.trans (Same.new (o := .lst [.ref p2, .ref p3]) (Same.refl _) hl2)
        refine r_gunl (sqL upd_same) rfl ?_
        walk_at "rd"
        refine ⟨b, .ref p3, .ref p2, L, R, sz, n, y', x', rfl, wr.up (e.trans e2), hu'.up e2, hv'.up e2, oky', okx', fun H3 c e3 hc => ?_⟩
        have e03 := (e.trans e2).trans e3
        have e13 := e2.trans e3
        walk_at "rd"
        refine r_iteB (fun ht => ?_) (fun ht => ?_)
        · walk_at "rd"
          exact q _ _ y' e03 (hu'.up e13) (hH _ (.lTop hc' (hc.mp ht)))
        · have na : ¬ Tl.A L R y' x' := fun a => by
            rw [hc.mpr a] at ht
            cases ht
          obtain ⟨bv, hbv⟩ : ∃ bv, ws[y'.1]? = some bv := ⟨_, List.getElem?_eq_getElem (by rw [br.len]; exact oky'.1)⟩
          obtain ⟨q4, who, lv, rv, tx, rfl, hq4, hL, hR, _⟩ := br.at_ _ _ hbv
          walk_at "rd"
          refine r_ixT (sqT (e13 _ _ hp3)) (atI_nat (j := 0) rfl) ?_
          walk_at "rd"
          refine r_ixT (sqT (e13 _ _ hws)) (atI_nat hbv) ?_
          walk_at "rd"
          refine r_ixT (sqT (e13 _ _ hq4)) (atI_nat (j := 1) rfl) ?_
          walk_at "rd"
          refine ⟨_, _, rfl, ?_⟩
          have w1 := br.wv.okL (show 0 < y'.1 by omega) oky'.1
          have w2 := br.wv.l y'.1 (by omega) oky'.1
          exact ⟨_, _, x', L y'.1, _, _, rfl, e03, hv'.up e13, hL.up e13, okx', w1, by omega, fun t ht => hH _ (.lGo hc' na ht)⟩
      · rw [if_neg hc']
        replace hc' : y'.1 < x'.1 := by omega
        have e2 := e1.trans (Same.new (o := .lst [.ref p3, .ref p2]) (Same.refl _) hl2)
        refine r_gunl (sqL upd_same) rfl ?_
        walk_at "rd"
        refine ⟨b, .ref p2, .ref p3, L, R, sz, n, x', y', rfl, wr.up (e.trans e2), hv'.up e2, hu'.up e2, okx', oky', fun H3 c e3 hc => ?_⟩
        have e03 := (e.trans e2).trans e3
        have e13 := e2.trans e3
        walk_at "rd"
        refine r_iteB (fun ht => ?_) (fun ht => ?_)
        · walk_at "rd"
          exact q _ _ x' e03 (hv'.up e13) (hH _ (.rTop hc' (hc.mp ht)))
        · have na : ¬ Tl.A L R x' y' := fun a => by
            rw [hc.mpr a] at ht
            cases ht
          obtain ⟨bv, hbv⟩ : ∃ bv, ws[x'.1]? = some bv := ⟨_, List.getElem?_eq_getElem (by rw [br.len]; exact okx'.1)⟩
          obtain ⟨q4, who, lv, rv, tx, rfl, hq4, hL, hR, _⟩ := br.at_ _ _ hbv
          walk_at "rd"
          refine r_ixT (sqT (e13 _ _ hp2)) (atI_nat (j := 0) rfl) ?_
          walk_at "rd"
          refine r_ixT (sqT (e13 _ _ hws)) (atI_nat hbv) ?_
          walk_at "rd"
          refine r_ixT (sqT (e13 _ _ hq4)) (atI_nat (j := 1) rfl) ?_
          walk_at "rd"
          refine ⟨_, _, rfl, ?_⟩
          have w1 := br.wv.okL (show 0 < x'.1 by omega) okx'.1
          have w2 := br.wv.l x'.1 (by omega) okx'.1
          exact ⟨_, _, y', L x'.1, _, _, rfl, e03, hu'.up e13, hL.up e13, oky', w1, by omega, fun t ht => hH _ (.rGo hc' na ht)⟩
    · have heq' : x'.1 = y'.1 := Int.ofNat.inj (V.int.inj heq)
      walk_at "rd"
      refine r_minSg heq' hv' hu' ?_
      refine q _ _ _ e ?_ (hH _ (.same heq'))
      split
      · exact hu'
      · exact hv'
theorem ok_join_of (T : Txt K mg) : FnOk P w K mg base CX0 3 T.a_join_of T.d_join_of ["births", "one", "other"] (spMeet Jn) := by
  refine T.F_join_of.ok sc_join_of (fun vs H Q E h => ?_) (fun cdv A outer s H vs Q E hr h => ?_)
  · obtain ⟨b, v, u, L, R, sz, n, x, y, rfl, _⟩ := h
    rfl
  · obtain ⟨b, v, u, L, R, sz, n, x, y, rfl, wr, hv, hu, okx, oky, q⟩ := h
    refine ⟨_, (pss_cons (ps_while PassesOwn.never (pt_cmpR (op_neU hr.units) (pe_ix ix_seq (pv 1) pe_int (fun _ _ => rfl)) (pe_ix ix_seq (pv 2) pe_int (fun _ _ => rfl)) (nomark _)) (pss_cons (ps_asg (pe_callB cr_sortedPO (by rfl) T.n_sorted (by decide +kernel) (pa_cons (pe_lst (pa_cons (pv 1) (pa_cons (pv 2) pa_nil))) pa_nil)) (pg_unl rfl (pgs_cons (pg_name (i := 3) sc_join_of.nd rfl (Or.inl rfl)) (pgs_cons (pg_name (i := 4) sc_join_of.nd rfl (Or.inl rfl)) pgs_nil))))
        (pss_cons (ps_if (pt_val (pe_call (ok_told_ahead T) hr (by rfl) T.g_told_ahead T.F_told_ahead.kp T.b_told_ahead .nil pass0 (pa_cons (pv 0) (pa_cons (pv 3) (pa_cons (pv 4) pa_nil))))) (pss_one (ps_ret (pv 4))) pss_nil)
        (pss_one (ps_par (i := 1) (j := 2) rfl sc_join_of.nd rfl rfl (by decide) rfl rfl (pa_cons (pv 3) (pa_cons (pe_ix ix_seq (pe_ix ix_seq (pv 0) (pe_ix ix_seq (pv 4) pe_int (fun _ _ => rfl)) (fun _ _ => rfl)) pe_int (fun _ _ => rfl)) pa_nil)) rfl)))))
        (pss_one (ps_ret (pe_callB (call_maxD rfl hr.units65) (by rfl) T.n_max (by decide +kernel) (pa_cons (pv 1) (pa_cons (pv 2) pa_nil)))))), ?_⟩
    refine r_seq ?_
    refine ⟨fun m σ H' => ∃ v u x2 y2 z1 z2, σ = [some (.ref b), some v, some u, z1, z2] ∧ Ex H H' ∧ SgV H' v x2 ∧ SgV H' u y2 ∧ Ok sz n x2 ∧ Ok sz n y2 ∧ m = x2.1 + y2.1 ∧ ∀ t, Jn L R x2 y2 t → Jn L R x y t,
      ⟨_, v, u, x, y, none, none, rfl, Same.refl H, hv, hu, okx, oky, rfl, fun t h => h⟩, fun m σ H' hW => ?_⟩
    obtain ⟨v', u', x', y', z1, z2, rfl, e, hv', hu', okx', oky', rfl, hH⟩ := hW
    obtain ⟨ws, hws, br⟩ := wr.up e
    obtain ⟨p2, rfl, hp2⟩ := id hv'
    obtain ⟨p3, rfl, hp3⟩ := id hu'
    walk_at "rd"
    refine r_ixT (sqT hp2) (atI_nat (j := 0) rfl) ?_
    walk_at "rd"
    refine r_ixT (sqT hp3) (atI_nat (j := 0) rfl) ?_
    walk_at "rd"
    refine r_iteN (fun hne => ?_) (fun heq => ?_)
    · have hne' : x'.1 ≠ y'.1 := fun z => hne (by rw [z])
      refine ⟨fun σ H' => ∃ v u x2 y2 z1 z2, σ = [some (.ref b), some v, some u, z1, z2] ∧ Ex H H' ∧ SgV H' v x2 ∧ SgV H' u y2 ∧ Ok sz n x2 ∧ Ok sz n y2 ∧ x2.1 + y2.1 < x'.1 + y'.1 ∧ ∀ t, Jn L R x2 y2 t → Jn L R x y t,
        fun σ' H2 ⟨v, u, x2, y2, z1, z2, h1, h2, h3, h4, h5, h6, h7, h8⟩ => ⟨_, h7, v, u, x2, y2, z1, z2, h1, h2, h3, h4, h5, h6, rfl, h8⟩, ?_⟩
      walk_at "rd"
      refine r_small nsz fun l hl => ?_
      have e1 := Same.new (o := .lst [.ref p2, .ref p3]) (Same.refl H') hl
      walk_at "rd"
      refine r_sortSg hne' (sqL upd_same) (hv'.up e1) (hu'.up e1) fun l2 hl2 => ?_
      by_cases hc' : x'.1 < y'.1
      · rw [if_pos hc']
        have e2 := e1.trans (Same.new (o := .lst [.ref p2, .ref p3]) (Same.refl _) hl2)
        refine r_gunl (sqL upd_same) rfl ?_
        walk_at "rd"
        refine ⟨b, .ref p2, .ref p3, L, R, sz, n, x', y', rfl, wr.up (e.trans e2), hv'.up e2, hu'.up e2, okx', oky', fun H3 c e3 hc => ?_⟩
        have e03 := (e.trans e2).trans e3
        have e13 := e2.trans e3
        walk_at "rd"
        refine r_iteB (fun ht => ?_) (fun ht => ?_)
        · walk_at "rd"
          exact q _ _ y' e03 (hu'.up e13) (hH _ (.lTop hc' (hc.mp ht)))
        · have na : ¬ Tl.A L R x' y' := fun a => by
            rw [hc.mpr a] at ht
            cases ht
          obtain ⟨bv, hbv⟩ : ∃ bv, ws[y'.1]? = some bv := ⟨_, List.getElem?_eq_getElem (by rw [br.len]; exact oky'.1)⟩
          obtain ⟨q4, who, lv, rv, tx, rfl, hq4, hL, hR, _⟩ := br.at_ _ _ hbv
          walk_at "rd"
          refine r_ixT (sqT (e13 _ _ hp3)) (atI_nat (j := 0) rfl) ?_
          walk_at "rd"
          refine r_ixT (sqT (e13 _ _ hws)) (atI_nat hbv) ?_
          walk_at "rd"
          refine r_ixT (sqT (e13 _ _ hq4)) (atI_nat (j := 2) rfl) ?_
          walk_at "rd"
          refine ⟨_, _, rfl, ?_⟩
          have w1 := br.wv.okR (show 0 < y'.1 by omega) oky'.1
          have w2 := br.wv.r y'.1 (by omega) oky'.1
          exact ⟨_, _, x', R y'.1, _, _, rfl, e03, hv'.up e13, hR.up e13, okx', w1, by omega, fun t ht => hH _ (.lGo hc' na ht)⟩
      · rw [if_neg hc']
        replace hc' : y'.1 < x'.1 := by omega
        have e2 := e1.trans (Same.new (o := .lst [.ref p3, .ref p2]) (Same.refl _) hl2)
        refine r_gunl (sqL upd_same) rfl ?_
        walk_at "rd"
        refine ⟨b, .ref p3, .ref p2, L, R, sz, n, y', x', rfl, wr.up (e.trans e2), hu'.up e2, hv'.up e2, oky', okx', fun H3 c e3 hc => ?_⟩
        have e03 := (e.trans e2).trans e3
        have e13 := e2.trans e3
        walk_at "rd"
        refine r_iteB (fun ht => ?_) (fun ht => ?_)
        · walk_at "rd"
          exact q _ _ x' e03 (hv'.up e13) (hH _ (.rTop hc' (hc.mp ht)))
        · have na : ¬ Tl.A L R y' x' := fun a => by
            rw [hc.mpr a] at ht
            cases ht
          obtain ⟨bv, hbv⟩ : ∃ bv, ws[x'.1]? = some bv := ⟨_, List.getElem?_eq_getElem (by rw [br.len]; exact okx'.1)⟩
          obtain ⟨q4, who, lv, rv, tx, rfl, hq4, hL, hR, _⟩ := br.at_ _ _ hbv
          walk_at "rd"
          refine r_ixT (sqT (e13 _ _ hp2)) (atI_nat (j := 0) rfl) ?_
          walk_at "rd"
          refine r_ixT (sqT (e13 _ _ hws)) (atI_nat hbv) ?_
          walk_at "rd"
          refine r_ixT (sqT (e13 _ _ hq4)) (atI_nat (j := 2) rfl) ?_
          walk_at "rd"
          refine ⟨_, _, rfl, ?_⟩
          have w1 := br.wv.okR (show 0 < x'.1 by omega) okx'.1
          have w2 := br.wv.r x'.1 (by omega) okx'.1
          exact ⟨_, _, y', R x'.1, _, _, rfl, e03, hu'.up e13, hR.up e13, oky', w1, by omega, fun t ht => hH _ (.rGo hc' na ht)⟩
    · have heq' : x'.1 = y'.1 := Int.ofNat.inj (V.int.inj heq)
      walk_at "rd"
      refine r_maxSg heq' hv' hu' ?_
      refine q _ _ _ e ?_ (hH _ (.same heq'))
      split
      · exact hu'
      · exact hv'
def spStretch : Sp := fun vs H Q _ => ∃ (b : Addr) (v u : V) (L R : Nat → Sg) (sz : Nat → Nat) (n : Nat) (x y : Sg), vs = [.ref b, v, u] ∧ Wr H b L R sz n ∧ SgV H v x ∧ SgV H u y ∧ Ok sz n x ∧ Ok sz n y ∧
  ∀ H' p z m z' m', Ex H H' → H' p = some (.tup [z, z']) → SgV H' z m → SgV H' z' m' → Mt L R x y m → Jn L R x y m' → Q (.ref p) H'
theorem ok_untold_stretch (T : Txt K mg) : FnOk P w K mg base CX0 4 T.a_untold_stretch T.d_untold_stretch ["births", "one", "other"] spStretch := by
  refine T.F_untold_stretch.ok sc_untold_stretch (fun vs H Q E h => ?_) (fun cdv A outer s H vs Q E hr h => ?_)
  · obtain ⟨b, v, u, L, R, sz, n, x, y, rfl, _⟩ := h
    rfl
  · obtain ⟨b, v, u, L, R, sz, n, x, y, rfl, wr, hv, hu, okx, oky, q⟩ := h
    refine ⟨_, (pss_one (ps_ret (pe_tup (pa_cons (pe_call (ok_meet_of T) hr (by rfl) T.g_meet_of T.F_meet_of.kp T.b_meet_of .nil pass0 (pa_cons (pv 0) (pa_cons (pv 1) (pa_cons (pv 2) pa_nil)))) (pa_cons (pe_call (ok_join_of T) hr (by rfl) T.g_join_of T.F_join_of.kp T.b_join_of .nil pass0 (pa_cons (pv 0) (pa_cons (pv 1) (pa_cons (pv 2) pa_nil)))) pa_nil))))), ?_⟩
    walk_at "rd"
    refine ⟨b, v, u, L, R, sz, n, x, y, rfl, wr, hv, hu, okx, oky, fun H1 z m e1 sz1 hm => ?_⟩
    walk_at "rd"
    refine ⟨b, v, u, L, R, sz, n, x, y, rfl, wr.up e1, hv.up e1, hu.up e1, okx, oky, fun H2 z' m' e2 sz2 hm' => ?_⟩
    walk_at "rd"
    refine r_small nsz fun p hp => ?_
    have e3 := Same.new (o := .tup [z, z']) (Same.refl H2) hp
    exact q _ p z m z' m' ((e1.trans e2).trans e3) upd_same ((sz1.up e2).up e3) (sz2.up e3) hm hm'
end
end K21
namespace K21
open PySem PySem.Spec PyProof.Rows L2 Dk Tl
/-- one step of a reading -/
local macro_rules | `(tactic| walk_at "rd1") => `(tactic| first
  | ((with_reducible refine r_var (v := ?rv) ?rh ?_); (case rh => rfl))
  | with_reducible refine r_c ?_
  | with_reducible refine r_seq ?_
  | with_reducible refine r_asg ?_
  | with_reducible refine r_par ?_
  | with_reducible refine r_gname ?_
  | with_reducible refine r_op ?_
  | with_reducible refine r_forLo ?_
  | with_reducible refine r_forTo ?_
  | with_reducible refine r_forSo ?_
  | with_reducible refine r_forRo ?_
  | with_reducible refine r_lcRo ?_
  | with_reducible refine r_lcLo ?_
  | with_reducible refine r_yes ?_
  | with_reducible refine r_callK0 ?_
  | with_reducible refine r_break ?_
  | with_reducible refine r_forR2o ?_
  | with_reducible refine r_forEo ?_
  | with_reducible refine r_forESo ?_
  | with_reducible refine r_xfo ?_
  | with_reducible refine r_noP ?_
  | with_reducible refine r_part ?_
  | with_reducible refine r_pI ?_
  | with_reducible refine r_gcons ?_
  | with_reducible refine r_gnil ?_
  | with_reducible refine r_mkO ?_
  | with_reducible refine r_un ?_
  | with_reducible refine r_addI ?_
  | with_reducible refine r_I0 ?_
  | with_reducible refine r_U ?_
  | with_reducible refine r_cons ?_
  | with_reducible refine r_nil ?_
  | with_reducible refine r_CB ?_
  | with_reducible refine r_call ?_
  | with_reducible refine r_callS ?_
  | with_reducible refine r_int ?_
  | with_reducible refine r_max ?_
  | with_reducible refine r_min ?_
  | with_reducible refine r_test ?_
  | with_reducible refine r_B ?_
  | with_reducible refine r_blv ?_
  | with_reducible refine r_and ?_
  | with_reducible refine r_or ?_
  | with_reducible refine r_not ?_
  | with_reducible refine r_andV ?_
  | with_reducible refine r_orV ?_
  | with_reducible refine r_notV ?_
  | with_reducible refine r_ifE ?_
  | with_reducible refine r_ifS ?_
  | with_reducible refine r_ret ?_
  | with_reducible refine r_retN ?_
  | with_reducible refine r_drop ?_
  | with_reducible refine r_next ?_
  | with_reducible refine r_sl ?_
  | with_reducible refine r_gsub ?_
  | with_reducible refine r_bm ?_
  | with_reducible refine r_tup ?_
  | with_reducible refine r_lst ?_
  | with_reducible refine r_isN ?_
  | with_reducible refine r_notN ?_
  | with_reducible refine r_itt ?_
  | with_reducible refine r_iff ?_
  | with_reducible refine r_ittN ?_
  | with_reducible refine r_iffN ?_
  | ((with_reducible refine r_ittD ?rh ?_); (case rh => rfl))
  | ((with_reducible refine r_iffD ?rh ?_); (case rh => rfl))
  | ((with_reducible refine r_modP ?rh ?_); (case rh => decide))
  | ((with_reducible refine r_eq ?rh ?_); (case rh => rfl))
  | ((with_reducible refine r_eqP ?rh ?_); (case rh => rfl))
  | ((with_reducible refine r_ne ?rh ?_); (case rh => rfl)))
local macro_rules | `(tactic| walk_at "rd") => `(tactic| repeat walk_at "rd1")
local macro_rules | `(tactic| walk_at "isi") => `(tactic| first | refine r_isi (b := true) (by assumption) (by decide +kernel) ?_ | refine r_isi (b := false) (by assumption) (by decide +kernel) ?_)
local macro_rules | `(tactic| walk_at "rs1") => `(tactic| first
  | with_reducible refine r_seq ?_
  | with_reducible refine r_asg ?_
  | with_reducible refine r_gname ?_
  | with_reducible refine r_ret ?_)
local macro_rules | `(tactic| walk_at "rs") => `(tactic| repeat walk_at "rs1")

section
variable {P : Program} {w : World} {K : PySem.W.Frag} {mg : Str → Option Value} {base : Heap}
theorem Brs.step {G : Hp} {xs : List V} {L R : Nat → Sg} {sz : Nat → Nat} {n s : Nat} {x y : Sg} {v : V} (br : Brs G xs L R sz n) (ox : Ok sz n x) (oy : Ok sz n y) (a : A L R x y) (s0 : 0 < s) (hv : BtV G v x y true s) (hn : n + 1 ≤ 250) :
    Brs G (xs ++ [v]) (upn L n x) (upn R n y) (upn sz n s) (n + 1) := by
  refine ⟨by rw [List.length_append, br.len]; rfl, fun c u hu => ?_, br.wv.step ox oy a s0, hn⟩
  by_cases hc : c < xs.length
  · rw [List.getElem?_append_left hc] at hu
    rw [br.len] at hc
    rw [upn_ne hc, upn_ne hc, upn_ne hc]
    exact br.at_ c u hu
  · have h2 := (List.getElem?_eq_some_iff.mp hu).1
    rw [List.length_append] at h2
    have e : c = n := by
      have := br.len
      simp at h2
      omega
    subst e
    rw [List.getElem?_append_right (by rw [br.len]; exact Nat.le_refl _), br.len, Nat.sub_self] at hu
    rw [upd_at, upd_at, upd_at, ← Option.some.inj hu, decide_eq_true br.wv.n0]
    exact hv
def spPut : Sp := fun vs H Q _ => ∃ (b h p : Addr) (mo mt : Int) (L R : Nat → Sg) (sz : Nat → Nat) (n : Nat) (G : Hp), vs = [.ref b, .ref p, .int mo, .int mt] ∧ W2 b h G H ∧ Wr G p L R sz n ∧ 1 ≤ mt ∧ mt ≤ 3 ∧ n ≤ 100 ∧
  ∀ p8 G' H' x y s, Wk b h G H G' H' → Wr G' p8 (upn L n x) (upn R n y) (upn sz n s) (n + 1) → Q (.ref p8) H'
theorem ok_law_put (T : Txt K mg) : FnOk P w K mg base CX0 4 T.a_law_put T.d_law_put ["_law_box", "_law_world_here", "_law_mode", "_law_most"] spPut := by
  refine T.F_law_put.ok sc_law_put (fun vs H Q E h => ?_) (fun cdv A outer s H vs Q E hr h => ?_)
  · obtain ⟨b, h, p, mo, mt, L, R, sz, n, G, rfl, _⟩ := h
    rfl
  · obtain ⟨b, h, p, mo, mt, L, R, sz, n, G, rfl, w2, wr, mt0, mt1, n100, q⟩ := h
    refine ⟨_, (pss_cons (ps_set (i := 4) sc_law_put.nd rfl (Or.inl rfl) (pe_call (ok_law_all T) (hr.mono (by decide)) (by rfl) T.g_law_all T.F_law_all.kp T.b_law_all .nil pass0 (pa_cons (pv 1) pa_nil)))
        (pss_cons (ps_asg (pe_call (ok_law_pair T) hr (by rfl) T.g_law_pair T.F_law_pair.kp T.b_law_pair .nil pass0 (pa_cons (pv 0) (pa_cons (pe_call (ok_law_closed T) (hr.mono (by decide)) (by rfl) T.g_law_closed T.F_law_closed.kp T.b_law_closed .nil pass0 (pa_cons (pv 1) pa_nil)) (pa_cons (pv 2) pa_nil)))) (pg_tup rfl (pgs_cons (pg_name (i := 5) sc_law_put.nd rfl (Or.inl rfl)) (pgs_cons (pg_name (i := 6) sc_law_put.nd rfl (Or.inl rfl)) pgs_nil))))
        (pss_cons (ps_set (i := 7) sc_law_put.nd rfl (Or.inl rfl) (pe_op op_addU pe_int (pe_call (ok_law_pick T) (hr.mono (by decide)) (by rfl) T.g_law_pick T.F_law_pick.kp T.b_law_pick .nil pass0 (pa_cons (pv 0) (pa_cons pe_int pa_nil)))))
        (pss_one (ps_ret (pe_op op_addU (pv 1) (pe_tup (pa_cons (pe_tup (pa_cons (pv 7) (pa_cons (pe_ix ix_seq (pv 4) (pv 5) (fun _ _ => rfl)) (pa_cons (pe_ix ix_seq (pv 4) (pv 6) (fun _ _ => rfl)) (pa_cons (pe_call (ok_law_say T) (hr.mono (by decide)) (by rfl) T.g_law_say T.F_law_say.kp T.b_law_say .nil pass0 (pa_cons (pv 0) (pa_cons (pv 3) pa_nil))) pa_nil))))) pa_nil)))))))), ?_⟩
    have k := Wk.start w2
    walk_at "rd"
    refine ⟨p, L, R, sz, n, G, rfl, k.w.g, wr, fun mk G1 H1 ms t1 _ hm hms => ?_⟩
    have k1 := k.pure t1
    have wr1 := wr.up t1.gg
    walk_at "rd"
    refine ⟨p, L, R, sz, n, rfl, wr1.up k1.w.g, fun tb H2 U e2 ht ht' tl _ => ?_⟩
    obtain ⟨G2, k2, g2, eG2⟩ := k1.know e2 ht ht'
    obtain ⟨ws, hws, br⟩ := wr1.up eG2
    walk_at "rd"
    refine ⟨b, h, tb, L, R, sz, n, U, mo, G2, rfl, k2.w, g2, br.wv, tl, by rw [tl.1]; exact Nat.le_trans (br.off_le (Nat.le_refl _)) (by decide), fun pr G3 H3 x y k23 hpr hx hy hxy => ?_⟩
    have k3 := k2.sub k23.t k23.w.st
    obtain ⟨sx, sy, ox, oy, ex, ey, iff⟩ := tl.bit_lt hx hy
    have hA := iff.mp hxy
    have g3 := k23.t.gg
    refine r_gtup (sqT (k3.g hpr)) rfl ?_
    walk_at "rd"
    refine ⟨b, h, 9, rfl, k3.w.st, by decide, by decide, fun wh H4 w0 w1 D4 => ?_⟩
    have k4 := k3.dr D4
    have hms4 := (hms.up eG2).up g3
    obtain ⟨v1, hv1, sv1⟩ := hms4.get' (marks_at ox)
    obtain ⟨v2, hv2, sv2⟩ := hms4.get' (marks_at oy)
    rw [ex] at hv1
    rw [ey] at hv2
    have hm4 := k4.g (g3 _ _ (eG2 _ _ hm))
    walk_at "rd"
    refine r_ixL (sqL hm4) (atI_nat hv1) ?_
    walk_at "rd"
    refine r_ixL (sqL hm4) (atI_nat hv2) ?_
    walk_at "rd"
    refine ⟨b, h, mt, rfl, k4.w.st, by omega, by omega, fun t H5 t0 t1 D5 => ?_⟩
    have k5 := k4.dr D5
    walk_at "rd"
    refine r_small nsz fun p6 n6 => ?_
    obtain ⟨G6, H6, e6, k6, h6, eG6⟩ := k5.new n6 (.tup [.int (1 + wh), v1, v2, .str t])
    rw [← e6]
    walk_at "rd"
    refine r_small nsz fun p7 n7 => ?_
    obtain ⟨G7, H7, e7, k7, h7, eG7⟩ := k6.new n7 (.tup [.ref p6])
    rw [← e7]
    have br7 := ((br.up g3).up eG6).up eG7
    have hws7 := k7.g (eG7 _ _ (eG6 _ _ (g3 _ _ hws)))
    walk_at "rd"
    refine r_catT (sqT hws7) (sqT (k7.g h7)) (fun z => ?_) (by simp) (by rw [br7.len]; simp; omega) fun p8 n8 => ?_
    · have z2 := br7.len
      rw [z] at z2
      simp at z2
      have z3 := br7.wv.n0
      omega
    obtain ⟨G8, H8, e8, k8, h8, eG8⟩ := k7.new n8 (.tup (ws ++ [.ref p6]))
    rw [← e8]
    exact q p8 G8 H8 _ _ _ k8 ⟨_, h8, (br7.up eG8).step ox oy hA t0 ⟨p6, 1 + wh, v1, v2, t, rfl, eG8 _ _ (eG7 _ _ h6), ((sv1.up eG6).up eG7).up eG8, ((sv2.up eG6).up eG7).up eG8, fun _ => rfl, by omega⟩ (by omega)⟩
def spWorld : Sp := fun vs H Q _ => ∃ (b h : Addr) (G : Hp), vs = [.ref b] ∧ W2 b h G H ∧ ∀ p G' H' L R sz n, Wk b h G H G' H' → Wr G' p L R sz n → n ≤ 30 → Q (.ref p) H'
theorem ok_law_world (T : Txt K mg) : FnOk P w K mg base CX0 5 T.a_law_world T.d_law_world ["_law_box"] spWorld := by
  refine T.F_law_world.ok sc_law_world (fun vs H Q E h => ?_) (fun cdv A outer s H vs Q E hr h => ?_)
  · obtain ⟨b, h, G, rfl, _⟩ := h
    rfl
  · obtain ⟨b, h, G, rfl, w2, q⟩ := h
    refine ⟨_, (pss_cons (ps_set (i := 1) sc_law_world.nd rfl (Or.inl rfl) (pe_call (ok_law_pick T) (hr.mono (by decide)) (by rfl) T.g_law_pick T.F_law_pick.kp T.b_law_pick .nil pass0 (pa_cons (pv 0) (pa_cons pe_int pa_nil))))
        (pss_cons (ps_set (i := 2) sc_law_world.nd rfl (Or.inl rfl) (pe_call (ok_law_pick T) (hr.mono (by decide)) (by rfl) T.g_law_pick T.F_law_pick.kp T.b_law_pick .nil pass0 (pa_cons (pv 0) (pa_cons pe_int pa_nil))))
        (pss_cons (ps_set (i := 3) sc_law_world.nd rfl (Or.inl rfl) pe_int)
        (Evl.pss_cut (ps_if (pt_cmpR (op_eqU hr.units) (pe_call (ok_law_pick T) (hr.mono (by decide)) (by rfl) T.g_law_pick T.F_law_pick.kp T.b_law_pick .nil pass0 (pa_cons (pv 0) (pa_cons pe_int pa_nil))) pe_int (nomark _)) (pss_cons (ps_set (i := 2) sc_law_world.nd rfl (Or.inl rfl) (pe_op op_addU pe_int (pe_call (ok_law_pick T) (hr.mono (by decide)) (by rfl) T.g_law_pick T.F_law_pick.kp T.b_law_pick .nil pass0 (pa_cons (pv 0) (pa_cons pe_int pa_nil)))))
        (pss_one (ps_set (i := 3) sc_law_world.nd rfl (Or.inl rfl) pe_int))) pss_nil)
        (pss_cons (ps_set (i := 4) sc_law_world.nd rfl (Or.inl rfl) (pe_tup (pa_cons (pe_tup (pa_cons pe_int (pa_cons (pe_tup (pa_cons pe_int (pa_cons pe_int pa_nil))) (pa_cons (pe_tup (pa_cons pe_int (pa_cons pe_int pa_nil))) (pa_cons pe_str pa_nil))))) pa_nil)))
        (pss_cons (ps_for PassesOwn.never rfl (pi_range1 (by rfl) T.n_range (pa_cons (pv 2) pa_nil)) (pg_name (i := 5) sc_law_world.nd rfl (Or.inl rfl)) (pss_one (ps_set (i := 4) sc_law_world.nd rfl (Or.inl rfl) (pe_call (ok_law_put T) hr (by rfl) T.g_law_put T.F_law_put.kp T.b_law_put .nil pass0 (pa_cons (pv 0) (pa_cons (pv 4) (pa_cons (pv 1) (pa_cons (pv 3) pa_nil))))))))
        (pss_one (ps_ret (pv 4))))))))), ?_⟩
    have k0 := Wk.start w2
    walk_at "rd"
    refine ⟨b, h, 5, rfl, k0.w.st, by decide, by decide, fun m1 H1 m10 m11 D1 => ?_⟩
    have k1 := k0.dr D1
    walk_at "rd"
    refine ⟨b, h, 9, rfl, k1.w.st, by decide, by decide, fun m2 H2 m20 m21 D2 => ?_⟩
    have k2 := k1.dr D2
    walk_at "rs"
    -- most = 3
    walk_at "rd"
    refine ⟨fun σ H' => ∃ (mo ma mt : Int), σ = [some (.ref b), some (.int mo), some (.int ma), some (.int mt), none, none] ∧ Wk b h G H G H' ∧ 0 ≤ ma ∧ ma ≤ 27 ∧ 1 ≤ mt ∧ mt ≤ 3, ?_, ?_⟩
    · walk_at "rd"
      refine ⟨b, h, 6, rfl, k2.w.st, by decide, by decide, fun d H3 d0 d1 D3 => ?_⟩
      have k3 := k2.dr D3
      walk_at "rd"
      refine r_ite (fun _ => ?_) (fun _ => ?_)
      · walk_at "rd"
        refine ⟨b, h, 10, rfl, k3.w.st, by decide, by decide, fun d4 H4 d40 d41 D4 => ?_⟩
        have k4 := k3.dr D4
        walk_at "rd"
        exact ⟨_, _, _, rfl, k4, by omega, by omega, by omega, by omega⟩
      · walk_at "rd"
        exact ⟨_, _, _, rfl, k3, by omega, by omega, by omega, by omega⟩
    rintro σ H3 ⟨mo, ma, mt, rfl, k3, ma0, ma1, mt0, mt1⟩
    walk_at "rd"
    refine r_small nsz fun p1 n1 => ?_
    obtain ⟨G4, H4, e4, k4, h4, eG4⟩ := k3.new n1 (.tup [.int 0, .int 0])
    rw [← e4]
    walk_at "rd"
    refine r_small nsz fun p2 n2 => ?_
    obtain ⟨G5, H5, e5, k5, h5, eG5⟩ := k4.new n2 (.tup [.int 0, .int 1])
    rw [← e5]
    walk_at "rd"
    refine r_small nsz fun p3 n3 => ?_
    obtain ⟨G6, H6, e6, k6, h6, eG6⟩ := k5.new n3 (.tup [.int 0, .ref p1, .ref p2, .str ""])
    rw [← e6]
    walk_at "rd"
    refine r_small nsz fun p4 n4 => ?_
    obtain ⟨G7, H7, e7, k7, h7, eG7⟩ := k6.new n4 (.tup [.ref p3])
    rw [← e7]
    walk_at "rd"
    refine l_R (by omega) (by omega) (fun i σ H' => ∃ p G' L R sz y5, σ = [some (.ref b), some (.int mo), some (.int ma), some (.int mt), some (.ref p), y5] ∧ Wk b h G H G' H' ∧ Wr G' p L R sz (i + 1)) ⟨p4, G7, fun _ => (0, 0), fun _ => (0, 1), fun _ => 2, none, rfl, k7, _, h7, ⟨rfl, fun c x hx => ?_, Wv.one, by decide⟩⟩ (fun i σ H' hi hW => ?_) (fun σ H' hW => ?_)
    · cases c with
      | zero =>
        have e : x = .ref p3 := by simpa using hx.symm
        subst e
        exact ⟨p3, 0, .ref p1, .ref p2, "", rfl, eG7 _ _ h6, ⟨p1, rfl, eG7 _ _ (eG6 _ _ (eG5 _ _ h4))⟩, ⟨p2, rfl, eG7 _ _ (eG6 _ _ h5)⟩, fun z => absurd z (by decide), by decide⟩
      | succ c => simp at hx
    · obtain ⟨p, G', L, R, sz, y5, rfl, k, wr⟩ := hW
      walk_at "rd"
      refine ⟨b, h, p, mo, mt, L, R, sz, i + 1, G', rfl, k.w, wr, mt0, mt1, by omega, fun p8 G8 H8 x y s k8 wr8 => ?_⟩
      walk_at "rd"
      exact ⟨p8, G8, _, _, _, _, rfl, k.sub k8.t k8.w.st, wr8⟩
    · obtain ⟨p, G', L, R, sz, y5, rfl, k, wr⟩ := hW
      walk_at "rd"
      exact q p G' H' L R sz _ k wr (by omega)
def spChosen : Sp := fun vs H Q _ => ∃ (b h : Addr) (m : Nat) (G : Hp), vs = [.ref b, .int (m : Nat)] ∧ W2 b h G H ∧ 2 ≤ m ∧ m ≤ 1000 ∧ ∀ p G' H' C, Wk b h G H G' H' → G' p = some (.lst (tbv C)) → (∀ k ∈ C, k < m) → Q (.ref p) H'
theorem ok_law_chosen (T : Txt K mg) : FnOk P w K mg base CX0 2 T.a_law_chosen T.d_law_chosen ["_law_box", "_law_many"] spChosen := by
  refine T.F_law_chosen.ok sc_law_chosen (fun vs H Q E h => ?_) (fun cdv A outer s H vs Q E hr h => ?_)
  · obtain ⟨b, h, m, G, rfl, _⟩ := h
    rfl
  · obtain ⟨b, h, m, G, rfl, w2, m2, m3, q⟩ := h
    refine ⟨_, (pss_cons (ps_if (pt_cmpR op_le (pv 1) pe_int (nomark _)) (pss_one (ps_ret (pe_listRg rfl (by rfl) T.n_list (prg_1 (by rfl) T.n_range (pv 1))))) pss_nil)
        (pss_one (ps_ret (pe_op op_addU (pe_lst (pa_cons pe_int (pa_cons pe_int (pa_cons (pe_op op_sub (pv 1) pe_int) (pa_cons (pe_op op_sub (pv 1) pe_int) pa_nil))))) (pe_lc (own := [("_law_k", 2)]) (g := gName 2) rfl sc_law_chosen.nd (pi_range1 (by rfl) T.n_range (pa_cons pe_int pa_nil)) (blkOk_by (N := N_law_chosen) (sc := defScope s_law_chosen) (by decide +kernel)) (fun _ _ _ _ _ => pg_name (i := 2) sc_law_chosen.nd rfl (Or.inl rfl)) (fun _ _ _ _ _ => pts_nil) (fun _ _ _ _ _ => (pe_call (ok_law_pick T) hr (by rfl) T.g_law_pick T.F_law_pick.kp T.b_law_pick .nil pass0 (pa_cons (pv 0) (pa_cons (pv 1) pa_nil))))))))), ?_⟩
    have k0 := Wk.start w2
    walk_at "rd"
    refine r_ite (fun h12 => ?_) (fun h12 => ?_)
    · walk_at "rd"
      refine ⟨.int (m : Nat), rfl, m, rfl, RgOk.of_le (by decide) (by omega) (by decide) (by omega), fun p hp => ?_⟩
      have e : rgV 0 (m : Nat) = tbv (List.range m) := by
        unfold rgV
        rw [Int.sub_zero, Int.toNat_natCast]
        exact List.map_congr_left fun i _ => by rw [Int.zero_add]
      rw [e]
      obtain ⟨G1, H1, e1, k1, h1, _⟩ := k0.new hp (.lst (tbv (List.range m)))
      rw [← e1]
      exact q p G1 H1 _ k1 h1 fun k hk => List.mem_range.mp hk
    · walk_at "rd"
      refine r_small nsz fun p hp => ?_
      have ea : ((m : Nat) - 2 : Int) = ((m - 2 : Nat) : Int) := by omega
      have eb : ((m : Nat) - 1 : Int) = ((m - 1 : Nat) : Int) := by omega
      rw [ea, eb]
      obtain ⟨G1, H1, e1, k1, h1, _⟩ := k0.new hp (.lst (tbv [0, 1, m - 2, m - 1]))
      rw [show [V.int 0, V.int 1, V.int ((m - 2 : Nat) : Int), V.int ((m - 1 : Nat) : Int)] = tbv [0, 1, m - 2, m - 1] from rfl, ← e1]
      walk_at "rd"
      refine l_lcR (by decide) (by decide) (fun f i H' => ∃ C : List Nat, Dr2 b h H1 H' ∧ H' f = some (.lst (tbv C)) ∧ C.length = i ∧ ∀ k ∈ C, k < m) (fun f hf => ⟨[], (Dr2.refl k1.w.st).new hf, upd_same, rfl, by simp⟩) (fun f i H' hf hi hP => ?_) (fun f H' hf hP => ?_)
      · obtain ⟨C, D3, gf, hl, hy⟩ := hP
        have nb := k1.w.st.nb hf
        have nh := k1.w.st.nh hf
        walk_at "rd"
        refine ⟨rfl, ?_⟩
        walk_at "rd"
        refine ⟨b, h, (m : Nat), rfl, D3.st, by omega, by omega, fun x H4 x0 x1 D4 => ?_⟩
        obtain ⟨x, rfl⟩ : ∃ z : Nat, x = (z : Nat) := ⟨x.toNat, by omega⟩
        refine ⟨tbv C, D4.hh _ _ nb nh gf, by rw [List.length_map]; exact Nat.lt_of_le_of_lt (show C.length ≤ 101 by omega) (by decide), C ++ [x], (D3.trans D4).mut hf nb nh, ?_, by rw [List.length_append, hl]; rfl, fun y hy' => ?_⟩
        · rw [upd_same]
          show some (HO.lst (tbv C ++ tbv [x])) = some (HO.lst (tbv (C ++ [x])))
          exact congrArg (fun z => some (HO.lst z)) (List.map_append ..).symm
        · rcases List.mem_append.mp hy' with h1 | h1
          · exact hy y h1
          · rw [List.mem_singleton.mp h1]; omega
      · obtain ⟨C, D3, gf, hl, hy⟩ := hP
        have k3 := k1.dr D3
        have hl' : C.length = 7 := hl
        have hnf : H1 f = none := hf
        refine r_addL (k3.g h1) gf (by rw [List.length_map, List.length_map, hl']; exact Nat.le_of_lt (Nat.lt_of_le_of_lt (show 4 + 7 ≤ 12 by decide) (by decide))) fun p2 hp2 => ?_
        rw [show tbv [0, 1, m - 2, m - 1] ++ tbv C = tbv ([0, 1, m - 2, m - 1] ++ C) from (List.map_append ..).symm]
        obtain ⟨G4, H4, e4, k4, h4, _⟩ := k3.new hp2 (.lst (tbv ([0, 1, m - 2, m - 1] ++ C)))
        rw [← e4]
        refine q p2 G4 H4 _ k4 h4 fun k hk => ?_
        rcases List.mem_append.mp hk with h | h
        · simp at h
          omega
        · exact hy k h
end
end K21
namespace K21
open PySem PySem.Spec PyProof.Rows L2 Dk Tl
/-- one step of a reading -/
local macro_rules | `(tactic| walk_at "rd1") => `(tactic| first
  | ((with_reducible refine r_var (v := ?rv) ?rh ?_); (case rh => rfl))
  | with_reducible refine r_c ?_
  | with_reducible refine r_seq ?_
  | with_reducible refine r_asg ?_
  | with_reducible refine r_par ?_
  | with_reducible refine r_gname ?_
  | with_reducible refine r_op ?_
  | with_reducible refine r_forLo ?_
  | with_reducible refine r_forTo ?_
  | with_reducible refine r_forSo ?_
  | with_reducible refine r_forRo ?_
  | with_reducible refine r_lcRo ?_
  | with_reducible refine r_lcLo ?_
  | with_reducible refine r_yes ?_
  | with_reducible refine r_callK0 ?_
  | with_reducible refine r_break ?_
  | with_reducible refine r_forR2o ?_
  | with_reducible refine r_forEo ?_
  | with_reducible refine r_forESo ?_
  | with_reducible refine r_xfo ?_
  | with_reducible refine r_noP ?_
  | with_reducible refine r_part ?_
  | with_reducible refine r_pI ?_
  | with_reducible refine r_gcons ?_
  | with_reducible refine r_gnil ?_
  | with_reducible refine r_mkO ?_
  | with_reducible refine r_un ?_
  | with_reducible refine r_addI ?_
  | with_reducible refine r_I0 ?_
  | with_reducible refine r_U ?_
  | with_reducible refine r_cons ?_
  | with_reducible refine r_nil ?_
  | with_reducible refine r_CB ?_
  | with_reducible refine r_call ?_
  | with_reducible refine r_callS ?_
  | with_reducible refine r_int ?_
  | with_reducible refine r_max ?_
  | with_reducible refine r_min ?_
  | with_reducible refine r_test ?_
  | with_reducible refine r_B ?_
  | with_reducible refine r_blv ?_
  | with_reducible refine r_and ?_
  | with_reducible refine r_or ?_
  | with_reducible refine r_not ?_
  | with_reducible refine r_andV ?_
  | with_reducible refine r_orV ?_
  | with_reducible refine r_notV ?_
  | with_reducible refine r_ifE ?_
  | with_reducible refine r_ifS ?_
  | with_reducible refine r_ret ?_
  | with_reducible refine r_retN ?_
  | with_reducible refine r_drop ?_
  | with_reducible refine r_next ?_
  | with_reducible refine r_sl ?_
  | with_reducible refine r_gsub ?_
  | with_reducible refine r_bm ?_
  | with_reducible refine r_tup ?_
  | with_reducible refine r_lst ?_
  | with_reducible refine r_isN ?_
  | with_reducible refine r_notN ?_
  | with_reducible refine r_itt ?_
  | with_reducible refine r_iff ?_
  | with_reducible refine r_ittN ?_
  | with_reducible refine r_iffN ?_
  | ((with_reducible refine r_ittD ?rh ?_); (case rh => rfl))
  | ((with_reducible refine r_iffD ?rh ?_); (case rh => rfl))
  | ((with_reducible refine r_modP ?rh ?_); (case rh => decide))
  | ((with_reducible refine r_eq ?rh ?_); (case rh => rfl))
  | ((with_reducible refine r_eqP ?rh ?_); (case rh => rfl))
  | ((with_reducible refine r_ne ?rh ?_); (case rh => rfl)))
local macro_rules | `(tactic| walk_at "rd") => `(tactic| repeat walk_at "rd1")
local macro_rules | `(tactic| walk_at "isi") => `(tactic| first | refine r_isi (b := true) (by assumption) (by decide +kernel) ?_ | refine r_isi (b := false) (by assumption) (by decide +kernel) ?_)
local macro_rules | `(tactic| walk_at "rs1") => `(tactic| first
  | with_reducible refine r_seq ?_
  | with_reducible refine r_asg ?_
  | with_reducible refine r_gname ?_
  | with_reducible refine r_ret ?_)
local macro_rules | `(tactic| walk_at "rs") => `(tactic| repeat walk_at "rs1")

section
variable {P : Program} {w : World} {K : PySem.W.Frag} {mg : Str → Option Value} {base : Heap}
theorem sh_val (b : Nat) : (1 * 2 ^ ((b : Int)).toNat : Int) = ((1 <<< b : Nat) : Int) := by
  rw [Int.toNat_natCast, Nat.one_shiftLeft]
  push_cast
  omega
theorem or2_val (x y : Nat) : Builtin.bitOr (x : Int) (y : Int) = ((x ||| y : Nat) : Int) := by
  rw [Bits.bitOr_pp (Int.natCast_nonneg _) (Int.natCast_nonneg _), Int.toNat_natCast, Int.toNat_natCast]
theorem and2_val (x y : Nat) : Builtin.bitAnd (x : Int) (y : Int) = ((x &&& y : Nat) : Int) := by
  rw [PyProof.Rows.bitAnd_pp (Int.natCast_nonneg _) (Int.natCast_nonneg _), Int.toNat_natCast, Int.toNat_natCast]
theorem eq_val (x y : Nat) : decide (V.int (x : Int) = V.int (y : Int)) = decide (x = y) := by
  rw [Bool.eq_iff_iff, decide_eq_true_iff, decide_eq_true_iff]
  constructor
  · intro h
    have := V.int.inj h
    omega
  · intro h
    rw [h]
def spTurned : Sp := fun vs H Q _ => ∃ (t : Addr) (U : List Nat), vs = [.ref t] ∧ H t = some (.lst (tbv U)) ∧ U.length ≤ 1000 ∧ ∀ p H' M, Ex H H' → H p = none → H' p = some (.lst (tbv M)) → Turned U M → Q (.ref p) H'
theorem ok_law_turned (T : Txt K mg) : FnOk P w K mg base CX0 1 T.a_law_turned T.d_law_turned ["_law_table"] spTurned := by
  refine T.F_law_turned.ok sc_law_turned (fun vs H Q E h => ?_) (fun cdv A outer s H vs Q E hr h => ?_)
  · obtain ⟨t, U, rfl, _⟩ := h
    rfl
  · obtain ⟨t, U, rfl, ht, hl, q⟩ := h
    refine ⟨_, (pss_cons (ps_set (i := 1) sc_law_turned.nd rfl (Or.inl rfl) (pe_callB call_lenU (by rfl) T.n_len (by decide +kernel) (pa_cons (pv 0) pa_nil)))
        (pss_cons (ps_set (i := 2) sc_law_turned.nd rfl (Or.inl rfl) (pe_lst pa_nil))
        (pss_cons (ps_for PassesOwn.never rfl (pi_range1 (by rfl) T.n_range (pa_cons (pv 1) pa_nil)) (pg_name (i := 3) sc_law_turned.nd rfl (Or.inl rfl)) (pss_cons (ps_set (i := 4) sc_law_turned.nd rfl (Or.inl rfl) pe_int)
        (pss_cons (ps_for PassesOwn.never rfl (pi_range1 (by rfl) T.n_range (pa_cons (pv 1) pa_nil)) (pg_name (i := 5) sc_law_turned.nd rfl (Or.inl rfl)) (pss_one (ps_if (pt_cmpR (op_eqU hr.units) (pe_op op_and (pe_op op_shr (pe_ix ix_seq (pv 0) (pv 5) (fun _ _ => rfl)) (pv 3)) pe_int) pe_int (nomark _)) (pss_one (ps_set (i := 4) sc_law_turned.nd rfl (Or.inl rfl) (pe_op op_or (pv 4) (pe_op op_shl pe_int (pv 5))))) pss_nil)))
        (pss_one (ps_expr (pe_bm PySem.F.plainAttrs_list PySem.F.slot_list_append PySem.F.type_list_append mt_append (pv 2) (pa_cons (pv 4) pa_nil)))))))
        (pss_one (ps_ret (pv 2)))))), ?_⟩
    walk_at "rd"
    refine r_lenL (sqL ht) ?_
    rw [List.length_map]
    walk_at "rd"
    refine r_small nsz fun l hn => ?_
    walk_at "rd"
    refine l_R (by omega) (by omega) (fun i σ H' => ∃ M z3 z4 z5, σ = [some (.ref t), some (.int (U.length : Nat)), some (.ref l), z3, z4, z5] ∧ Ex H H' ∧ H' l = some (.lst (tbv M)) ∧ M.length = i ∧ ∀ k j, k < i → (Bit M k j ↔ j < U.length ∧ Bit U j k)) ⟨[], none, none, none, rfl, Same.new (Same.refl H) hn, upd_same, rfl, fun k j h => absurd h (Nat.not_lt_zero _)⟩ (fun i σ H' hi hW => ?_) (fun σ H' hW => ?_)
    · obtain ⟨M, z3, z4, z5, rfl, e, hM, hMl, hB⟩ := hW
      walk_at "rd"
      refine l_R (by omega) (by omega) (fun j σ H2 => ∃ (m : Nat) (z5 : Option V), σ = [some (.ref t), some (.int (U.length : Nat)), some (.ref l), some (.int (i : Nat)), some (.int (m : Nat)), z5] ∧ H2 = H' ∧ ∀ j', m.testBit j' = true ↔ j' < j ∧ Bit U j' i) ⟨0, z5, rfl, rfl, fun j' => by simp⟩ (fun j σ H2 hj hW => ?_) (fun σ H2 hW => ?_)
      · obtain ⟨m, z5, rfl, rfl, hm⟩ := hW
        have hj' : j < U.length := by omega
        walk_at "rd"
        refine r_ixL (sqL (e _ _ ht)) (atI_nat (tb_at hj')) ?_
        walk_at "rd"
        refine r_I (by omega) ?_
        walk_at "rd"
        rw [bit_val]
        refine r_iteB (fun hb => ?_) (fun hb => ?_)
        · walk_at "rd"
          refine r_I ⟨by omega, by omega, by decide⟩ ?_
          walk_at "rd"
          rw [sh_val, or2_val]
          refine ⟨_, _, rfl, rfl, fun j' => ?_⟩
          rw [Nat.testBit_or, bit_one, Bool.or_eq_true, decide_eq_true_iff, hm]
          constructor
          · rintro (⟨h1, h2⟩ | rfl)
            · exact ⟨by omega, h2⟩
            · exact ⟨by omega, hb⟩
          · rintro ⟨h1, h2⟩
            by_cases c : j = j'
            · exact .inr c
            · exact .inl ⟨by omega, h2⟩
        · walk_at "rd"
          refine ⟨m, _, rfl, rfl, fun j' => ?_⟩
          rw [hm]
          constructor
          · rintro ⟨h1, h2⟩
            exact ⟨by omega, h2⟩
          · rintro ⟨h1, h2⟩
            refine ⟨?_, h2⟩
            by_cases c : j = j'
            · subst c
              unfold Bit at h2
              rw [h2] at hb
              cases hb
            · omega
      · obtain ⟨m, z5, rfl, rfl, hm⟩ := hW
        rw [Int.toNat_natCast] at hm
        walk_at "rd"
        refine r_tyL (sqL hM) ?_
        walk_at "rd"
        refine r_app hM (by rw [List.length_map]; exact Nat.lt_of_le_of_lt (show M.length ≤ 1000 by omega) (by decide)) ?_
        walk_at "rd"
        refine ⟨M ++ [m], _, _, _, rfl, Same.mut e hn, ?_, by rw [List.length_append, hMl]; rfl, fun k j hk => ?_⟩
        · rw [upd_same, ← show tbv [m] = [V.int (m : Nat)] from rfl]
          exact congrArg (fun z => some (HO.lst z)) (List.map_append ..).symm
        · unfold Bit
          rw [List.getD_eq_getElem?_getD]
          by_cases c : k < i
          · rw [List.getElem?_append_left (by omega), ← List.getD_eq_getElem?_getD]
            exact hB k j c
          · have ek : k = i := by omega
            subst ek
            rw [List.getElem?_append_right (by omega), hMl, Nat.sub_self]
            exact hm j
    · obtain ⟨M, z3, z4, z5, rfl, e, hM, hMl, hB⟩ := hW
      rw [Int.toNat_natCast] at hMl hB
      walk_at "rd"
      exact q l H' M e hn hM ⟨hMl, hB⟩
def spLast : Sp := fun vs H Q _ => ∃ (t m : Addr) (a b : Nat) (U M : List Nat) (k : Nat), vs = [.ref t, .ref m, .int (a : Nat), .int (b : Nat)] ∧ H t = some (.lst (tbv U)) ∧ H m = some (.lst (tbv M)) ∧ M.length = U.length ∧ U.length ≤ 1000 ∧ a < U.length ∧ b < U.length ∧ k < U.length ∧
  (∀ i, i < U.length → (lastb M a b i = true ↔ i = k)) ∧ ∀ p H', Ex H H' → H p = none → H' p = some (.lst [.int (k : Nat)]) → Q (.ref p) H'
theorem ok_law_last_of_all (T : Txt K mg) : FnOk P w K mg base CX0 1 T.a_law_last_of_all T.d_law_last_of_all ["_law_table", "_law_mirror", "_law_a", "_law_b"] spLast := by
  refine T.F_law_last_of_all.ok sc_law_last_of_all (fun vs H Q E h => ?_) (fun cdv A outer s H vs Q E hr h => ?_)
  · obtain ⟨t, m, a, b, U, M, k, rfl, _⟩ := h
    rfl
  · obtain ⟨t, m, a, b, U, M, k, rfl, ht, hm, hML, hl, ha, hb, hk, hf, q⟩ := h
    refine ⟨_, (pss_cons (ps_set (i := 4) sc_law_last_of_all.nd rfl (Or.inr rfl) (pe_op op_and (pe_op op_or (pe_ix ix_seq (pv 1) (pv 2) (fun _ _ => rfl)) (pe_op op_shl pe_int (pv 2))) (pe_op op_or (pe_ix ix_seq (pv 1) (pv 3) (fun _ _ => rfl)) (pe_op op_shl pe_int (pv 3)))))
        (pss_cons (ps_setLc (i := 5) (own := [("_law_k", 6)]) (g := gName 6) rfl sc_law_last_of_all.nd rfl rfl (sw_true rfl rfl rfl (by decide +kernel)) (pi_range1 (by rfl) T.n_range (pa_cons (pe_callB call_lenU (by rfl) T.n_len (by decide +kernel) (pa_cons (pv 0) pa_nil)) pa_nil)) (blkOk_by (N := N_law_last_of_all) (sc := defScope s_law_last_of_all) (by decide +kernel)) (fun _ _ _ _ _ => pg_name (i := 6) sc_law_last_of_all.nd rfl (Or.inl rfl)) (fun _ _ _ _ _ => (pts_one (PW.pt (pw_and (pt_cmpR op_eq (pe_op op_and (pe_op op_shr (pv 4) (pv 6)) pe_int) pe_int (nomark _)) (pw_and1 (pt_cmpR op_eq (pe_op op_and (pv 4) (pe_op op_or (pe_ix (k_ix (K := K) rfl) (pv 1) (pv 6) (fun _ _ => rfl)) (pe_op op_shl pe_int (pv 6)))) (pv 4) (nomark _))))))) (fun _ _ _ _ _ => (pv 6)))
        (pss_one (ps_ret (pv 5))))), ?_⟩
    walk_at "rd"
    refine r_ixL (sqL hm) (atI_nat (tb_at (by omega))) ?_
    walk_at "rd"
    refine r_I ⟨by omega, by omega, by decide⟩ ?_
    walk_at "rd"
    refine r_ixL (sqL hm) (atI_nat (tb_at (by omega))) ?_
    walk_at "rd"
    refine r_I ⟨by omega, by omega, by decide⟩ ?_
    walk_at "rd"
    rw [sh_val, sh_val, or2_val, or2_val, and2_val, show (M.getD a 0 ||| 1 <<< a) &&& (M.getD b 0 ||| 1 <<< b) = cm M a b from rfl]
    refine r_lenL (sqL ht) ?_
    rw [List.length_map]
    walk_at "rd"
    refine l_lcR (by omega) (by omega) (fun D i H' => Ex H H' ∧ H' D = some (.lst (tbv ((List.range i).filter (lastb M a b))))) (fun D hD => ⟨Same.new (Same.refl H) hD, upd_same⟩) (fun D i H' hD hi hP => ?_) (fun D H' hD hP => ?_)
    · obtain ⟨e, hd⟩ := hP
      have hi' : i < U.length := by omega
      have no : lastb M a b i = false → Ex H H' ∧ H' D = some (.lst (tbv ((List.range (i + 1)).filter (lastb M a b)))) := fun h => by
        refine ⟨e, ?_⟩
        rw [filter_take (n := 0), h, hd]
        simp
      walk_at "rd"
      refine ⟨rfl, ?_⟩
      walk_at "rd"
      refine r_I (by omega) ?_
      walk_at "rd"
      rw [bit_val]
      refine r_iteB (fun hb => ?_) (fun hb => ?_)
      · walk_at "rd"
        refine r_ixL (sqL (e _ _ hm)) (atI_nat (tb_at (by omega))) ?_
        walk_at "rd"
        refine r_I ⟨by omega, by omega, by decide⟩ ?_
        walk_at "rd"
        rw [sh_val, or2_val, and2_val, eq_val]
        refine r_iteB (fun hc => ?_) (fun hc => ?_)
        · walk_at "rd"
          have hyes : lastb M a b i = true := by
            unfold lastb
            rw [hb, hc]
            rfl
          refine ⟨_, hd, by rw [List.length_map]; exact Nat.lt_of_le_of_lt (Nat.le_trans filter_len (show i ≤ 1000 by omega)) (by decide), Same.mut e hD, ?_⟩
          rw [filter_take (n := 0), if_pos hyes, upd_same, ← show tbv [i] = [V.int (i : Nat)] from rfl]
          exact congrArg (fun z => some (HO.lst z)) (List.map_append ..).symm
        · walk_at "rd"
          exact no (by unfold lastb; rw [hc, Bool.and_false])
      · walk_at "rd"
        exact no (by unfold lastb; rw [hb, Bool.false_and])
    · obtain ⟨e, hd⟩ := hP
      rw [Int.toNat_natCast, filter_one hk hf] at hd
      walk_at "rd"
      exact q D H' e hD hd
end
end K21
namespace K21
open PySem PySem.Spec PyProof.Rows L2 Dk Tl
/-- one step of a reading -/
local macro_rules | `(tactic| walk_at "rd1") => `(tactic| first
  | ((with_reducible refine r_var (v := ?rv) ?rh ?_); (case rh => rfl))
  | with_reducible refine r_c ?_
  | with_reducible refine r_seq ?_
  | with_reducible refine r_asg ?_
  | with_reducible refine r_par ?_
  | with_reducible refine r_gname ?_
  | with_reducible refine r_op ?_
  | with_reducible refine r_forLo ?_
  | with_reducible refine r_forTo ?_
  | with_reducible refine r_forSo ?_
  | with_reducible refine r_forRo ?_
  | with_reducible refine r_lcRo ?_
  | with_reducible refine r_lcLo ?_
  | with_reducible refine r_yes ?_
  | with_reducible refine r_callK0 ?_
  | with_reducible refine r_break ?_
  | with_reducible refine r_forR2o ?_
  | with_reducible refine r_forEo ?_
  | with_reducible refine r_forESo ?_
  | with_reducible refine r_xfo ?_
  | with_reducible refine r_noP ?_
  | with_reducible refine r_part ?_
  | with_reducible refine r_pI ?_
  | with_reducible refine r_gcons ?_
  | with_reducible refine r_gnil ?_
  | with_reducible refine r_mkO ?_
  | with_reducible refine r_un ?_
  | with_reducible refine r_addI ?_
  | with_reducible refine r_I0 ?_
  | with_reducible refine r_U ?_
  | with_reducible refine r_cons ?_
  | with_reducible refine r_nil ?_
  | with_reducible refine r_CB ?_
  | with_reducible refine r_call ?_
  | with_reducible refine r_callS ?_
  | with_reducible refine r_int ?_
  | with_reducible refine r_max ?_
  | with_reducible refine r_min ?_
  | with_reducible refine r_test ?_
  | with_reducible refine r_B ?_
  | with_reducible refine r_blv ?_
  | with_reducible refine r_and ?_
  | with_reducible refine r_or ?_
  | with_reducible refine r_not ?_
  | with_reducible refine r_andV ?_
  | with_reducible refine r_orV ?_
  | with_reducible refine r_notV ?_
  | with_reducible refine r_ifE ?_
  | with_reducible refine r_ifS ?_
  | with_reducible refine r_ret ?_
  | with_reducible refine r_retN ?_
  | with_reducible refine r_drop ?_
  | with_reducible refine r_next ?_
  | with_reducible refine r_sl ?_
  | with_reducible refine r_gsub ?_
  | with_reducible refine r_bm ?_
  | with_reducible refine r_tup ?_
  | with_reducible refine r_lst ?_
  | with_reducible refine r_isN ?_
  | with_reducible refine r_notN ?_
  | with_reducible refine r_itt ?_
  | with_reducible refine r_iff ?_
  | with_reducible refine r_ittN ?_
  | with_reducible refine r_iffN ?_
  | ((with_reducible refine r_ittD ?rh ?_); (case rh => rfl))
  | ((with_reducible refine r_iffD ?rh ?_); (case rh => rfl))
  | ((with_reducible refine r_modP ?rh ?_); (case rh => decide))
  | ((with_reducible refine r_eq ?rh ?_); (case rh => rfl))
  | ((with_reducible refine r_eqP ?rh ?_); (case rh => rfl))
  | ((with_reducible refine r_ne ?rh ?_); (case rh => rfl)))
local macro_rules | `(tactic| walk_at "rd") => `(tactic| repeat walk_at "rd1")
local macro_rules | `(tactic| walk_at "isi") => `(tactic| first | refine r_isi (b := true) (by assumption) (by decide +kernel) ?_ | refine r_isi (b := false) (by assumption) (by decide +kernel) ?_)
local macro_rules | `(tactic| walk_at "rs1") => `(tactic| first
  | with_reducible refine r_seq ?_
  | with_reducible refine r_asg ?_
  | with_reducible refine r_gname ?_
  | with_reducible refine r_ret ?_)
local macro_rules | `(tactic| walk_at "rs") => `(tactic| repeat walk_at "rs1")

section
variable {P : Program} {w : World} {K : PySem.W.Frag} {mg : Str → Option Value} {base : Heap}
theorem sg_smD {d : Nat} {H : Hp} {v u : V} {x : Sg} (h : SgV H v x) (g : SgV H u x) : Sm H (d + 2) v u := by
  obtain ⟨p, rfl, hp⟩ := h
  obtain ⟨q, rfl, hq⟩ := g
  exact .inr (.inr ⟨p, q, _, _, rfl, rfl, hp, hq, by simp, .cons (.inr (.inl ⟨_, rfl, rfl⟩)) (.cons (.inr (.inl ⟨_, rfl, rfl⟩)) .nil)⟩)
theorem sg2_sm {d : Nat} {H : Hp} {p q : Addr} {v u v' u' : V} {x y : Sg} (hp : H p = some (.tup [v, u])) (hq : H q = some (.tup [v', u'])) (h1 : SgV H v x) (h2 : SgV H u y) (g1 : SgV H v' x) (g2 : SgV H u' y) : Sm H (d + 3) (.ref p) (.ref q) :=
  .inr (.inr ⟨p, q, _, _, rfl, rfl, hp, hq, by simp, .cons (sg_smD h1 g1) (.cons (sg_smD h2 g2) .nil)⟩)
/-- births, their signs, both tables -/
structure Wm (G : Hp) (wd mk tb mi : Addr) (L R : Nat → Sg) (sz : Nat → Nat) (n : Nat) (xs : List V) (U M : List Nat) : Prop where
  wr : Wr G wd L R sz n
  hm : G mk = some (.lst xs)
  hms : SgL G xs (marks sz n)
  ht : G tb = some (.lst (tbv U))
  hi : G mi = some (.lst (tbv M))
  rl : Rl sz n U (A L R)
  rm : Rl sz n M (fun x y => A L R y x)
section
variable {G G' : Hp} {wd mk tb mi : Addr} {L R : Nat → Sg} {sz : Nat → Nat} {n : Nat} {xs : List V} {U M : List Nat}
theorem Wm.up (e : Ex G G') (h : Wm G wd mk tb mi L R sz n xs U M) : Wm G' wd mk tb mi L R sz n xs U M :=
  ⟨h.wr.up e, e _ _ h.hm, h.hms.up e, e _ _ h.ht, e _ _ h.hi, h.rl, h.rm⟩
theorem Wm.lens (h : Wm G wd mk tb mi L R sz n xs U M) : xs.length = off sz n ∧ U.length = off sz n ∧ M.length = off sz n ∧ 2 ≤ off sz n ∧ off sz n ≤ 1000 := by
  obtain ⟨ws, hws, br⟩ := h.wr
  have z := br.off_le (Nat.le_refl n)
  have z2 := ((show Tells L R sz n U from ⟨h.rl.len, h.rl.iff⟩).bh0 br.wv).2
  have z3 := h.rl.len
  exact ⟨by rw [h.hms.len, marks_len], z3, h.rm.len, by omega, by omega⟩
end
def spHolds : Sp := fun vs H Q _ => ∃ (wd mk tb mi : Addr) (L R : Nat → Sg) (sz : Nat → Nat) (n : Nat) (xs : List V) (U M : List Nat) (j k : Nat), vs = [.ref wd, .ref mk, .ref tb, .ref mi, .int (j : Nat), .int (k : Nat)] ∧ Wm H wd mk tb mi L R sz n xs U M ∧
  j < off sz n ∧ k < off sz n ∧ ∀ H', Ex H H' → Q (.bl true) H'
theorem ok_law_holds (T : Txt K mg) : FnOk P w K mg base CX0 5 T.a_law_holds T.d_law_holds ["_law_world_here", "_law_marks", "_law_ahead_here", "_law_behind_here", "_law_a", "_law_b"] spHolds := by
  refine T.F_law_holds.ok sc_law_holds (fun vs H Q E h => ?_) (fun cdv A outer s H vs Q E hr h => ?_)
  · obtain ⟨wd, mk, tb, mi, L, R, sz, n, xs, U, M, j, k, rfl, _⟩ := h
    rfl
  · obtain ⟨wd, mk, tb, mi, L, R, sz, n, xs, U, M, j, k, rfl, W, hj, hk, q⟩ := h
    refine ⟨_, (pss_cons (ps_set (i := 6) sc_law_holds.nd rfl (Or.inl rfl) (pe_call (ok_law_last_of_all T) (hr.mono (by decide)) (by rfl) T.g_law_last_of_all T.F_law_last_of_all.kp T.b_law_last_of_all .nil pass0 (pa_cons (pv 2) (pa_cons (pv 3) (pa_cons (pv 4) (pa_cons (pv 5) pa_nil))))))
        (pss_cons (ps_set (i := 7) sc_law_holds.nd rfl (Or.inl rfl) (pe_call (ok_law_last_of_all T) (hr.mono (by decide)) (by rfl) T.g_law_last_of_all T.F_law_last_of_all.kp T.b_law_last_of_all .nil pass0 (pa_cons (pv 3) (pa_cons (pv 2) (pa_cons (pv 4) (pa_cons (pv 5) pa_nil))))))
        (pss_cons (ps_if (PW.pt (pw_or (pt_cmpR (op_neU hr.units) (pe_callB call_lenU (by rfl) T.n_len (by decide +kernel) (pa_cons (pv 6) pa_nil)) pe_int (nomark _)) (pw_or1 (pt_cmpR (op_neU hr.units) (pe_callB call_lenU (by rfl) T.n_len (by decide +kernel) (pa_cons (pv 7) pa_nil)) pe_int (nomark _))))) (pss_one (ps_ret pe_bl)) pss_nil)
        (pss_cons (ps_if (pt_not (pt_val (pe_call (ok_law_same T) hr (by rfl) T.g_law_same T.F_law_same.kp T.b_law_same .nil pass0 (pa_cons (pe_call (ok_meet_of T) (hr.mono (by decide)) (by rfl) T.g_meet_of T.F_meet_of.kp T.b_meet_of .nil pass0 (pa_cons (pv 0) (pa_cons (pe_ix ix_seq (pv 1) (pv 4) (fun _ _ => rfl)) (pa_cons (pe_ix ix_seq (pv 1) (pv 5) (fun _ _ => rfl)) pa_nil)))) (pa_cons (pe_ix ix_seq (pv 1) (pe_ix ix_seq (pv 6) pe_int (fun _ _ => rfl)) (fun _ _ => rfl)) pa_nil))))) (pss_one (ps_ret pe_bl)) pss_nil)
        (pss_cons (ps_if (pt_not (pt_val (pe_call (ok_law_same T) hr (by rfl) T.g_law_same T.F_law_same.kp T.b_law_same .nil pass0 (pa_cons (pe_call (ok_join_of T) (hr.mono (by decide)) (by rfl) T.g_join_of T.F_join_of.kp T.b_join_of .nil pass0 (pa_cons (pv 0) (pa_cons (pe_ix ix_seq (pv 1) (pv 4) (fun _ _ => rfl)) (pa_cons (pe_ix ix_seq (pv 1) (pv 5) (fun _ _ => rfl)) pa_nil)))) (pa_cons (pe_ix ix_seq (pv 1) (pe_ix ix_seq (pv 7) pe_int (fun _ _ => rfl)) (fun _ _ => rfl)) pa_nil))))) (pss_one (ps_ret pe_bl)) pss_nil)
        (pss_cons (ps_if (PW.pt (pw_or (pt_cmpR (op_eqU hr.units) (pv 4) (pv 5) (nomark _)) (pw_or1 (pt_cmpR (op_eqU hr.units) (pe_op op_and (pe_op op_or (pe_op op_shr (pe_ix ix_seq (pv 2) (pv 4) (fun _ _ => rfl)) (pv 5)) (pe_op op_shr (pe_ix ix_seq (pv 2) (pv 5) (fun _ _ => rfl)) (pv 4))) pe_int) pe_int (nomark _))))) (pss_one (ps_ret pe_bl)) pss_nil)
        (pss_one (ps_ret (pe_call (ok_law_same T) hr (by rfl) T.g_law_same T.F_law_same.kp T.b_law_same .nil pass0 (pa_cons (pe_call (ok_untold_stretch T) hr (by rfl) T.g_untold_stretch T.F_untold_stretch.kp T.b_untold_stretch .nil pass0 (pa_cons (pv 0) (pa_cons (pe_ix ix_seq (pv 1) (pv 4) (fun _ _ => rfl)) (pa_cons (pe_ix ix_seq (pv 1) (pv 5) (fun _ _ => rfl)) pa_nil)))) (pa_cons (pe_tup (pa_cons (pe_ix ix_seq (pv 1) (pe_ix ix_seq (pv 6) pe_int (fun _ _ => rfl)) (fun _ _ => rfl)) (pa_cons (pe_ix ix_seq (pv 1) (pe_ix ix_seq (pv 7) pe_int (fun _ _ => rfl)) (fun _ _ => rfl)) pa_nil))) pa_nil))))))))))), ?_⟩
    obtain ⟨x, ox, rfl⟩ := sign_at hj
    obtain ⟨y, oy, rfl⟩ := sign_at hk
    obtain ⟨v, hv, sv⟩ := W.hms.get' (marks_at ox)
    obtain ⟨u, hu, su⟩ := W.hms.get' (marks_at oy)
    obtain ⟨lx, lU, lM, l2, l1000⟩ := W.lens
    obtain ⟨ws, hws, br⟩ := id W.wr
    obtain ⟨m, m1, om⟩ := Mt.ex br.wv _ x y (Nat.lt_succ_self _) ox oy
    obtain ⟨m', m1', om'⟩ := Jn.ex br.wv _ x y (Nat.lt_succ_self _) ox oy
    obtain ⟨vm, hvm, svm⟩ := W.hms.get' (marks_at om)
    obtain ⟨vm', hvm', svm'⟩ := W.hms.get' (marks_at om')
    walk_at "rd"
    refine ⟨tb, mi, _, _, U, M, ps sz m, rfl, W.ht, W.hi, by omega, by omega, by omega, by omega, by rw [lU]; exact ps_lt om, by rw [lU]; exact W.rm.low br.wv ox oy om m1, fun lo H1 e1 _ hlo => ?_⟩
    have W1 := W.up e1
    walk_at "rd"
    refine ⟨mi, tb, _, _, M, U, ps sz m', rfl, W1.hi, W1.ht, by omega, by omega, by omega, by omega, by rw [lM]; exact ps_lt om', by rw [lM]; exact W.rl.high br.wv ox oy om' m1', fun hg H2 e2 _ hhg => ?_⟩
    have W2 := W1.up e2
    have hlo2 := e2 _ _ hlo
    have e02 := e1.trans e2
    walk_at "rd"
    refine r_lenL (sqL hlo2) ?_
    walk_at "rd"
    refine r_lenL (sqL hhg) ?_
    walk_at "rd"
    refine r_ixL (sqL W2.hm) (atI_nat hv) ?_
    walk_at "rd"
    refine r_ixL (sqL W2.hm) (atI_nat hu) ?_
    walk_at "rd"
    refine ⟨wd, v, u, L, R, sz, n, x, y, rfl, W2.wr, sv.up e02, su.up e02, ox, oy, fun H3 z mm e3 sz3 hmt => ?_⟩
    have em := Mt.det br.wv.toBs ox.1 oy.1 hmt m1
    subst em
    have W3 := W2.up e3
    have e03 := e02.trans e3
    walk_at "rd"
    refine r_ixL (sqL (e3 _ _ hlo2)) (atI_nat (j := 0) rfl) ?_
    walk_at "rd"
    refine r_ixL (sqL W3.hm) (atI_nat hvm) ?_
    walk_at "rd"
    refine ⟨_, _, rfl, sg_smD (d := 2) sz3 (svm.up e03), fun H4 e4 => ?_⟩
    have W4 := W3.up e4
    have e04 := e03.trans e4
    walk_at "rd"
    refine r_ixL (sqL W4.hm) (atI_nat hv) ?_
    walk_at "rd"
    refine r_ixL (sqL W4.hm) (atI_nat hu) ?_
    walk_at "rd"
    refine ⟨wd, v, u, L, R, sz, n, x, y, rfl, W4.wr, sv.up e04, su.up e04, ox, oy, fun H5 z' mm' e5 sz5 hjn => ?_⟩
    have em' := Jn.det br.wv.toBs ox.1 oy.1 hjn m1'
    subst em'
    have W5 := W4.up e5
    have e05 := e04.trans e5
    walk_at "rd"
    refine r_ixL (sqL (e5 _ _ (e4 _ _ (e3 _ _ hhg)))) (atI_nat (j := 0) rfl) ?_
    walk_at "rd"
    refine r_ixL (sqL W5.hm) (atI_nat hvm') ?_
    walk_at "rd"
    refine ⟨_, _, rfl, sg_smD (d := 2) sz5 (svm'.up e05), fun H6 e6 => ?_⟩
    have W6 := W5.up e6
    have e06 := e05.trans e6
    walk_at "rd"
    refine r_ite (fun _ => ?_) (fun _ => ?_)
    · walk_at "rd"
      exact q H6 e06
    walk_at "rd"
    refine r_ixL (sqL W6.ht) (atI_nat (tb_at (by omega))) ?_
    walk_at "rd"
    refine r_I (by omega) ?_
    walk_at "rd"
    refine r_ixL (sqL W6.ht) (atI_nat (tb_at (by omega))) ?_
    walk_at "rd"
    refine r_I (by omega) ?_
    walk_at "rd"
    refine r_ite (fun _ => ?_) (fun _ => ?_)
    · walk_at "rd"
      exact q H6 e06
    walk_at "rd"
    refine r_ixL (sqL W6.hm) (atI_nat hv) ?_
    walk_at "rd"
    refine r_ixL (sqL W6.hm) (atI_nat hu) ?_
    walk_at "rd"
    refine ⟨wd, v, u, L, R, sz, n, x, y, rfl, W6.wr, sv.up e06, su.up e06, ox, oy, fun H7 p7 z7 k7 z7' k7' e7 hp7 s7 s7' t7 t7' => ?_⟩
    have em7 := Mt.det br.wv.toBs ox.1 oy.1 t7 hmt
    have em7' := Jn.det br.wv.toBs ox.1 oy.1 t7' hjn
    subst em7
    subst em7'
    have W7 := W6.up e7
    have e07 := e06.trans e7
    have e37 := ((e4.trans e5).trans e6).trans e7
    walk_at "rd"
    refine r_ixL (sqL ((e3.trans e37) _ _ hlo2)) (atI_nat (j := 0) rfl) ?_
    walk_at "rd"
    refine r_ixL (sqL W7.hm) (atI_nat hvm) ?_
    walk_at "rd"
    refine r_ixL (sqL ((e3.trans e37) _ _ hhg)) (atI_nat (j := 0) rfl) ?_
    walk_at "rd"
    refine r_ixL (sqL W7.hm) (atI_nat hvm') ?_
    walk_at "rd"
    refine r_small nsz fun p8 hp8 => ?_
    have e8 := Same.new (o := .tup [vm, vm']) (Same.refl H7) hp8
    walk_at "rd"
    refine ⟨_, _, rfl, sg2_sm (d := 1) (e8 _ _ hp7) upd_same (s7.up e8) (s7'.up e8) (svm.up (e07.trans e8)) (svm'.up (e07.trans e8)), fun H9 e9 => ?_⟩
    walk_at "rd"
    exact q H9 ((e07.trans e8).trans e9)
theorem ok_law_by_name (T : Txt K mg) : FnOk P w K mg base CX0 5 T.a_law_by_name T.d_law_by_name ["_law_world_here", "_law_marks", "_law_ahead_here", "_law_behind_here", "_law_a", "_law_b"] spHolds := by
  refine T.F_law_by_name.ok sc_law_by_name (fun vs H Q E h => ?_) (fun cdv A outer s H vs Q E hr h => ?_)
  · obtain ⟨wd, mk, tb, mi, L, R, sz, n, xs, U, M, j, k, rfl, _⟩ := h
    rfl
  · obtain ⟨wd, mk, tb, mi, L, R, sz, n, xs, U, M, j, k, rfl, W, hj, hk, q⟩ := h
    refine ⟨_, (pss_cons (ps_set (i := 6) sc_law_by_name.nd rfl (Or.inl rfl) (pe_ix ix_seq (pv 1) (pe_ix ix_seq (pe_call (ok_law_last_of_all T) (hr.mono (by decide)) (by rfl) T.g_law_last_of_all T.F_law_last_of_all.kp T.b_law_last_of_all .nil pass0 (pa_cons (pv 2) (pa_cons (pv 3) (pa_cons (pv 4) (pa_cons (pv 5) pa_nil))))) pe_int (fun _ _ => rfl)) (fun _ _ => rfl)))
        (pss_cons (ps_set (i := 7) sc_law_by_name.nd rfl (Or.inl rfl) (pe_ix ix_seq (pv 1) (pe_ix ix_seq (pe_call (ok_law_last_of_all T) (hr.mono (by decide)) (by rfl) T.g_law_last_of_all T.F_law_last_of_all.kp T.b_law_last_of_all .nil pass0 (pa_cons (pv 3) (pa_cons (pv 2) (pa_cons (pv 4) (pa_cons (pv 5) pa_nil))))) pe_int (fun _ _ => rfl)) (fun _ _ => rfl)))
        (pss_cons (ps_if (pt_not (pt_val (pe_call (ok_law_same T) hr (by rfl) T.g_law_same T.F_law_same.kp T.b_law_same .nil pass0 (pa_cons (pe_callK0 (ok_meet_of T) (hr.mono (by decide)) (by rfl) T.g_meet_of T.F_meet_of.kp T.kb_meet_of pass0 (pk_cons (pe_ix ix_seq (pv 1) (pv 5) (fun _ _ => rfl)) (pk_cons (pv 0) (pk_cons (pe_ix ix_seq (pv 1) (pv 4) (fun _ _ => rfl)) pk_nil)))) (pa_cons (pv 6) pa_nil))))) (pss_one (ps_ret pe_bl)) pss_nil)
        (pss_cons (ps_if (pt_not (pt_val (pe_call (ok_law_same T) hr (by rfl) T.g_law_same T.F_law_same.kp T.b_law_same .nil pass0 (pa_cons (pe_callK0 (ok_join_of T) (hr.mono (by decide)) (by rfl) T.g_join_of T.F_join_of.kp T.kb_join_of pass0 (pk_cons (pe_ix ix_seq (pv 1) (pv 4) (fun _ _ => rfl)) (pk_cons (pe_ix ix_seq (pv 1) (pv 5) (fun _ _ => rfl)) (pk_cons (pv 0) pk_nil)))) (pa_cons (pv 7) pa_nil))))) (pss_one (ps_ret pe_bl)) pss_nil)
        (pss_cons (ps_if (PW.pt (pw_or (pt_cmpR (op_eqU hr.units) (pv 4) (pv 5) (nomark _)) (pw_or1 (pt_cmpR (op_eqU hr.units) (pe_op op_and (pe_op op_or (pe_op op_shr (pe_ix ix_seq (pv 2) (pv 4) (fun _ _ => rfl)) (pv 5)) (pe_op op_shr (pe_ix ix_seq (pv 2) (pv 5) (fun _ _ => rfl)) (pv 4))) pe_int) pe_int (nomark _))))) (pss_one (ps_ret pe_bl)) pss_nil)
        (pss_one (ps_ret (pe_call (ok_law_same T) hr (by rfl) T.g_law_same T.F_law_same.kp T.b_law_same .nil pass0 (pa_cons (pe_callK0 (ok_untold_stretch T) hr (by rfl) T.g_untold_stretch T.F_untold_stretch.kp T.kb_untold_stretch pass0 (pk_cons (pe_ix ix_seq (pv 1) (pv 5) (fun _ _ => rfl)) (pk_cons (pe_ix ix_seq (pv 1) (pv 4) (fun _ _ => rfl)) (pk_cons (pv 0) pk_nil)))) (pa_cons (pe_tup (pa_cons (pv 6) (pa_cons (pv 7) pa_nil))) pa_nil)))))))))), ?_⟩
    obtain ⟨x, ox, rfl⟩ := sign_at hj
    obtain ⟨y, oy, rfl⟩ := sign_at hk
    obtain ⟨v, hv, sv⟩ := W.hms.get' (marks_at ox)
    obtain ⟨u, hu, su⟩ := W.hms.get' (marks_at oy)
    obtain ⟨lx, lU, lM, l2, l1000⟩ := W.lens
    obtain ⟨ws, hws, br⟩ := id W.wr
    obtain ⟨m, m1, om⟩ := Mt.ex br.wv _ x y (Nat.lt_succ_self _) ox oy
    obtain ⟨m', m1', om'⟩ := Jn.ex br.wv _ x y (Nat.lt_succ_self _) ox oy
    obtain ⟨vm, hvm, svm⟩ := W.hms.get' (marks_at om)
    obtain ⟨vm', hvm', svm'⟩ := W.hms.get' (marks_at om')
    walk_at "rd"
    refine ⟨tb, mi, _, _, U, M, ps sz m, rfl, W.ht, W.hi, by omega, by omega, by omega, by omega, by rw [lU]; exact ps_lt om, by rw [lU]; exact W.rm.low br.wv ox oy om m1, fun lo H1 e1 _ hlo => ?_⟩
    have W1 := W.up e1
    walk_at "rd"
    refine r_ixL (sqL hlo) (atI_nat (j := 0) rfl) ?_
    walk_at "rd"
    refine r_ixL (sqL W1.hm) (atI_nat hvm) ?_
    walk_at "rd"
    refine ⟨mi, tb, _, _, M, U, ps sz m', rfl, W1.hi, W1.ht, by omega, by omega, by omega, by omega, by rw [lM]; exact ps_lt om', by rw [lM]; exact W.rl.high br.wv ox oy om' m1', fun hg H2 e2 _ hhg => ?_⟩
    have W2 := W1.up e2
    have e02 := e1.trans e2
    walk_at "rd"
    refine r_ixL (sqL hhg) (atI_nat (j := 0) rfl) ?_
    walk_at "rd"
    refine r_ixL (sqL W2.hm) (atI_nat hvm') ?_
    walk_at "rd"
    refine r_ixL (sqL W2.hm) (atI_nat hu) ?_
    walk_at "rd"
    refine r_ixL (sqL W2.hm) (atI_nat hv) ?_
    walk_at "rd"
    refine ⟨wd, v, u, L, R, sz, n, x, y, rfl, W2.wr, sv.up e02, su.up e02, ox, oy, fun H3 z mm e3 sz3 hmt => ?_⟩
    have em := Mt.det br.wv.toBs ox.1 oy.1 hmt m1
    subst em
    have W3 := W2.up e3
    have e03 := e02.trans e3
    walk_at "rd"
    refine ⟨_, _, rfl, sg_smD (d := 2) sz3 (svm.up e03), fun H4 e4 => ?_⟩
    have W4 := W3.up e4
    have e04 := e03.trans e4
    walk_at "rd"
    refine r_ixL (sqL W4.hm) (atI_nat hv) ?_
    walk_at "rd"
    refine r_ixL (sqL W4.hm) (atI_nat hu) ?_
    walk_at "rd"
    refine ⟨wd, v, u, L, R, sz, n, x, y, rfl, W4.wr, sv.up e04, su.up e04, ox, oy, fun H5 z' mm' e5 sz5 hjn => ?_⟩
    have em' := Jn.det br.wv.toBs ox.1 oy.1 hjn m1'
    subst em'
    have W5 := W4.up e5
    have e05 := e04.trans e5
    walk_at "rd"
    refine ⟨_, _, rfl, sg_smD (d := 2) sz5 (svm'.up e05), fun H6 e6 => ?_⟩
    have W6 := W5.up e6
    have e06 := e05.trans e6
    walk_at "rd"
    refine r_ite (fun _ => ?_) (fun _ => ?_)
    · walk_at "rd"
      exact q H6 e06
    walk_at "rd"
    refine r_ixL (sqL W6.ht) (atI_nat (tb_at (by omega))) ?_
    walk_at "rd"
    refine r_I (by omega) ?_
    walk_at "rd"
    refine r_ixL (sqL W6.ht) (atI_nat (tb_at (by omega))) ?_
    walk_at "rd"
    refine r_I (by omega) ?_
    walk_at "rd"
    refine r_ite (fun _ => ?_) (fun _ => ?_)
    · walk_at "rd"
      exact q H6 e06
    walk_at "rd"
    refine r_ixL (sqL W6.hm) (atI_nat hu) ?_
    walk_at "rd"
    refine r_ixL (sqL W6.hm) (atI_nat hv) ?_
    walk_at "rd"
    refine ⟨wd, v, u, L, R, sz, n, x, y, rfl, W6.wr, sv.up e06, su.up e06, ox, oy, fun H7 p7 z7 k7 z7' k7' e7 hp7 s7 s7' t7 t7' => ?_⟩
    have em7 := Mt.det br.wv.toBs ox.1 oy.1 t7 hmt
    have em7' := Jn.det br.wv.toBs ox.1 oy.1 t7' hjn
    subst em7
    subst em7'
    have e07 := e06.trans e7
    walk_at "rd"
    refine r_small nsz fun p8 hp8 => ?_
    have e8 := Same.new (o := .tup [vm, vm']) (Same.refl H7) hp8
    walk_at "rd"
    refine ⟨_, _, rfl, sg2_sm (d := 1) (e8 _ _ hp7) upd_same (s7.up e8) (s7'.up e8) (svm.up (e07.trans e8)) (svm'.up (e07.trans e8)), fun H9 e9 => ?_⟩
    walk_at "rd"
    exact q H9 ((e07.trans e8).trans e9)
end
end K21
namespace K21
open PySem PySem.Spec PyProof.Rows L2 Dk Tl
/-- one step of a reading -/
local macro_rules | `(tactic| walk_at "rd1") => `(tactic| first
  | ((with_reducible refine r_var (v := ?rv) ?rh ?_); (case rh => rfl))
  | with_reducible refine r_c ?_
  | with_reducible refine r_seq ?_
  | with_reducible refine r_asg ?_
  | with_reducible refine r_par ?_
  | with_reducible refine r_gname ?_
  | with_reducible refine r_op ?_
  | with_reducible refine r_forLo ?_
  | with_reducible refine r_forTo ?_
  | with_reducible refine r_forSo ?_
  | with_reducible refine r_forRo ?_
  | with_reducible refine r_lcRo ?_
  | with_reducible refine r_lcLo ?_
  | with_reducible refine r_yes ?_
  | with_reducible refine r_callK0 ?_
  | with_reducible refine r_break ?_
  | with_reducible refine r_forR2o ?_
  | with_reducible refine r_forEo ?_
  | with_reducible refine r_forESo ?_
  | with_reducible refine r_xfo ?_
  | with_reducible refine r_noP ?_
  | with_reducible refine r_part ?_
  | with_reducible refine r_pI ?_
  | with_reducible refine r_gcons ?_
  | with_reducible refine r_gnil ?_
  | with_reducible refine r_mkO ?_
  | with_reducible refine r_un ?_
  | with_reducible refine r_addI ?_
  | with_reducible refine r_I0 ?_
  | with_reducible refine r_U ?_
  | with_reducible refine r_cons ?_
  | with_reducible refine r_nil ?_
  | with_reducible refine r_CB ?_
  | with_reducible refine r_call ?_
  | with_reducible refine r_callS ?_
  | with_reducible refine r_int ?_
  | with_reducible refine r_max ?_
  | with_reducible refine r_min ?_
  | with_reducible refine r_test ?_
  | with_reducible refine r_B ?_
  | with_reducible refine r_blv ?_
  | with_reducible refine r_and ?_
  | with_reducible refine r_or ?_
  | with_reducible refine r_not ?_
  | with_reducible refine r_andV ?_
  | with_reducible refine r_orV ?_
  | with_reducible refine r_notV ?_
  | with_reducible refine r_ifE ?_
  | with_reducible refine r_ifS ?_
  | with_reducible refine r_ret ?_
  | with_reducible refine r_retN ?_
  | with_reducible refine r_drop ?_
  | with_reducible refine r_next ?_
  | with_reducible refine r_sl ?_
  | with_reducible refine r_gsub ?_
  | with_reducible refine r_bm ?_
  | with_reducible refine r_tup ?_
  | with_reducible refine r_lst ?_
  | with_reducible refine r_isN ?_
  | with_reducible refine r_notN ?_
  | with_reducible refine r_itt ?_
  | with_reducible refine r_iff ?_
  | with_reducible refine r_ittN ?_
  | with_reducible refine r_iffN ?_
  | ((with_reducible refine r_ittD ?rh ?_); (case rh => rfl))
  | ((with_reducible refine r_iffD ?rh ?_); (case rh => rfl))
  | ((with_reducible refine r_modP ?rh ?_); (case rh => decide))
  | ((with_reducible refine r_eq ?rh ?_); (case rh => rfl))
  | ((with_reducible refine r_eqP ?rh ?_); (case rh => rfl))
  | ((with_reducible refine r_ne ?rh ?_); (case rh => rfl)))
local macro_rules | `(tactic| walk_at "rd") => `(tactic| repeat walk_at "rd1")
local macro_rules | `(tactic| walk_at "isi") => `(tactic| first | refine r_isi (b := true) (by assumption) (by decide +kernel) ?_ | refine r_isi (b := false) (by assumption) (by decide +kernel) ?_)
local macro_rules | `(tactic| walk_at "rs1") => `(tactic| first
  | with_reducible refine r_seq ?_
  | with_reducible refine r_asg ?_
  | with_reducible refine r_gname ?_
  | with_reducible refine r_ret ?_)
local macro_rules | `(tactic| walk_at "rs") => `(tactic| repeat walk_at "rs1")

section
variable {P : Program} {w : World} {K : PySem.W.Frag} {mg : Str → Option Value} {base : Heap}
def sp_law (K : PySem.W.Frag) : Sp := fun vs H Q _ => ∃ (a : Addr) (ns : List Int), vs = [.ref a] ∧ SqL K H a (ns.map V.int) ∧ ns.length ≤ 63 ∧ ∀ H', Q (.bl true) H'
theorem Ok.wide {sz sz' : Nat → Nat} {n m : Nat} {x : Sg} (o : Ok sz n x) (h : n ≤ m) (e : ∀ c, c < n → sz c = sz' c) : Ok sz' m x := ⟨Nat.lt_of_lt_of_le o.1 h, by rw [← e _ o.1]; exact o.2⟩
theorem ok_law (T : Txt K mg) : FnOk P w K mg base CX0 6 T.a_law T.d_law ["_law_script"] (sp_law K) := by
  refine T.F_law.ok sc_law (fun vs H Q E h => ?_) (fun cdv A outer s H vs Q E hr h => ?_)
  · obtain ⟨a, ns, rfl, _⟩ := h
    rfl
  · obtain ⟨a0, ns, rfl, hS, hns, q⟩ := h
    refine ⟨_, (pss_cons (ps_set (i := 1) sc_law.nd rfl (Or.inl rfl) (pe_call (ok_law_draws T) (hr.mono (by decide)) (by rfl) T.g_law_draws T.F_law_draws.kp T.b_law_draws .nil pass0 (pa_cons (pv 0) pa_nil)))
        (pss_cons (ps_set (i := 2) sc_law.nd rfl (Or.inl rfl) (pe_call (ok_law_world T) hr (by rfl) T.g_law_world T.F_law_world.kp T.b_law_world .nil pass0 (pa_cons (pv 1) pa_nil)))
        (pss_cons (ps_set (i := 3) sc_law.nd rfl (Or.inl rfl) (pe_call (ok_law_all T) (hr.mono (by decide)) (by rfl) T.g_law_all T.F_law_all.kp T.b_law_all .nil pass0 (pa_cons (pv 2) pa_nil)))
        (pss_cons (ps_set (i := 4) sc_law.nd rfl (Or.inl rfl) (pe_call (ok_law_closed T) (hr.mono (by decide)) (by rfl) T.g_law_closed T.F_law_closed.kp T.b_law_closed .nil pass0 (pa_cons (pv 2) pa_nil)))
        (pss_cons (ps_set (i := 5) sc_law.nd rfl (Or.inl rfl) (pe_call (ok_law_turned T) (hr.mono (by decide)) (by rfl) T.g_law_turned T.F_law_turned.kp T.b_law_turned .nil pass0 (pa_cons (pv 4) pa_nil)))
        (pss_cons (ps_set (i := 6) sc_law.nd rfl (Or.inl rfl) (pe_call (ok_law_chosen T) (hr.mono (by decide)) (by rfl) T.g_law_chosen T.F_law_chosen.kp T.b_law_chosen .nil pass0 (pa_cons (pv 1) (pa_cons (pe_callB call_lenU (by rfl) T.n_len (by decide +kernel) (pa_cons (pv 3) pa_nil)) pa_nil))))
        (pss_cons (ps_for PassesOwn.never rfl (pi_list (pv 6)) (pg_name (i := 7) sc_law.nd rfl (Or.inl rfl)) (pss_one (ps_for PassesOwn.never rfl (pi_list (pv 6)) (pg_name (i := 8) sc_law.nd rfl (Or.inl rfl)) (pss_one (ps_if (pt_not (pt_val (pe_call (ok_law_holds T) hr (by rfl) T.g_law_holds T.F_law_holds.kp T.b_law_holds .nil pass0 (pa_cons (pv 2) (pa_cons (pv 3) (pa_cons (pv 4) (pa_cons (pv 5) (pa_cons (pv 7) (pa_cons (pv 8) pa_nil))))))))) (pss_one (ps_ret pe_bl)) pss_nil)))))
        (pss_cons (ps_set (i := 9) sc_law.nd rfl (Or.inl rfl) (pe_call (ok_law_put T) (hr.mono (by decide)) (by rfl) T.g_law_put T.F_law_put.kp T.b_law_put .nil pass0 (pa_cons (pv 1) (pa_cons (pe_call (ok_law_put T) (hr.mono (by decide)) (by rfl) T.g_law_put T.F_law_put.kp T.b_law_put .nil pass0 (pa_cons (pv 1) (pa_cons (pv 2) (pa_cons pe_int (pa_cons pe_int pa_nil))))) (pa_cons pe_int (pa_cons pe_int pa_nil))))))
        (pss_cons (ps_set (i := 10) sc_law.nd rfl (Or.inl rfl) (pe_call (ok_law_all T) (hr.mono (by decide)) (by rfl) T.g_law_all T.F_law_all.kp T.b_law_all .nil pass0 (pa_cons (pv 9) pa_nil)))
        (pss_cons (ps_set (i := 11) sc_law.nd rfl (Or.inl rfl) (pe_call (ok_law_closed T) (hr.mono (by decide)) (by rfl) T.g_law_closed T.F_law_closed.kp T.b_law_closed .nil pass0 (pa_cons (pv 9) pa_nil)))
        (pss_cons (ps_set (i := 12) sc_law.nd rfl (Or.inl rfl) (pe_call (ok_law_turned T) (hr.mono (by decide)) (by rfl) T.g_law_turned T.F_law_turned.kp T.b_law_turned .nil pass0 (pa_cons (pv 11) pa_nil)))
        (pss_cons (ps_for PassesOwn.never rfl (pi_range1 (by rfl) T.n_range (pa_cons pe_int pa_nil)) (pg_name (i := 13) sc_law.nd rfl (Or.inl rfl)) (pss_cons (ps_set (i := 7) sc_law.nd rfl (Or.inl rfl) (pe_call (ok_law_pick T) (hr.mono (by decide)) (by rfl) T.g_law_pick T.F_law_pick.kp T.b_law_pick .nil pass0 (pa_cons (pv 1) (pa_cons (pe_callB call_lenU (by rfl) T.n_len (by decide +kernel) (pa_cons (pv 3) pa_nil)) pa_nil))))
        (pss_cons (ps_set (i := 8) sc_law.nd rfl (Or.inl rfl) (pe_call (ok_law_pick T) (hr.mono (by decide)) (by rfl) T.g_law_pick T.F_law_pick.kp T.b_law_pick .nil pass0 (pa_cons (pv 1) (pa_cons (pe_callB call_lenU (by rfl) T.n_len (by decide +kernel) (pa_cons (pv 3) pa_nil)) pa_nil))))
        (pss_cons (ps_set (i := 14) sc_law.nd rfl (Or.inl rfl) (pe_call (ok_law_pick T) (hr.mono (by decide)) (by rfl) T.g_law_pick T.F_law_pick.kp T.b_law_pick .nil pass0 (pa_cons (pv 1) (pa_cons (pe_callB call_lenU (by rfl) T.n_len (by decide +kernel) (pa_cons (pv 10) pa_nil)) pa_nil))))
        (pss_cons (ps_if (pt_not (pt_val (pe_call (ok_law_same T) (hr.mono (by decide)) (by rfl) T.g_law_same T.F_law_same.kp T.b_law_same .nil pass0 (pa_cons (pe_call (ok_meet_of T) (hr.mono (by decide)) (by rfl) T.g_meet_of T.F_meet_of.kp T.b_meet_of .nil pass0 (pa_cons (pv 9) (pa_cons (pe_ix ix_seq (pv 3) (pv 7) (fun _ _ => rfl)) (pa_cons (pe_ix ix_seq (pv 3) (pv 8) (fun _ _ => rfl)) pa_nil)))) (pa_cons (pe_ix ix_seq (pv 3) (pe_ix ix_seq (pe_call (ok_law_last_of_all T) (hr.mono (by decide)) (by rfl) T.g_law_last_of_all T.F_law_last_of_all.kp T.b_law_last_of_all .nil pass0 (pa_cons (pv 4) (pa_cons (pv 5) (pa_cons (pv 7) (pa_cons (pv 8) pa_nil))))) pe_int (fun _ _ => rfl)) (fun _ _ => rfl)) pa_nil))))) (pss_one (ps_ret pe_bl)) pss_nil)
        (pss_cons (ps_if (pt_not (pt_val (pe_call (ok_law_same T) (hr.mono (by decide)) (by rfl) T.g_law_same T.F_law_same.kp T.b_law_same .nil pass0 (pa_cons (pe_call (ok_join_of T) (hr.mono (by decide)) (by rfl) T.g_join_of T.F_join_of.kp T.b_join_of .nil pass0 (pa_cons (pv 9) (pa_cons (pe_ix ix_seq (pv 3) (pv 7) (fun _ _ => rfl)) (pa_cons (pe_ix ix_seq (pv 3) (pv 8) (fun _ _ => rfl)) pa_nil)))) (pa_cons (pe_ix ix_seq (pv 3) (pe_ix ix_seq (pe_call (ok_law_last_of_all T) (hr.mono (by decide)) (by rfl) T.g_law_last_of_all T.F_law_last_of_all.kp T.b_law_last_of_all .nil pass0 (pa_cons (pv 5) (pa_cons (pv 4) (pa_cons (pv 7) (pa_cons (pv 8) pa_nil))))) pe_int (fun _ _ => rfl)) (fun _ _ => rfl)) pa_nil))))) (pss_one (ps_ret pe_bl)) pss_nil)
        (pss_one (ps_if (pt_not (PW.pt (pw_and (pt_val (pe_call (ok_law_holds T) hr (by rfl) T.g_law_holds T.F_law_holds.kp T.b_law_holds .nil pass0 (pa_cons (pv 9) (pa_cons (pv 10) (pa_cons (pv 11) (pa_cons (pv 12) (pa_cons (pv 14) (pa_cons (pv 8) pa_nil)))))))) (pw_and1 (pt_val (pe_call (ok_law_by_name T) hr (by rfl) T.g_law_by_name T.F_law_by_name.kp T.b_law_by_name .nil pass0 (pa_cons (pv 2) (pa_cons (pv 3) (pa_cons (pv 4) (pa_cons (pv 5) (pa_cons (pv 7) (pa_cons (pv 8) pa_nil)))))))))))) (pss_one (ps_ret pe_bl)) pss_nil))))))))
        (pss_one (ps_ret pe_bl)))))))))))))), ?_⟩
    walk_at "rd"
    refine ⟨a0, ns, rfl, hS, hns, fun b h H1 e1 hb hh st => ?_⟩
    have w1 : W2 b h H H1 := ⟨e1, hb, hh, st⟩
    have k0 := Wk.start w1
    walk_at "rd"
    refine ⟨b, h, H, rfl, w1, fun wd G2 H2 L R sz n k2 wr2 n30 => ?_⟩
    walk_at "rd"
    refine ⟨wd, L, R, sz, n, G2, rfl, k2.w.g, wr2, fun mk G3 H3 xs t3 _ hm3 hms3 => ?_⟩
    have k3 := k2.pure t3
    walk_at "rd"
    refine ⟨wd, L, R, sz, n, rfl, (wr2.up t3.gg).up k3.w.g, fun tb H4 U e4 ht0 ht4 tl bits => ?_⟩
    obtain ⟨G4, k4, g4, eG4⟩ := k3.know e4 ht0 ht4
    have rl := tl.rl bits
    have wr4 := (wr2.up t3.gg).up eG4
    have U1000 : U.length ≤ 1000 := by
      obtain ⟨ws, hws, br⟩ := id wr4
      have := br.off_le (Nat.le_refl n)
      have := rl.len
      omega
    walk_at "rd"
    refine ⟨tb, U, rfl, k4.g g4, U1000, fun mi H5 M e5 hi0 hi5 htu => ?_⟩
    obtain ⟨G5, k5, g5, eG5⟩ := k4.know e5 hi0 hi5
    have M5 : Wm G5 wd mk tb mi L R sz n xs U M := ⟨wr4.up eG5, eG5 _ _ (eG4 _ _ hm3), (hms3.up eG4).up eG5, eG5 _ _ g4, g5, rl, rl.turn htu⟩
    obtain ⟨xl, Ul, Ml, l2, l1000⟩ := M5.lens
    walk_at "rd"
    refine r_lenL (sqL (k5.g M5.hm)) ?_
    walk_at "rd"
    refine ⟨b, h, xs.length, G5, rfl, k5.w, by omega, by omega, fun ch G6 H6 C k56 hch hC => ?_⟩
    have k6 := k5.sub k56.t k56.w.st
    have M6 := M5.up k56.t.gg
    walk_at "rd"
    refine l_L (sqL (k6.g hch)) (fun i σ H' => ∃ y7 y8, σ = [some (.ref a0), some (.ref b), some (.ref wd), some (.ref mk), some (.ref tb), some (.ref mi), some (.ref ch), y7, y8, none, none, none, none, none, none] ∧ Wk b h H H1 G6 H') ⟨none, none, rfl, k6⟩ (fun i σ H' hW => ?_) (fun i x σ H' hx hW => ?_) (fun σ H' hW => ?_)
    · obtain ⟨_, _, _, k⟩ := hW
      exact sqL (k.g hch)
    · obtain ⟨y7, y8, rfl, k⟩ := hW
      obtain ⟨j, hj, rfl⟩ := tb_get hx
      have hjl := hC j (List.mem_of_getElem? hj)
      walk_at "rd"
      refine l_L (sqL (k.g hch)) (fun i σ H' => ∃ y8, σ = [some (.ref a0), some (.ref b), some (.ref wd), some (.ref mk), some (.ref tb), some (.ref mi), some (.ref ch), some (.int (j : Nat)), y8, none, none, none, none, none, none] ∧ Wk b h H H1 G6 H') ⟨y8, rfl, k⟩ (fun i σ H' hW => ?_) (fun i x σ H' hx hW => ?_) (fun σ H' hW => ?_)
      · obtain ⟨_, _, k⟩ := hW
        exact sqL (k.g hch)
      · obtain ⟨y8, rfl, k⟩ := hW
        obtain ⟨m, hm, rfl⟩ := tb_get hx
        have hml := hC m (List.mem_of_getElem? hm)
        walk_at "rd"
        refine ⟨wd, mk, tb, mi, L, R, sz, n, xs, U, M, j, m, rfl, M6.up k.w.g, by omega, by omega, fun H6 e6 => ?_⟩
        walk_at "rd"
        exact ⟨_, rfl, k.ex e6⟩
      · obtain ⟨y8, rfl, k⟩ := hW
        exact ⟨_, _, rfl, k⟩
    · obtain ⟨y7, y8, rfl, k7⟩ := hW
      walk_at "rd"
      refine ⟨b, h, wd, 0, 2, L, R, sz, n, G6, rfl, k7.w, M6.wr, by decide, by decide, by omega, fun p8 G8 H8 x8 y8q s8 k68 wr8 => ?_⟩
      have k8 := k7.sub k68.t k68.w.st
      have M8 := M6.up k68.t.gg
      walk_at "rd"
      refine ⟨b, h, p8, 4, 2, _, _, _, n + 1, G8, rfl, k8.w, wr8, by decide, by decide, by omega, fun p9 G9 H9 x9 y9 s9 k89 wr9 => ?_⟩
      have k9 := k8.sub k89.t k89.w.st
      obtain ⟨L', R', sz', hl, hr2, hs, wr9⟩ : ∃ L' R' sz', (∀ c, c < n → L c = L' c) ∧ (∀ c, c < n → R c = R' c) ∧ (∀ c, c < n → sz c = sz' c) ∧ Wr G9 p9 L' R' sz' (n + 1 + 1) :=
        ⟨_, _, _, fun c hc => by rw [upn_ne (show c < n + 1 by omega), upn_ne hc], fun c hc => by rw [upn_ne (show c < n + 1 by omega), upn_ne hc], fun c hc => by rw [upn_ne (show c < n + 1 by omega), upn_ne hc], wr9⟩
      walk_at "rd"
      refine ⟨p9, L', R', sz', n + 1 + 1, G9, rfl, k9.w.g, wr9, fun mk' Ga Ha xs' ta _ hma hmsa => ?_⟩
      have ka := k9.pure ta
      walk_at "rd"
      refine ⟨p9, L', R', sz', n + 1 + 1, rfl, (wr9.up ta.gg).up ka.w.g, fun tb' Hb U' eb htb0 htb tl' bits' => ?_⟩
      obtain ⟨Gb, kb, gb, eGb⟩ := ka.know eb htb0 htb
      have rl' := tl'.rl bits'
      have wrb := (wr9.up ta.gg).up eGb
      have U1000' : U'.length ≤ 1000 := by
        obtain ⟨ws, hws, br⟩ := id wrb
        have := br.off_le (Nat.le_refl (n + 1 + 1))
        have := rl'.len
        omega
      walk_at "rd"
      refine ⟨tb', U', rfl, kb.g gb, U1000', fun mi' Hc M' ec hic0 hic htu' => ?_⟩
      obtain ⟨Gc, kc, gc, eGc⟩ := kb.know ec hic0 hic
      have N0 : Wm Gc p9 mk' tb' mi' L' R' sz' (n + 1 + 1) xs' U' M' := ⟨wrb.up eGc, eGc _ _ (eGb _ _ hma), (hmsa.up eGb).up eGc, eGc _ _ gb, gc, rl', rl'.turn htu'⟩
      have M0 := (((M8.up k89.t.gg).up ta.gg).up eGb).up eGc
      obtain ⟨xl', Ul', Ml', l2', l1000'⟩ := N0.lens
      have offs : off sz n ≤ off sz' (n + 1 + 1) := by
        rw [off_congr hs]
        exact off_mono (by omega)
      obtain ⟨ws, hws, br⟩ := id M0.wr
      obtain ⟨vs', hvs', br'⟩ := id N0.wr
      walk_at "rd"
      refine l_R (by decide) (by decide) (fun i σ H' => ∃ y7 y8 y13 y14, σ = [some (.ref a0), some (.ref b), some (.ref wd), some (.ref mk), some (.ref tb), some (.ref mi), some (.ref ch), y7, y8, some (.ref p9), some (.ref mk'), some (.ref tb'), some (.ref mi'), y13, y14] ∧ Wk b h H H1 Gc H') ⟨y7, y8, none, none, rfl, kc⟩ (fun i σ H' hi hW => ?_) (fun σ H' hW => ?_)
      · obtain ⟨y7, y8, y13, y14, rfl, k⟩ := hW
        walk_at "rd"
        refine r_lenL (sqL (k.g M0.hm)) ?_
        walk_at "rd"
        refine ⟨b, h, (xs.length : Nat), rfl, k.w.st, by omega, by omega, fun j H2 j0 j1 D2 => ?_⟩
        have k2 := k.dr D2
        obtain ⟨j, rfl⟩ : ∃ z : Nat, j = (z : Nat) := ⟨j.toNat, by omega⟩
        walk_at "rd"
        refine r_lenL (sqL (k2.g M0.hm)) ?_
        walk_at "rd"
        refine ⟨b, h, (xs.length : Nat), rfl, k2.w.st, by omega, by omega, fun m H3 m0 m1 D3 => ?_⟩
        have k3 := k2.dr D3
        obtain ⟨m, rfl⟩ : ∃ z : Nat, m = (z : Nat) := ⟨m.toNat, by omega⟩
        walk_at "rd"
        refine r_lenL (sqL (k3.g N0.hm)) ?_
        walk_at "rd"
        refine ⟨b, h, (xs'.length : Nat), rfl, k3.w.st, by omega, by omega, fun c H4 c0 c1 D4 => ?_⟩
        have k4 := k3.dr D4
        obtain ⟨c, rfl⟩ : ∃ z : Nat, c = (z : Nat) := ⟨c.toNat, by omega⟩
        have W := M0.up k4.w.g
        have W' := N0.up k4.w.g
        have hj : j < off sz n := by omega
        have hm : m < off sz n := by omega
        obtain ⟨x, ox, rfl⟩ := sign_at hj
        obtain ⟨y, oy, rfl⟩ := sign_at hm
        obtain ⟨v, hv, sv⟩ := W.hms.get' (marks_at ox)
        obtain ⟨u, hu, su⟩ := W.hms.get' (marks_at oy)
        have ox' : Ok sz' (n + 1 + 1) x := Ok.wide ox (by omega) hs
        have oy' : Ok sz' (n + 1 + 1) y := Ok.wide oy (by omega) hs
        obtain ⟨g, t1, og⟩ := Mt.ex br.wv _ x y (Nat.lt_succ_self _) ox oy
        obtain ⟨g', t1', og'⟩ := Jn.ex br.wv _ x y (Nat.lt_succ_self _) ox oy
        obtain ⟨vm, hvm, svm⟩ := W.hms.get' (marks_at og)
        obtain ⟨vm', hvm', svm'⟩ := W.hms.get' (marks_at og')
        walk_at "rd"
        refine r_ixL (sqL W.hm) (atI_nat hv) ?_
        walk_at "rd"
        refine r_ixL (sqL W.hm) (atI_nat hu) ?_
        walk_at "rd"
        refine ⟨p9, v, u, L', R', sz', n + 1 + 1, x, y, rfl, W'.wr, sv, su, ox', oy', fun H5 z mm e5 sz5 hmt => ?_⟩
        have em := Mt.det br'.wv.toBs ox'.1 oy'.1 hmt (t1.wide br.wv hl hr2 ox.1 oy.1)
        subst em
        have W5 := W.up e5
        walk_at "rd"
        refine ⟨tb, mi, _, _, U, M, ps sz mm, rfl, W5.ht, W5.hi, by omega, by omega, by omega, by omega, by rw [Ul]; exact ps_lt og, by rw [Ul]; exact W.rm.low br.wv ox oy og t1, fun lo H6 e6 _ hlo => ?_⟩
        have W6 := W5.up e6
        walk_at "rd"
        refine r_ixL (sqL hlo) (atI_nat (j := 0) rfl) ?_
        walk_at "rd"
        refine r_ixL (sqL W6.hm) (atI_nat hvm) ?_
        walk_at "rd"
        refine ⟨_, _, rfl, sg_smD (d := 2) (sz5.up e6) (svm.up (e5.trans e6)), fun H7 e7 => ?_⟩
        have W7 := W6.up e7
        have e47 := (e5.trans e6).trans e7
        walk_at "rd"
        refine r_ixL (sqL W7.hm) (atI_nat hv) ?_
        walk_at "rd"
        refine r_ixL (sqL W7.hm) (atI_nat hu) ?_
        walk_at "rd"
        refine ⟨p9, v, u, L', R', sz', n + 1 + 1, x, y, rfl, W'.wr.up e47, sv.up e47, su.up e47, ox', oy', fun H8 z' mm' e8 sz8 hjn => ?_⟩
        have em' := Jn.det br'.wv.toBs ox'.1 oy'.1 hjn (t1'.wide br.wv hl hr2 ox.1 oy.1)
        subst em'
        have W8 := W7.up e8
        walk_at "rd"
        refine ⟨mi, tb, _, _, M, U, ps sz mm', rfl, W8.hi, W8.ht, by omega, by omega, by omega, by omega, by rw [Ml]; exact ps_lt og', by rw [Ml]; exact W.rl.high br.wv ox oy og' t1', fun lo2 H9 e9 _ hlo2 => ?_⟩
        have W9 := W8.up e9
        have e49 := (e47.trans e8).trans e9
        walk_at "rd"
        refine r_ixL (sqL hlo2) (atI_nat (j := 0) rfl) ?_
        walk_at "rd"
        refine r_ixL (sqL W9.hm) (atI_nat hvm') ?_
        walk_at "rd"
        refine ⟨_, _, rfl, sg_smD (d := 2) (sz8.up e9) (svm'.up e49), fun Hd ed => ?_⟩
        have e4d := e49.trans ed
        walk_at "rd"
        refine ⟨p9, mk', tb', mi', L', R', sz', n + 1 + 1, xs', U', M', c, ps sz y, rfl, W'.up e4d, by omega, by omega, fun He ee => ?_⟩
        walk_at "rd"
        refine ⟨wd, mk, tb, mi, L, R, sz, n, xs, U, M, ps sz x, ps sz y, rfl, W.up (e4d.trans ee), by omega, by omega, fun Hf ef => ?_⟩
        walk_at "rd"
        exact ⟨_, _, _, _, rfl, k4.ex ((e4d.trans ee).trans ef)⟩
      · obtain ⟨y7, y8, y13, y14, rfl, k⟩ := hW
        walk_at "rd"
        exact q H'
end
theorem all_mk {l : PySem.W.OpenLaw} {w : World} {K : PySem.W.Frag} {h : Heap} {mg : Str → Option Value} {fa : Addr} (X : K.In h) (G : h.Ns mainGlobals mg) (hfa : mg "law" = some (.ref fa))
    {f_hops_of : Addr} {od_hops_of an_hops_of : Option Addr} {sl_hops_of : Array (Option Value)} {oc_hops_of kV_hops_of dc_hops_of pm_hops_of cd_hops_of ct_hops_of : Value}
    {f_told_ahead : Addr} {od_told_ahead an_told_ahead : Option Addr} {sl_told_ahead : Array (Option Value)} {oc_told_ahead kV_told_ahead dc_told_ahead pm_told_ahead cd_told_ahead ct_told_ahead : Value}
    {f_meet_of : Addr} {od_meet_of an_meet_of : Option Addr} {sl_meet_of : Array (Option Value)} {oc_meet_of kV_meet_of dc_meet_of pm_meet_of cd_meet_of ct_meet_of : Value}
    {f_join_of : Addr} {od_join_of an_join_of : Option Addr} {sl_join_of : Array (Option Value)} {oc_join_of kV_join_of dc_join_of pm_join_of cd_join_of ct_join_of : Value}
    {f_untold_stretch : Addr} {od_untold_stretch an_untold_stretch : Option Addr} {sl_untold_stretch : Array (Option Value)} {oc_untold_stretch kV_untold_stretch dc_untold_stretch pm_untold_stretch cd_untold_stretch ct_untold_stretch : Value}
    {f_law_draws : Addr} {od_law_draws an_law_draws : Option Addr} {sl_law_draws : Array (Option Value)} {oc_law_draws kV_law_draws dc_law_draws pm_law_draws cd_law_draws ct_law_draws : Value}
    {f_law_pick : Addr} {od_law_pick an_law_pick : Option Addr} {sl_law_pick : Array (Option Value)} {oc_law_pick kV_law_pick dc_law_pick pm_law_pick cd_law_pick ct_law_pick : Value}
    {f_law_say : Addr} {od_law_say an_law_say : Option Addr} {sl_law_say : Array (Option Value)} {oc_law_say kV_law_say dc_law_say pm_law_say cd_law_say ct_law_say : Value}
    {f_law_all : Addr} {od_law_all an_law_all : Option Addr} {sl_law_all : Array (Option Value)} {oc_law_all kV_law_all dc_law_all pm_law_all cd_law_all ct_law_all : Value}
    {f_law_closed : Addr} {od_law_closed an_law_closed : Option Addr} {sl_law_closed : Array (Option Value)} {oc_law_closed kV_law_closed dc_law_closed pm_law_closed cd_law_closed ct_law_closed : Value}
    {f_law_behind : Addr} {od_law_behind an_law_behind : Option Addr} {sl_law_behind : Array (Option Value)} {oc_law_behind kV_law_behind dc_law_behind pm_law_behind cd_law_behind ct_law_behind : Value}
    {f_law_ahead : Addr} {od_law_ahead an_law_ahead : Option Addr} {sl_law_ahead : Array (Option Value)} {oc_law_ahead kV_law_ahead dc_law_ahead pm_law_ahead cd_law_ahead ct_law_ahead : Value}
    {f_law_close : Addr} {od_law_close an_law_close : Option Addr} {sl_law_close : Array (Option Value)} {oc_law_close kV_law_close dc_law_close pm_law_close cd_law_close ct_law_close : Value}
    {f_law_pair : Addr} {od_law_pair an_law_pair : Option Addr} {sl_law_pair : Array (Option Value)} {oc_law_pair kV_law_pair dc_law_pair pm_law_pair cd_law_pair ct_law_pair : Value}
    {f_law_put : Addr} {od_law_put an_law_put : Option Addr} {sl_law_put : Array (Option Value)} {oc_law_put kV_law_put dc_law_put pm_law_put cd_law_put ct_law_put : Value}
    {f_law_world : Addr} {od_law_world an_law_world : Option Addr} {sl_law_world : Array (Option Value)} {oc_law_world kV_law_world dc_law_world pm_law_world cd_law_world ct_law_world : Value}
    {f_law_same : Addr} {od_law_same an_law_same : Option Addr} {sl_law_same : Array (Option Value)} {oc_law_same kV_law_same dc_law_same pm_law_same cd_law_same ct_law_same : Value}
    {f_law_turned : Addr} {od_law_turned an_law_turned : Option Addr} {sl_law_turned : Array (Option Value)} {oc_law_turned kV_law_turned dc_law_turned pm_law_turned cd_law_turned ct_law_turned : Value}
    {f_law_last_of_all : Addr} {od_law_last_of_all an_law_last_of_all : Option Addr} {sl_law_last_of_all : Array (Option Value)} {oc_law_last_of_all kV_law_last_of_all dc_law_last_of_all pm_law_last_of_all cd_law_last_of_all ct_law_last_of_all : Value}
    {f_law_holds : Addr} {od_law_holds an_law_holds : Option Addr} {sl_law_holds : Array (Option Value)} {oc_law_holds kV_law_holds dc_law_holds pm_law_holds cd_law_holds ct_law_holds : Value}
    {f_law_by_name : Addr} {od_law_by_name an_law_by_name : Option Addr} {sl_law_by_name : Array (Option Value)} {oc_law_by_name kV_law_by_name dc_law_by_name pm_law_by_name cd_law_by_name ct_law_by_name : Value}
    {f_law_chosen : Addr} {od_law_chosen an_law_chosen : Option Addr} {sl_law_chosen : Array (Option Value)} {oc_law_chosen kV_law_chosen dc_law_chosen pm_law_chosen cd_law_chosen ct_law_chosen : Value}
    {f_law : Addr} {od_law an_law : Option Addr} {sl_law : Array (Option Value)} {oc_law kV_law dc_law pm_law cd_law ct_law : Value}
    (a_hops_of : PySem.W.nsIn K mainGlobals "hops_of" = some (some (.ref f_hops_of)))
    (l_hops_of : K.lookup f_hops_of = some ⟨oc_hops_of, od_hops_of, .func (PySem.W.fnOf "hops_of" "hops_of" (defArgs s_hops_of) (defBody s_hops_of) (defScope s_hops_of) .none kV_hops_of dc_hops_of pm_hops_of an_hops_of cd_hops_of ct_hops_of), sl_hops_of⟩)
    (c_hops_of : PySem.W.codeIn K cd_hops_of "hops_of" = true)
    (k_hops_of : PySem.W.keepIn K (.ref f_hops_of) = true)
    (a_told_ahead : PySem.W.nsIn K mainGlobals "told_ahead" = some (some (.ref f_told_ahead)))
    (l_told_ahead : K.lookup f_told_ahead = some ⟨oc_told_ahead, od_told_ahead, .func (PySem.W.fnOf "told_ahead" "told_ahead" (defArgs s_told_ahead) (defBody s_told_ahead) (defScope s_told_ahead) .none kV_told_ahead dc_told_ahead pm_told_ahead an_told_ahead cd_told_ahead ct_told_ahead), sl_told_ahead⟩)
    (c_told_ahead : PySem.W.codeIn K cd_told_ahead "told_ahead" = true)
    (k_told_ahead : PySem.W.keepIn K (.ref f_told_ahead) = true)
    (a_meet_of : PySem.W.nsIn K mainGlobals "meet_of" = some (some (.ref f_meet_of)))
    (l_meet_of : K.lookup f_meet_of = some ⟨oc_meet_of, od_meet_of, .func (PySem.W.fnOf "meet_of" "meet_of" (defArgs s_meet_of) (defBody s_meet_of) (defScope s_meet_of) .none kV_meet_of dc_meet_of pm_meet_of an_meet_of cd_meet_of ct_meet_of), sl_meet_of⟩)
    (c_meet_of : PySem.W.codeIn K cd_meet_of "meet_of" = true)
    (k_meet_of : PySem.W.keepIn K (.ref f_meet_of) = true)
    (a_join_of : PySem.W.nsIn K mainGlobals "join_of" = some (some (.ref f_join_of)))
    (l_join_of : K.lookup f_join_of = some ⟨oc_join_of, od_join_of, .func (PySem.W.fnOf "join_of" "join_of" (defArgs s_join_of) (defBody s_join_of) (defScope s_join_of) .none kV_join_of dc_join_of pm_join_of an_join_of cd_join_of ct_join_of), sl_join_of⟩)
    (c_join_of : PySem.W.codeIn K cd_join_of "join_of" = true)
    (k_join_of : PySem.W.keepIn K (.ref f_join_of) = true)
    (a_untold_stretch : PySem.W.nsIn K mainGlobals "untold_stretch" = some (some (.ref f_untold_stretch)))
    (l_untold_stretch : K.lookup f_untold_stretch = some ⟨oc_untold_stretch, od_untold_stretch, .func (PySem.W.fnOf "untold_stretch" "untold_stretch" (defArgs s_untold_stretch) (defBody s_untold_stretch) (defScope s_untold_stretch) .none kV_untold_stretch dc_untold_stretch pm_untold_stretch an_untold_stretch cd_untold_stretch ct_untold_stretch), sl_untold_stretch⟩)
    (c_untold_stretch : PySem.W.codeIn K cd_untold_stretch "untold_stretch" = true)
    (k_untold_stretch : PySem.W.keepIn K (.ref f_untold_stretch) = true)
    (a_law_draws : PySem.W.nsIn K mainGlobals "_law_draws" = some (some (.ref f_law_draws)))
    (l_law_draws : K.lookup f_law_draws = some ⟨oc_law_draws, od_law_draws, .func (PySem.W.fnOf "_law_draws" "_law_draws" (defArgs s_law_draws) (defBody s_law_draws) (defScope s_law_draws) .none kV_law_draws dc_law_draws pm_law_draws an_law_draws cd_law_draws ct_law_draws), sl_law_draws⟩)
    (c_law_draws : PySem.W.codeIn K cd_law_draws "_law_draws" = true)
    (k_law_draws : PySem.W.keepIn K (.ref f_law_draws) = true)
    (a_law_pick : PySem.W.nsIn K mainGlobals "_law_pick" = some (some (.ref f_law_pick)))
    (l_law_pick : K.lookup f_law_pick = some ⟨oc_law_pick, od_law_pick, .func (PySem.W.fnOf "_law_pick" "_law_pick" (defArgs s_law_pick) (defBody s_law_pick) (defScope s_law_pick) .none kV_law_pick dc_law_pick pm_law_pick an_law_pick cd_law_pick ct_law_pick), sl_law_pick⟩)
    (c_law_pick : PySem.W.codeIn K cd_law_pick "_law_pick" = true)
    (k_law_pick : PySem.W.keepIn K (.ref f_law_pick) = true)
    (a_law_say : PySem.W.nsIn K mainGlobals "_law_say" = some (some (.ref f_law_say)))
    (l_law_say : K.lookup f_law_say = some ⟨oc_law_say, od_law_say, .func (PySem.W.fnOf "_law_say" "_law_say" (defArgs s_law_say) (defBody s_law_say) (defScope s_law_say) .none kV_law_say dc_law_say pm_law_say an_law_say cd_law_say ct_law_say), sl_law_say⟩)
    (c_law_say : PySem.W.codeIn K cd_law_say "_law_say" = true)
    (k_law_say : PySem.W.keepIn K (.ref f_law_say) = true)
    (a_law_all : PySem.W.nsIn K mainGlobals "_law_all" = some (some (.ref f_law_all)))
    (l_law_all : K.lookup f_law_all = some ⟨oc_law_all, od_law_all, .func (PySem.W.fnOf "_law_all" "_law_all" (defArgs s_law_all) (defBody s_law_all) (defScope s_law_all) .none kV_law_all dc_law_all pm_law_all an_law_all cd_law_all ct_law_all), sl_law_all⟩)
    (c_law_all : PySem.W.codeIn K cd_law_all "_law_all" = true)
    (k_law_all : PySem.W.keepIn K (.ref f_law_all) = true)
    (a_law_closed : PySem.W.nsIn K mainGlobals "_law_closed" = some (some (.ref f_law_closed)))
    (l_law_closed : K.lookup f_law_closed = some ⟨oc_law_closed, od_law_closed, .func (PySem.W.fnOf "_law_closed" "_law_closed" (defArgs s_law_closed) (defBody s_law_closed) (defScope s_law_closed) .none kV_law_closed dc_law_closed pm_law_closed an_law_closed cd_law_closed ct_law_closed), sl_law_closed⟩)
    (c_law_closed : PySem.W.codeIn K cd_law_closed "_law_closed" = true)
    (k_law_closed : PySem.W.keepIn K (.ref f_law_closed) = true)
    (a_law_behind : PySem.W.nsIn K mainGlobals "_law_behind" = some (some (.ref f_law_behind)))
    (l_law_behind : K.lookup f_law_behind = some ⟨oc_law_behind, od_law_behind, .func (PySem.W.fnOf "_law_behind" "_law_behind" (defArgs s_law_behind) (defBody s_law_behind) (defScope s_law_behind) .none kV_law_behind dc_law_behind pm_law_behind an_law_behind cd_law_behind ct_law_behind), sl_law_behind⟩)
    (c_law_behind : PySem.W.codeIn K cd_law_behind "_law_behind" = true)
    (k_law_behind : PySem.W.keepIn K (.ref f_law_behind) = true)
    (a_law_ahead : PySem.W.nsIn K mainGlobals "_law_ahead" = some (some (.ref f_law_ahead)))
    (l_law_ahead : K.lookup f_law_ahead = some ⟨oc_law_ahead, od_law_ahead, .func (PySem.W.fnOf "_law_ahead" "_law_ahead" (defArgs s_law_ahead) (defBody s_law_ahead) (defScope s_law_ahead) .none kV_law_ahead dc_law_ahead pm_law_ahead an_law_ahead cd_law_ahead ct_law_ahead), sl_law_ahead⟩)
    (c_law_ahead : PySem.W.codeIn K cd_law_ahead "_law_ahead" = true)
    (k_law_ahead : PySem.W.keepIn K (.ref f_law_ahead) = true)
    (a_law_close : PySem.W.nsIn K mainGlobals "_law_close" = some (some (.ref f_law_close)))
    (l_law_close : K.lookup f_law_close = some ⟨oc_law_close, od_law_close, .func (PySem.W.fnOf "_law_close" "_law_close" (defArgs s_law_close) (defBody s_law_close) (defScope s_law_close) .none kV_law_close dc_law_close pm_law_close an_law_close cd_law_close ct_law_close), sl_law_close⟩)
    (c_law_close : PySem.W.codeIn K cd_law_close "_law_close" = true)
    (k_law_close : PySem.W.keepIn K (.ref f_law_close) = true)
    (a_law_pair : PySem.W.nsIn K mainGlobals "_law_pair" = some (some (.ref f_law_pair)))
    (l_law_pair : K.lookup f_law_pair = some ⟨oc_law_pair, od_law_pair, .func (PySem.W.fnOf "_law_pair" "_law_pair" (defArgs s_law_pair) (defBody s_law_pair) (defScope s_law_pair) .none kV_law_pair dc_law_pair pm_law_pair an_law_pair cd_law_pair ct_law_pair), sl_law_pair⟩)
    (c_law_pair : PySem.W.codeIn K cd_law_pair "_law_pair" = true)
    (k_law_pair : PySem.W.keepIn K (.ref f_law_pair) = true)
    (a_law_put : PySem.W.nsIn K mainGlobals "_law_put" = some (some (.ref f_law_put)))
    (l_law_put : K.lookup f_law_put = some ⟨oc_law_put, od_law_put, .func (PySem.W.fnOf "_law_put" "_law_put" (defArgs s_law_put) (defBody s_law_put) (defScope s_law_put) .none kV_law_put dc_law_put pm_law_put an_law_put cd_law_put ct_law_put), sl_law_put⟩)
    (c_law_put : PySem.W.codeIn K cd_law_put "_law_put" = true)
    (k_law_put : PySem.W.keepIn K (.ref f_law_put) = true)
    (a_law_world : PySem.W.nsIn K mainGlobals "_law_world" = some (some (.ref f_law_world)))
    (l_law_world : K.lookup f_law_world = some ⟨oc_law_world, od_law_world, .func (PySem.W.fnOf "_law_world" "_law_world" (defArgs s_law_world) (defBody s_law_world) (defScope s_law_world) .none kV_law_world dc_law_world pm_law_world an_law_world cd_law_world ct_law_world), sl_law_world⟩)
    (c_law_world : PySem.W.codeIn K cd_law_world "_law_world" = true)
    (k_law_world : PySem.W.keepIn K (.ref f_law_world) = true)
    (a_law_same : PySem.W.nsIn K mainGlobals "_law_same" = some (some (.ref f_law_same)))
    (l_law_same : K.lookup f_law_same = some ⟨oc_law_same, od_law_same, .func (PySem.W.fnOf "_law_same" "_law_same" (defArgs s_law_same) (defBody s_law_same) (defScope s_law_same) .none kV_law_same dc_law_same pm_law_same an_law_same cd_law_same ct_law_same), sl_law_same⟩)
    (c_law_same : PySem.W.codeIn K cd_law_same "_law_same" = true)
    (k_law_same : PySem.W.keepIn K (.ref f_law_same) = true)
    (a_law_turned : PySem.W.nsIn K mainGlobals "_law_turned" = some (some (.ref f_law_turned)))
    (l_law_turned : K.lookup f_law_turned = some ⟨oc_law_turned, od_law_turned, .func (PySem.W.fnOf "_law_turned" "_law_turned" (defArgs s_law_turned) (defBody s_law_turned) (defScope s_law_turned) .none kV_law_turned dc_law_turned pm_law_turned an_law_turned cd_law_turned ct_law_turned), sl_law_turned⟩)
    (c_law_turned : PySem.W.codeIn K cd_law_turned "_law_turned" = true)
    (k_law_turned : PySem.W.keepIn K (.ref f_law_turned) = true)
    (a_law_last_of_all : PySem.W.nsIn K mainGlobals "_law_last_of_all" = some (some (.ref f_law_last_of_all)))
    (l_law_last_of_all : K.lookup f_law_last_of_all = some ⟨oc_law_last_of_all, od_law_last_of_all, .func (PySem.W.fnOf "_law_last_of_all" "_law_last_of_all" (defArgs s_law_last_of_all) (defBody s_law_last_of_all) (defScope s_law_last_of_all) .none kV_law_last_of_all dc_law_last_of_all pm_law_last_of_all an_law_last_of_all cd_law_last_of_all ct_law_last_of_all), sl_law_last_of_all⟩)
    (c_law_last_of_all : PySem.W.codeIn K cd_law_last_of_all "_law_last_of_all" = true)
    (k_law_last_of_all : PySem.W.keepIn K (.ref f_law_last_of_all) = true)
    (a_law_holds : PySem.W.nsIn K mainGlobals "_law_holds" = some (some (.ref f_law_holds)))
    (l_law_holds : K.lookup f_law_holds = some ⟨oc_law_holds, od_law_holds, .func (PySem.W.fnOf "_law_holds" "_law_holds" (defArgs s_law_holds) (defBody s_law_holds) (defScope s_law_holds) .none kV_law_holds dc_law_holds pm_law_holds an_law_holds cd_law_holds ct_law_holds), sl_law_holds⟩)
    (c_law_holds : PySem.W.codeIn K cd_law_holds "_law_holds" = true)
    (k_law_holds : PySem.W.keepIn K (.ref f_law_holds) = true)
    (a_law_by_name : PySem.W.nsIn K mainGlobals "_law_by_name" = some (some (.ref f_law_by_name)))
    (l_law_by_name : K.lookup f_law_by_name = some ⟨oc_law_by_name, od_law_by_name, .func (PySem.W.fnOf "_law_by_name" "_law_by_name" (defArgs s_law_by_name) (defBody s_law_by_name) (defScope s_law_by_name) .none kV_law_by_name dc_law_by_name pm_law_by_name an_law_by_name cd_law_by_name ct_law_by_name), sl_law_by_name⟩)
    (c_law_by_name : PySem.W.codeIn K cd_law_by_name "_law_by_name" = true)
    (k_law_by_name : PySem.W.keepIn K (.ref f_law_by_name) = true)
    (a_law_chosen : PySem.W.nsIn K mainGlobals "_law_chosen" = some (some (.ref f_law_chosen)))
    (l_law_chosen : K.lookup f_law_chosen = some ⟨oc_law_chosen, od_law_chosen, .func (PySem.W.fnOf "_law_chosen" "_law_chosen" (defArgs s_law_chosen) (defBody s_law_chosen) (defScope s_law_chosen) .none kV_law_chosen dc_law_chosen pm_law_chosen an_law_chosen cd_law_chosen ct_law_chosen), sl_law_chosen⟩)
    (c_law_chosen : PySem.W.codeIn K cd_law_chosen "_law_chosen" = true)
    (k_law_chosen : PySem.W.keepIn K (.ref f_law_chosen) = true)
    (a_law : PySem.W.nsIn K mainGlobals "law" = some (some (.ref f_law)))
    (l_law : K.lookup f_law = some ⟨oc_law, od_law, .func (PySem.W.fnOf "law" "law" (defArgs s_law) (defBody s_law) (defScope s_law) .none kV_law dc_law pm_law an_law cd_law ct_law), sl_law⟩)
    (c_law : PySem.W.codeIn K cd_law "law" = true)
    (k_law : PySem.W.keepIn K (.ref f_law) = true)
    (z_abs : PySem.W.nsIn K mainGlobals "abs" = some none)
    (z_bool : PySem.W.nsIn K mainGlobals "bool" = some none)
    (z_dict : PySem.W.nsIn K mainGlobals "dict" = some none)
    (z_int : PySem.W.nsIn K mainGlobals "int" = some none)
    (z_isinstance : PySem.W.nsIn K mainGlobals "isinstance" = some none)
    (z_len : PySem.W.nsIn K mainGlobals "len" = some none)
    (z_list : PySem.W.nsIn K mainGlobals "list" = some none)
    (z_max : PySem.W.nsIn K mainGlobals "max" = some none)
    (z_min : PySem.W.nsIn K mainGlobals "min" = some none)
    (z_range : PySem.W.nsIn K mainGlobals "range" = some none)
    (z_sorted : PySem.W.nsIn K mainGlobals "sorted" = some none)
    (z_str : PySem.W.nsIn K mainGlobals "str" = some none)
    (z_tuple : PySem.W.nsIn K mainGlobals "tuple" = some none) :
    ∃ fd : FuncData, (∀ (s : Shared) (v : Value), BindsTo s fd ⟨[v], []⟩ [("_law_script", v)]) ∧ ∀ base : Heap, K.In base → base.Ns mainGlobals mg → FnOk l.prog w K mg base CX0 6 fa fd ["_law_script"] (sp_law K) := by
  have e := hfa.symm.trans (PySem.W.mg_of X G a_law)
  cases e
  have F_hops_of := fun_mk (st := s_hops_of) l_hops_of c_hops_of k_hops_of
  have F_told_ahead := fun_mk (st := s_told_ahead) l_told_ahead c_told_ahead k_told_ahead
  have F_meet_of := fun_mk (st := s_meet_of) l_meet_of c_meet_of k_meet_of
  have F_join_of := fun_mk (st := s_join_of) l_join_of c_join_of k_join_of
  have F_untold_stretch := fun_mk (st := s_untold_stretch) l_untold_stretch c_untold_stretch k_untold_stretch
  have F_law_draws := fun_mk (st := s_law_draws) l_law_draws c_law_draws k_law_draws
  have F_law_pick := fun_mk (st := s_law_pick) l_law_pick c_law_pick k_law_pick
  have F_law_say := fun_mk (st := s_law_say) l_law_say c_law_say k_law_say
  have F_law_all := fun_mk (st := s_law_all) l_law_all c_law_all k_law_all
  have F_law_closed := fun_mk (st := s_law_closed) l_law_closed c_law_closed k_law_closed
  have F_law_behind := fun_mk (st := s_law_behind) l_law_behind c_law_behind k_law_behind
  have F_law_ahead := fun_mk (st := s_law_ahead) l_law_ahead c_law_ahead k_law_ahead
  have F_law_close := fun_mk (st := s_law_close) l_law_close c_law_close k_law_close
  have F_law_pair := fun_mk (st := s_law_pair) l_law_pair c_law_pair k_law_pair
  have F_law_put := fun_mk (st := s_law_put) l_law_put c_law_put k_law_put
  have F_law_world := fun_mk (st := s_law_world) l_law_world c_law_world k_law_world
  have F_law_same := fun_mk (st := s_law_same) l_law_same c_law_same k_law_same
  have F_law_turned := fun_mk (st := s_law_turned) l_law_turned c_law_turned k_law_turned
  have F_law_last_of_all := fun_mk (st := s_law_last_of_all) l_law_last_of_all c_law_last_of_all k_law_last_of_all
  have F_law_holds := fun_mk (st := s_law_holds) l_law_holds c_law_holds k_law_holds
  have F_law_by_name := fun_mk (st := s_law_by_name) l_law_by_name c_law_by_name k_law_by_name
  have F_law_chosen := fun_mk (st := s_law_chosen) l_law_chosen c_law_chosen k_law_chosen
  have F_law := fun_mk (st := s_law) l_law c_law k_law
  let T : Txt K mg := {
    a_hops_of := _, d_hops_of := _, F_hops_of := F_hops_of, b_hops_of := F_hops_of.binds (ps := ["births", "one", "other"]) (fun _ _ _ _ _ _ us hl => match us, hl with | [_, _, _], _ => rfl), g_hops_of := PySem.W.mg_of X G a_hops_of,
    a_told_ahead := _, d_told_ahead := _, F_told_ahead := F_told_ahead, b_told_ahead := F_told_ahead.binds (ps := ["births", "one", "other"]) (fun _ _ _ _ _ _ us hl => match us, hl with | [_, _, _], _ => rfl), g_told_ahead := PySem.W.mg_of X G a_told_ahead,
    a_meet_of := _, d_meet_of := _, F_meet_of := F_meet_of, b_meet_of := F_meet_of.binds (ps := ["births", "one", "other"]) (fun _ _ _ _ _ _ us hl => match us, hl with | [_, _, _], _ => rfl), g_meet_of := PySem.W.mg_of X G a_meet_of,
    a_join_of := _, d_join_of := _, F_join_of := F_join_of, b_join_of := F_join_of.binds (ps := ["births", "one", "other"]) (fun _ _ _ _ _ _ us hl => match us, hl with | [_, _, _], _ => rfl), g_join_of := PySem.W.mg_of X G a_join_of,
    a_untold_stretch := _, d_untold_stretch := _, F_untold_stretch := F_untold_stretch, b_untold_stretch := F_untold_stretch.binds (ps := ["births", "one", "other"]) (fun _ _ _ _ _ _ us hl => match us, hl with | [_, _, _], _ => rfl), g_untold_stretch := PySem.W.mg_of X G a_untold_stretch,
    a_law_draws := _, d_law_draws := _, F_law_draws := F_law_draws, b_law_draws := F_law_draws.binds (ps := ["_law_script"]) (fun _ _ _ _ _ _ us hl => match us, hl with | [_], _ => rfl), g_law_draws := PySem.W.mg_of X G a_law_draws,
    a_law_pick := _, d_law_pick := _, F_law_pick := F_law_pick, b_law_pick := F_law_pick.binds (ps := ["_law_box", "_law_many"]) (fun _ _ _ _ _ _ us hl => match us, hl with | [_, _], _ => rfl), g_law_pick := PySem.W.mg_of X G a_law_pick,
    a_law_say := _, d_law_say := _, F_law_say := F_law_say, b_law_say := F_law_say.binds (ps := ["_law_box", "_law_most"]) (fun _ _ _ _ _ _ us hl => match us, hl with | [_, _], _ => rfl), g_law_say := PySem.W.mg_of X G a_law_say,
    a_law_all := _, d_law_all := _, F_law_all := F_law_all, b_law_all := F_law_all.binds (ps := ["_law_world_here"]) (fun _ _ _ _ _ _ us hl => match us, hl with | [_], _ => rfl), g_law_all := PySem.W.mg_of X G a_law_all,
    a_law_closed := _, d_law_closed := _, F_law_closed := F_law_closed, b_law_closed := F_law_closed.binds (ps := ["_law_world_here"]) (fun _ _ _ _ _ _ us hl => match us, hl with | [_], _ => rfl), g_law_closed := PySem.W.mg_of X G a_law_closed,
    a_law_behind := _, d_law_behind := _, F_law_behind := F_law_behind, b_law_behind := F_law_behind.binds (ps := ["_law_table", "_law_j"]) (fun _ _ _ _ _ _ us hl => match us, hl with | [_, _], _ => rfl), g_law_behind := PySem.W.mg_of X G a_law_behind,
    a_law_ahead := _, d_law_ahead := _, F_law_ahead := F_law_ahead, b_law_ahead := F_law_ahead.binds (ps := ["_law_table", "_law_j"]) (fun _ _ _ _ _ _ us hl => match us, hl with | [_, _], _ => rfl), g_law_ahead := PySem.W.mg_of X G a_law_ahead,
    a_law_close := _, d_law_close := _, F_law_close := F_law_close, b_law_close := F_law_close.binds (ps := ["_law_table", "_law_j"]) (fun _ _ _ _ _ _ us hl => match us, hl with | [_, _], _ => rfl), g_law_close := PySem.W.mg_of X G a_law_close,
    a_law_pair := _, d_law_pair := _, F_law_pair := F_law_pair, b_law_pair := F_law_pair.binds (ps := ["_law_box", "_law_table", "_law_mode"]) (fun _ _ _ _ _ _ us hl => match us, hl with | [_, _, _], _ => rfl), g_law_pair := PySem.W.mg_of X G a_law_pair,
    a_law_put := _, d_law_put := _, F_law_put := F_law_put, b_law_put := F_law_put.binds (ps := ["_law_box", "_law_world_here", "_law_mode", "_law_most"]) (fun _ _ _ _ _ _ us hl => match us, hl with | [_, _, _, _], _ => rfl), g_law_put := PySem.W.mg_of X G a_law_put,
    a_law_world := _, d_law_world := _, F_law_world := F_law_world, b_law_world := F_law_world.binds (ps := ["_law_box"]) (fun _ _ _ _ _ _ us hl => match us, hl with | [_], _ => rfl), g_law_world := PySem.W.mg_of X G a_law_world,
    a_law_same := _, d_law_same := _, F_law_same := F_law_same, b_law_same := F_law_same.binds (ps := ["_law_a", "_law_b"]) (fun _ _ _ _ _ _ us hl => match us, hl with | [_, _], _ => rfl), g_law_same := PySem.W.mg_of X G a_law_same,
    a_law_turned := _, d_law_turned := _, F_law_turned := F_law_turned, b_law_turned := F_law_turned.binds (ps := ["_law_table"]) (fun _ _ _ _ _ _ us hl => match us, hl with | [_], _ => rfl), g_law_turned := PySem.W.mg_of X G a_law_turned,
    a_law_last_of_all := _, d_law_last_of_all := _, F_law_last_of_all := F_law_last_of_all, b_law_last_of_all := F_law_last_of_all.binds (ps := ["_law_table", "_law_mirror", "_law_a", "_law_b"]) (fun _ _ _ _ _ _ us hl => match us, hl with | [_, _, _, _], _ => rfl), g_law_last_of_all := PySem.W.mg_of X G a_law_last_of_all,
    a_law_holds := _, d_law_holds := _, F_law_holds := F_law_holds, b_law_holds := F_law_holds.binds (ps := ["_law_world_here", "_law_marks", "_law_ahead_here", "_law_behind_here", "_law_a", "_law_b"]) (fun _ _ _ _ _ _ us hl => match us, hl with | [_, _, _, _, _, _], _ => rfl), g_law_holds := PySem.W.mg_of X G a_law_holds,
    a_law_by_name := _, d_law_by_name := _, F_law_by_name := F_law_by_name, b_law_by_name := F_law_by_name.binds (ps := ["_law_world_here", "_law_marks", "_law_ahead_here", "_law_behind_here", "_law_a", "_law_b"]) (fun _ _ _ _ _ _ us hl => match us, hl with | [_, _, _, _, _, _], _ => rfl), g_law_by_name := PySem.W.mg_of X G a_law_by_name,
    a_law_chosen := _, d_law_chosen := _, F_law_chosen := F_law_chosen, b_law_chosen := F_law_chosen.binds (ps := ["_law_box", "_law_many"]) (fun _ _ _ _ _ _ us hl => match us, hl with | [_, _], _ => rfl), g_law_chosen := PySem.W.mg_of X G a_law_chosen,
    a_law := _, d_law := _, F_law := F_law, b_law := F_law.binds (ps := ["_law_script"]) (fun _ _ _ _ _ _ us hl => match us, hl with | [_], _ => rfl), g_law := PySem.W.mg_of X G a_law,
    kb_meet_of := ⟨fun _ us ws _ hl => match us, ws, hl with | [], [_, _, _], _ => .of_eq rfl, p201_rel⟩,
    kb_join_of := ⟨fun _ us ws _ hl => match us, ws, hl with | [], [_, _, _], _ => .of_eq rfl, p120_rel⟩,
    kb_untold_stretch := ⟨fun _ us ws _ hl => match us, ws, hl with | [], [_, _, _], _ => .of_eq rfl, p210_rel⟩,
    n_abs := PySem.W.mg_none_of X G z_abs,
    n_bool := PySem.W.mg_none_of X G z_bool,
    n_dict := PySem.W.mg_none_of X G z_dict,
    n_int := PySem.W.mg_none_of X G z_int,
    n_isinstance := PySem.W.mg_none_of X G z_isinstance,
    n_len := PySem.W.mg_none_of X G z_len,
    n_list := PySem.W.mg_none_of X G z_list,
    n_max := PySem.W.mg_none_of X G z_max,
    n_min := PySem.W.mg_none_of X G z_min,
    n_range := PySem.W.mg_none_of X G z_range,
    n_sorted := PySem.W.mg_none_of X G z_sorted,
    n_str := PySem.W.mg_none_of X G z_str,
    n_tuple := PySem.W.mg_none_of X G z_tuple }
  exact ⟨PySem.W.fnOf "law" "law" (defArgs s_law) (defBody s_law) (defScope s_law) .none kV_law dc_law pm_law an_law cd_law ct_law, fun s v => .of_eq rfl, fun base _ _ => ok_law T⟩
end K21
open PySem PySem.W PyProof.Rows
set_option maxHeartbeats 0 in
theorem PySem.Challenge.cw_deedstand_k21_whole_meets_and_joins_holds : PySem.Challenge.rw_deedstand_k21_whole_meets_and_joins.Holds := by
  w_on; o_law; k_head; (case hw => w_witness2)
  k_fill
  refine L2.walk_of (l := PySem.Challenge.rw_deedstand_k21_whole_meets_and_joins) (n := 63) (k := 6) (x := "_law_script") (CX := fun _ => L2.CX0) (sp := fun w => K21.sp_law _) rfl (by decide) rfl ⟨rfl, by decide, by decide⟩ (fun w h Y => PySem.W.kIn_of Y) ?F (fun _ _ a ns hl _ hS => ⟨a, ns, rfl, hS, hl, fun _ => rfl⟩) (fun _ _ _ _ _ h => h)
  case F =>
    intro w mg fa h KX G hmg
    refine' K21.all_mk KX G hmg ?a_hops_of ?l_hops_of ?c_hops_of ?k_hops_of ?a_told_ahead ?l_told_ahead ?c_told_ahead ?k_told_ahead ?a_meet_of ?l_meet_of ?c_meet_of ?k_meet_of ?a_join_of ?l_join_of ?c_join_of ?k_join_of ?a_untold_stretch ?l_untold_stretch ?c_untold_stretch ?k_untold_stretch ?a_law_draws ?l_law_draws ?c_law_draws ?k_law_draws ?a_law_pick ?l_law_pick ?c_law_pick ?k_law_pick ?a_law_say ?l_law_say ?c_law_say ?k_law_say ?a_law_all ?l_law_all ?c_law_all ?k_law_all ?a_law_closed ?l_law_closed ?c_law_closed ?k_law_closed ?a_law_behind ?l_law_behind ?c_law_behind ?k_law_behind ?a_law_ahead ?l_law_ahead ?c_law_ahead ?k_law_ahead ?a_law_close ?l_law_close ?c_law_close ?k_law_close ?a_law_pair ?l_law_pair ?c_law_pair ?k_law_pair ?a_law_put ?l_law_put ?c_law_put ?k_law_put ?a_law_world ?l_law_world ?c_law_world ?k_law_world ?a_law_same ?l_law_same ?c_law_same ?k_law_same ?a_law_turned ?l_law_turned ?c_law_turned ?k_law_turned ?a_law_last_of_all ?l_law_last_of_all ?c_law_last_of_all ?k_law_last_of_all ?a_law_holds ?l_law_holds ?c_law_holds ?k_law_holds ?a_law_by_name ?l_law_by_name ?c_law_by_name ?k_law_by_name ?a_law_chosen ?l_law_chosen ?c_law_chosen ?k_law_chosen ?a_law ?l_law ?c_law ?k_law ?z_abs ?z_bool ?z_dict ?z_int ?z_isinstance ?z_len ?z_list ?z_max ?z_min ?z_range ?z_sorted ?z_str ?z_tuple
    (case a_hops_of => k_is)
    (case l_hops_of => k_is)
    (case c_hops_of => k_is)
    (case k_hops_of => k_is)
    (case a_told_ahead => k_is)
    (case l_told_ahead => k_is)
    (case c_told_ahead => k_is)
    (case k_told_ahead => k_is)
    (case a_meet_of => k_is)
    (case l_meet_of => k_is)
    (case c_meet_of => k_is)
    (case k_meet_of => k_is)
    (case a_join_of => k_is)
    (case l_join_of => k_is)
    (case c_join_of => k_is)
    (case k_join_of => k_is)
    (case a_untold_stretch => k_is)
    (case l_untold_stretch => k_is)
    (case c_untold_stretch => k_is)
    (case k_untold_stretch => k_is)
    (case a_law_draws => k_is)
    (case l_law_draws => k_is)
    (case c_law_draws => k_is)
    (case k_law_draws => k_is)
    (case a_law_pick => k_is)
    (case l_law_pick => k_is)
    (case c_law_pick => k_is)
    (case k_law_pick => k_is)
    (case a_law_say => k_is)
    (case l_law_say => k_is)
    (case c_law_say => k_is)
    (case k_law_say => k_is)
    (case a_law_all => k_is)
    (case l_law_all => k_is)
    (case c_law_all => k_is)
    (case k_law_all => k_is)
    (case a_law_closed => k_is)
    (case l_law_closed => k_is)
    (case c_law_closed => k_is)
    (case k_law_closed => k_is)
    (case a_law_behind => k_is)
    (case l_law_behind => k_is)
    (case c_law_behind => k_is)
    (case k_law_behind => k_is)
    (case a_law_ahead => k_is)
    (case l_law_ahead => k_is)
    (case c_law_ahead => k_is)
    (case k_law_ahead => k_is)
    (case a_law_close => k_is)
    (case l_law_close => k_is)
    (case c_law_close => k_is)
    (case k_law_close => k_is)
    (case a_law_pair => k_is)
    (case l_law_pair => k_is)
    (case c_law_pair => k_is)
    (case k_law_pair => k_is)
    (case a_law_put => k_is)
    (case l_law_put => k_is)
    (case c_law_put => k_is)
    (case k_law_put => k_is)
    (case a_law_world => k_is)
    (case l_law_world => k_is)
    (case c_law_world => k_is)
    (case k_law_world => k_is)
    (case a_law_same => k_is)
    (case l_law_same => k_is)
    (case c_law_same => k_is)
    (case k_law_same => k_is)
    (case a_law_turned => k_is)
    (case l_law_turned => k_is)
    (case c_law_turned => k_is)
    (case k_law_turned => k_is)
    (case a_law_last_of_all => k_is)
    (case l_law_last_of_all => k_is)
    (case c_law_last_of_all => k_is)
    (case k_law_last_of_all => k_is)
    (case a_law_holds => k_is)
    (case l_law_holds => k_is)
    (case c_law_holds => k_is)
    (case k_law_holds => k_is)
    (case a_law_by_name => k_is)
    (case l_law_by_name => k_is)
    (case c_law_by_name => k_is)
    (case k_law_by_name => k_is)
    (case a_law_chosen => k_is)
    (case l_law_chosen => k_is)
    (case c_law_chosen => k_is)
    (case k_law_chosen => k_is)
    (case a_law => k_is)
    (case l_law => k_is)
    (case c_law => k_is)
    (case k_law => k_is)
    (case z_abs => k_is)
    (case z_bool => k_is)
    (case z_dict => k_is)
    (case z_int => k_is)
    (case z_isinstance => k_is)
    (case z_len => k_is)
    (case z_list => k_is)
    (case z_max => k_is)
    (case z_min => k_is)
    (case z_range => k_is)
    (case z_sorted => k_is)
    (case z_str => k_is)
    (case z_tuple => k_is)