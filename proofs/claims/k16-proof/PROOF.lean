import PyProof.Rows.All
import Wide.All
import OpenK.AllK
import Wide.FinOn
import HandS.ForMost
import HandS.Walk
import KE.GoesEnum
import HandS.Exc
import HandS.ExcOwn
import HandS.ExcInit
import HandS.ExcField
import HandS.TryOnly
import HandS.WordsExc
import HandS.IsInst
import HandS.Wide
import HandS.TupAny
import HandS.Flow
import HandS.Evl
import HandS.Deep
import HandS.Conv
import HandS.WideBits
import HandS.NoneIn
import KE.DataMinMax
import HandS.SortRule
import KE.SortData
import HandS.Zip
import HandS.Rev
import PyProof.StrBlock2
import PySem.Challenge.RW_deedstand_k16_whole_places_led
set_option Elab.async false
set_option linter.all false
set_option maxRecDepth 100000
set_option maxHeartbeats 4000000
/-! enumerate over a tuple and over a text, one argument -/
namespace Dk
open PySem PySem.Spec PyProof.Rows L2
/-- the object that enumerate(v) makes -/
abbrev enObj (it : Addr) : Obj := { cls := .type "enumerate", data := .fields #[.none, .bool false, .ref it, rawInt 0, .none, .none] }
theorem enum_new1 {v : Value} {o : Obj} {G : Heap → Prop} (B : Begins v o G) :
    Meets (Builtin.«enumerate.__new__» ⟨[.type "enumerate", v], []⟩) fun _ R s =>
      G s.heap ∧ R (.ok (.ret (.ref (s.heap.push o).objs.size))) { s with heap := (s.heap.push o).push (enObj s.heap.objs.size) } := by
  refine .of_wp fun prog w A R s hh => ?_
  rcases s with ⟨hp, gs, dr, tk, os⟩
  obtain ⟨hG, hR⟩ := hh
  have hs := sub_enumerate
  have go : ∀ {A' : Around} {E : Value → Shared → Prop} {Q : Value → Shared → Prop},
      Q (.ref hp.objs.size) ⟨hp.push o, gs, dr, tk, os⟩ → wpAny (model prog w) A' (pyIter v) Q E ⟨hp, gs, dr, tk, os⟩ :=
    fun q => B.iter prog w _ _ ⟨hp, gs, dr, tk, os⟩ _ hG q
  wp_walk using go
  refine wpAny_stack_any fun st => ?_
  refine wpAny_pure ?_
  split
  · rename_i c _ _ _ _ _
    cases (c == Value.type "enumerate") <;> (wp_walk using go; exact ⟨_, rfl, hR⟩)
  · wp_walk using go
    exact ⟨_, rfl, hR⟩
section
variable {prog : Program} {w : World} {A : Around} {E : Value → Shared → Prop} {s : Shared}
theorem enum_call1 {v : Value} {o : Obj} {G : Heap → Prop} {Q : Value → Shared → Prop} (B : Begins v o G) (hG : G s.heap)
    (q : ∀ h', IsEnum h' (s.heap.objs.size + 1) s.heap.objs.size 0 .none → h'.get? s.heap.objs.size = some o →
      (∀ b u, s.heap.get? b = some u → h'.get? b = some u) → Q (.ref (s.heap.objs.size + 1)) { s with heap := h' }) :
    wpAny (model prog w) A (call (.type "enumerate") [v]) Q E s := by
  have sz : (s.heap.push o).objs.size = s.heap.objs.size + 1 := Heap.size_push ..
  have he : IsEnum ((s.heap.push o).push (enObj s.heap.objs.size)) (s.heap.objs.size + 1) s.heap.objs.size 0 .none := by
    have z := Heap.get?_push_size (s.heap.push o) (o := enObj s.heap.objs.size) rfl
    rw [sz] at z
    exact z
  refine callType_new F.called_enumerate (by decide) (F.typeCall_enumerate_1 _) (F.newCall_enumerate_1 _)
    (fun obj => F.args_object_init_2 obj _) F.entry_enumerate_new (enum_new1 B) ⟨hG, ?_⟩
  show _ ∧ _
  rw [sz]
  exact ⟨⟨_, he, rfl⟩, q _ he (Heap.get?_push_of_some _ (Heap.get?_push_size _ B.free))
    fun b u z => Heap.get?_push_of_some _ (Heap.get?_push_of_some _ z)⟩
end
/-- a new pair of the turn's number and f i -/
def ItE (G : Hp → Prop) (n : Nat) (Y : Nat → Hp → V → Prop) : It :=
  ⟨fun i H => G H ∧ i < n, fun i H v H' => ∃ T x, v = .ref T ∧ H T = none ∧ H' = upd H T (.tup [.int (i : Nat), x]) ∧ Y i H x, fun i H => G H ∧ i = n⟩
/-- what the source's own iterator does while the heap is so -/
structure Src (P : Program) (w : World) (K : PySem.W.Frag) (it : Addr) (G : Hp → Prop) (n : Nat) (Y : Nat → Hp → V → Prop) (Tn : Nat → Heap → Prop) : Prop where
  live : ∀ i h, Tn i h → ∃ o, h.get? it = some o ∧ ∀ v, o.data ≠ .cell v
  keep : ∀ i h h', Tn i h → (∀ o, h.get? it = some o → h'.get? it = some o) → Tn i h'
  draw : ∀ (X : Cx), X.prog = P → X.w = w → X.K = K → ∀ (pins : List (Addr × Obj)) (σ : L2.St) (H : Hp) (s : Shared) (i : Nat), Inv X pins σ H s → H it = none → G H → Tn i s.heap → X.A.handled = none →
    ∃ (fp : List Addr) (Pv : Nat → Value → Prop) (St' : Nat → Heap → Prop), Draws P w X.A.in1 it fp n Pv St' ∧ St' i s.heap ∧ (∀ e, H e = none → (∃ old j, IsEnum s.heap e it j old) → e ∉ fp) ∧
      (∀ j u, Pv j u → ∃ x, RelV x u ∧ Y j H x) ∧ ∀ j h, St' j h → Tn j h
theorem turn_E {P : Program} {w : World} {K : PySem.W.Frag} {elts : List Expr} {kk : Nat} {tpos : Pos} {e it : Addr} {G : Hp → Prop} {n : Nat} {Y : Nat → Hp → V → Prop} {Tn : Nat → Heap → Prop} (S : Src P w K it G n Y Tn) :
    Turn P w K (.Tuple elts kk tpos) (ItE G n Y) [e, it] e (fun i h => (∃ old, IsEnum h e it ((i : Nat) : Int) old) ∧ Tn i h ∧ e ≠ it) where
  mem := List.mem_cons_self ..
  obj := fun i h st b hb => by
    obtain ⟨⟨old, he⟩, hs, _⟩ := st
    rcases List.mem_cons.mp hb with z | z
    · subst z
      exact ⟨_, he, fun v q => nomatch q⟩
    · have z' := List.mem_singleton.mp z
      subst z'
      exact S.live i h hs
  keep := fun i h h' st k =>
    ⟨⟨st.1.choose, k e (List.mem_cons_self ..) _ st.1.choose_spec⟩, S.keep i h h' st.2.1 fun o q => k it (List.mem_cons_of_mem _ (List.mem_singleton.mpr rfl)) o q, st.2.2⟩
  item := by
    intro X hP hw hK hc i pins s σ H E I hf st hg
    obtain ⟨⟨old, he⟩, hs, hne⟩ := st
    have fe := hf e (by simp)
    have fi := hf it (by simp)
    obtain ⟨fp, Pv, St', D, hs', hef, hy, back⟩ := S.draw X hP hw hK pins σ H s i I fi.1 hg.1 hs (I.ok.hd hc)
    subst hP hw hK
    have hel : e < s.heap.objs.size := Heap.lt_size he
    obtain ⟨oi, hoi, _⟩ := S.live i _ hs
    have hil : it < s.heap.objs.size := Heap.lt_size hoi
    refine wpAny_pyNext_enum_itemC D he hs' hg.2 hne (hef e fe.1 ⟨_, _, he⟩) fun u h' tk hu ho hst hT hsz hk => ?_
    refine ⟨_, rfl, wpAny_letOwnedTupleGo_enum (s := { s with heap := h', toks := tk + 1 }) ho fun h2 he2 sb => ?_⟩
    obtain ⟨x, rx, yx⟩ := hy i u hu
    have hT2 : h2.get? s.heap.objs.size = some { cls := .type "tuple", data := .seq #[.int i tk, u] } := (sb.2 _ (Nat.ne_of_gt hel)).trans hT
    have new : ObjOk X.prog X.w (upd H s.heap.objs.size (.tup [.int (i : Nat), x])) h2 s.heap.objs.size (.tup [.int (i : Nat), x]) :=
      ⟨by show 2 ≤ sizeLine; decide, [.int i tk, u], .cons ⟨_, rfl⟩ (.cons rx .nil), _, hT2, rfl, _, rfl⟩
    have I1 : Inv X pins σ (upd H s.heap.objs.size (.tup [.int (i : Nat), x])) { s with heap := h2, toks := tk + 1 } := by
      refine I.turnedNew (ch := [e, it]) (fun b o hb q => ?_) hf (Nat.le_refl _) new
      have n1 : b ≠ e := fun z => hb (by simp [z])
      have n2 : b ≠ it := fun z => hb (by simp [z])
      exact (sb.2 b n1).trans (hk b o n1 n2 q)
    refine ⟨.ref s.heap.objs.size, _, I1, rfl, ⟨_, x, rfl, I.hok.fresh (Nat.le_refl _), rfl, yx⟩, ⟨⟨u, ?_⟩, ?_, hne⟩, fun b hb => ?_⟩
    · have e1 : ((i + 1 : Nat) : Int) = (i : Int) + 1 := by omega
      rw [e1]
      exact he2
    · exact S.keep _ _ _ (back _ _ hst) fun o q => (sb.2 it (Ne.symm hne)).trans q
    · have hb' : b < s.heap.objs.size := by
        rcases List.mem_cons.mp hb with z | z
        · exact z ▸ hel
        · exact (List.mem_singleton.mp z) ▸ hil
      rw [upd_ne (Nat.ne_of_lt hb')]
      exact (hf b hb).1
  done := by
    intro X hP hw hK hc i pins s σ H E I hf st hg
    obtain ⟨⟨old, he⟩, hs, hne⟩ := st
    obtain ⟨f0, f1, f2, f3, f4, f5⟩ := hf it (by simp)
    obtain ⟨fp, Pv, St', D, hs', hef, hy, back⟩ := S.draw X hP hw hK pins σ H s i I f0 hg.1 hs (I.ok.hd hc)
    subst hP hw hK
    rw [hg.2] at hs'
    exact wpAny_pyNext_enum_endD D he hs' fun h' eb => ⟨rfl, I.turned (t' := s.toks) (fun b o hb q => eb b o hb q) f0 f1 f3 f4 f5⟩
  self := fun A i s Q E st h => wpAny_pyIter_enum st.1.choose_spec h
theorem src_tup {P : Program} {w : World} {K : PySem.W.Frag} {a it : Addr} {xs : List V} :
    Src P w K it (fun H => SqT K H a xs) xs.length (fun i _ x => xs[i]? = some x) (fun i h => h.IsTupleIter it a i) where
  live := fun i h st => by
    obtain ⟨o, e, c, d⟩ := st
    exact ⟨o, e, fun v z => by rw [d] at z; cases z⟩
  keep := fun i h h' st k => st.at fun o e => k o e
  draw := by
    intro X hP hw hK pins σ H s i I hn hG st hh
    subst hP hw hK
    obtain ⟨its, rv, p, hz⟩ := I.tuple hG
    have pt : s.heap.IsTuple a its.toArray := p
    have hne : a ≠ it := by
      rintro rfl
      obtain ⟨o, e, c, _⟩ := pt
      obtain ⟨o', e', c', _⟩ := id st
      rw [e] at e'
      cases e'
      rw [c] at c'
      injection c' with q
      exact absurd q (by decide)
    have hl := rv.length
    refine ⟨[it, a], fun i v => its.toArray[i]? = some v, fun i h => h.IsTupleIter it a i ∧ h.IsTuple a its.toArray, ?_, ⟨st, pt⟩, fun e he hq => ?_, fun j u hu => ?_, fun j h z => z.1⟩
    · have D := Draws.tuple (prog := X.prog) (w := X.w) (A := X.A.in1) hh it a hne its.toArray
      rw [show its.toArray.size = xs.length by simp; omega] at D
      exact D
    · obtain ⟨old, j, hq⟩ := hq
      intro hm
      rcases List.mem_cons.mp hm with z | z
      · subst z
        obtain ⟨o, e', c, _⟩ := id st
        have hq' : s.heap.get? e = _ := hq
        rw [e'] at hq'
        cases hq'
        injection c with q
        exact absurd q (by decide)
      · have z' := List.mem_singleton.mp z
        subst z'
        obtain ⟨o, e', c, _⟩ := pt
        have hq' : s.heap.get? e = _ := hq
        rw [e'] at hq'
        cases hq'
        injection c with q
        exact absurd q (by decide)
    · have hu' : its[j]? = some u := by simpa using hu
      have hj : j < its.length := (List.getElem?_eq_some_iff.mp hu').1
      have hx : xs[j]? = some (xs[j]'(by omega)) := List.getElem?_eq_getElem (by omega)
      obtain ⟨u', h1, h2⟩ := rv.get hx
      rw [hu'] at h1
      cases h1
      exact ⟨_, h2, hx⟩
theorem src_str {P : Program} {w : World} {K : PySem.W.Frag} {it : Addr} {z : Str} {t : Tok} :
    Src P w K it (fun _ => True) z.cps.size (fun i _ x => ∃ c, z.cps[i]? = some c ∧ x = .str ⟨#[c]⟩) (fun i h => h.IsStrIter it (strIterType z) z t i) where
  live := fun i h st => by
    obtain ⟨o, e, c, d⟩ := st
    exact ⟨o, e, fun v z => by rw [d] at z; cases z⟩
  keep := fun i h h' st k => by
    obtain ⟨o, e, r⟩ := st
    exact ⟨o, k o e, r⟩
  draw := by
    intro X hP hw hK pins σ H s i I hn hG st hh
    subst hP hw hK
    refine ⟨[it], _, _, Draws.text (prog := X.prog) (w := X.w) (A := X.A.in1) hh it z t, st, fun e he hq hm => ?_, fun j u hu => ?_, fun j h z => z⟩
    · obtain ⟨old, j, hq⟩ := hq
      have z' := List.mem_singleton.mp hm
      subst z'
      obtain ⟨o, e', c, _⟩ := id st
      have hq' : s.heap.get? e = _ := hq
      rw [e'] at hq'
      cases hq'
      have c' : strIterType z = "enumerate" := by injection c with q; exact q.symm
      unfold strIterType at c'
      split at c' <;> exact absurd c' (by decide)
    · obtain ⟨c, u', h1, h2⟩ := hu
      exact ⟨.str ⟨#[c]⟩, ⟨u', h2⟩, c, h1, rfl⟩
def iEnumT (K : PySem.W.Frag) (ta : TA) : TI := fun σ H R => ta σ H fun vs H1 => ∃ a xs, vs = [.ref a] ∧ SqT K H1 a xs ∧ R (ItE (fun H => SqT K H a xs) xs.length fun i _ x => xs[i]? = some x) H1
def iEnumS (ta : TA) : TI := fun σ H R => ta σ H fun vs H1 => ∃ z, vs = [.str z] ∧ R (ItE (fun _ => True) z.cps.size fun i _ x => ∃ c, z.cps[i]? = some c ∧ x = .str ⟨#[c]⟩) H1
section
variable {X : Cx} {e : Expr} {ta : TA} {p pos tpos : Pos} {elts : List Expr} {kk : Nat}
theorem pi_enumT (hg : Gl X "enumerate") (hm : X.mg "enumerate" = none) (ha : PA X [e] ta) (hs : starEach [e] X.env = [(false, eval e X.env)] := by rfl) :
    PI X (.Tuple elts kk tpos) (.Call (.Name "enumerate" p) [e] [] pos) (iEnumT X.K ta) := by
  refine ⟨fun pins s σ H R I h => Call_ (ld_blt I hg hm boot_enumerate (PyProof.Rows.callWith_type1 (thn (ha.run pos pins s σ H _ I h) fun us s1 hh => ?_) hs rfl))⟩
  obtain ⟨vs, H1, I1, r1, a, xs, rfl, hq, q⟩ := hh
  obtain ⟨u, rfl, rx⟩ := vals1 r1
  cases rx
  obtain ⟨its, rv, pt, hz⟩ := I1.tuple hq
  refine enum_call1 (begins_tuple a its.toArray) pt fun h' he hit hk => wpAny_pyIter_enum he ?_
  have I2 : Inv X pins σ H1 { s1 with heap := h' } := I1.kept (t' := s1.toks) hk
  refine ⟨s1.heap.objs.size + 1, [s1.heap.objs.size + 1, s1.heap.objs.size], _, _, H1, rfl, I2, turn_E src_tup, ⟨⟨.none, he⟩, ⟨_, hit, rfl, rfl⟩, Nat.succ_ne_self _⟩, fun b hb => ?_, q⟩
  have hle : s1.heap.objs.size ≤ b := by
    rcases List.mem_cons.mp hb with z | z
    · exact z ▸ Nat.le_add_right _ _
    · exact (List.mem_singleton.mp z) ▸ Nat.le_refl _
  exact I1.fpOk hle (I1.hok.fresh hle)
theorem pi_enumS (hg : Gl X "enumerate") (hm : X.mg "enumerate" = none) (ha : PA X [e] ta) (hs : starEach [e] X.env = [(false, eval e X.env)] := by rfl) :
    PI X (.Tuple elts kk tpos) (.Call (.Name "enumerate" p) [e] [] pos) (iEnumS ta) := by
  refine ⟨fun pins s σ H R I h => Call_ (ld_blt I hg hm boot_enumerate (PyProof.Rows.callWith_type1 (thn (ha.run pos pins s σ H _ I h) fun us s1 hh => ?_) hs rfl))⟩
  obtain ⟨vs, H1, I1, r1, z, rfl, q⟩ := hh
  obtain ⟨u, rfl, rx⟩ := vals1 r1
  obtain ⟨t, rfl⟩ := rx
  refine enum_call1 (begins_text z t) trivial fun h' he hit hk => wpAny_pyIter_enum he ?_
  have I2 : Inv X pins σ H1 { s1 with heap := h' } := I1.kept (t' := s1.toks) hk
  refine ⟨s1.heap.objs.size + 1, [s1.heap.objs.size + 1, s1.heap.objs.size], _, _, H1, rfl, I2, turn_E src_str, ⟨⟨.none, he⟩, ⟨_, hit, rfl, rfl⟩, Nat.succ_ne_self _⟩, fun b hb => ?_, q⟩
  have hle : s1.heap.objs.size ≤ b := by
    rcases List.mem_cons.mp hb with z | z
    · exact z ▸ Nat.le_add_right _ _
    · exact (List.mem_singleton.mp z) ▸ Nat.le_refl _
  exact I1.fpOk hle (I1.hok.fresh hle)
end
end Dk
/-! the layer: what grows, steps of readings -/
namespace Dk
open PySem PySem.Spec PyProof.Rows L2

/-! ### what is known grows -/
abbrev A0 : Addr → Prop := fun _ => False
abbrev Ex := Same
/-- G: what is known for good; H: the heap; A: what may change -/
structure Gr (A : Addr → Prop) (G H G' H' : Hp) : Prop where
  gg : Ex G G'
  gh : Ex G' H'
  hh : ∀ b o, ¬ A b → H b = some o → H' b = some o
  th : ∀ b o, H b = some o → ∃ o', H' b = some o'
  nw : ∀ b o, H b = some o → G b = none → G' b = none
section
variable {A : Addr → Prop} {G H G1 H1 G2 H2 : Hp} {p q m : Addr} {o o' u : HO}
theorem Gr.refl (g : Ex G H) : Gr A G H G H := ⟨Same.refl G, g, fun _ _ _ h => h, fun _ o h => ⟨o, h⟩, fun _ _ _ h => h⟩
theorem Gr.trans (a : Gr A G H G1 H1) (b : Gr A G1 H1 G2 H2) : Gr A G H G2 H2 :=
  ⟨a.gg.trans b.gg, b.gh, fun x o n h => b.hh x o n (a.hh x o n h), fun x o h => by
    obtain ⟨o1, h1⟩ := a.th x o h
    exact b.th x o1 h1, fun x o h n => by
    obtain ⟨o1, h1⟩ := a.th x o h
    exact b.nw x o1 h1 (a.nw x o h n)⟩
theorem Gr.wide {B : Addr → Prop} (a : Gr A G H G1 H1) (h : ∀ x, A x → B x) : Gr B G H G1 H1 :=
  ⟨a.gg, a.gh, fun x o n => a.hh x o fun z => n (h x z), a.th, a.nw⟩
theorem Gr.of0 (a : Gr A0 G H G1 H1) : Gr A G H G1 H1 := a.wide fun _ z => z.elim
theorem Gr.same (a : Gr A0 G H G1 H1) : Ex H H1 := fun b o h => a.hh b o (fun z => z) h
/-- a new object, known for good -/
theorem Gr.new (g : Ex G H) (hp : H p = none) : Gr A G H (upd G p o) (upd H p o) where
  gg := fun b x e => by
    rw [upd_ne (ne_of_none e (g.free hp))]
    exact e
  gh := fun b x e => by
    by_cases hb : b = p
    · subst hb
      rw [upd_same] at e ⊢
      exact e
    · rw [upd_ne hb] at e ⊢
      exact g b x e
  hh := fun b x _ e => by
    rw [upd_ne (ne_of_none e hp)]
    exact e
  th := fun b x e => ⟨x, by
    rw [upd_ne (ne_of_none e hp)]
    exact e⟩
  nw := fun b x e n => by
    rw [upd_ne (ne_of_none e hp)]
    exact n
/-- a new object of our own -/
theorem Gr.own (g : Ex G H) (hp : H p = none) : Gr A G H G (upd H p o) where
  gg := Same.refl G
  gh := fun b x e => by
    rw [upd_ne (ne_of_none e (g.free hp))]
    exact g b x e
  hh := fun b x _ e => by
    rw [upd_ne (ne_of_none e hp)]
    exact e
  th := fun b x e => ⟨x, by
    rw [upd_ne (ne_of_none e hp)]
    exact e⟩
  nw := fun b x e n => n
/-- an object of our own is written -/
theorem Gr.mut (t : Gr A G H G1 H1) (h0 : A p ∨ H p = none) (hp : G1 p = none) : Gr A G H G1 (upd H1 p o) where
  gg := t.gg
  gh := fun b x e => by
    rw [upd_ne (ne_of_none e hp)]
    exact t.gh b x e
  hh := fun b x n e => by
    have hb : b ≠ p := fun z => by
      subst z
      rcases h0 with h0 | h0
      · exact n h0
      · rw [h0] at e
        cases e
    rw [upd_ne hb]
    exact t.hh b x n e
  th := fun b x e => by
    by_cases hb : b = p
    · exact ⟨o, by rw [hb, upd_same]⟩
    · rw [upd_ne hb]
      exact t.th b x e
  nw := t.nw
/-- an object of our own is known for good from here on -/
theorem Gr.give (t : Gr A G H G1 H1) (h0 : H p = none) (hp : H1 p = some o) (hn : G1 p = none) : Gr A G H (upd G1 p o) H1 where
  gg := fun b x e => by
    have z := t.gg b x e
    rw [upd_ne (ne_of_none z hn)]
    exact z
  gh := fun b x e => by
    by_cases hb : b = p
    · subst hb
      rw [upd_same] at e
      cases e
      exact hp
    · rw [upd_ne hb] at e
      exact t.gh b x e
  hh := t.hh
  th := t.th
  nw := fun b x e n => by
    have hb : b ≠ p := ne_of_none e h0
    rw [upd_ne hb]
    exact t.nw b x e n
theorem Gr.g0 (t : Gr A G H G1 H1) : Ex G H1 := t.gg.trans t.gh
theorem ne_g (h : G p = some o) (n : G q = none) : p ≠ q := ne_of_none h n
end

/-! ### what is read at an address -/
theorem SqL.up {K : PySem.W.Frag} {G G' : Hp} {a : Addr} {xs : List V} (e : Ex G G') (h : SqL K G a xs) : SqL K G' a xs := e.seq h
theorem SqT.up {K : PySem.W.Frag} {G G' : Hp} {a : Addr} {xs : List V} (e : Ex G G') (h : SqT K G a xs) : SqT K G' a xs := by
  rcases h with (h | ⟨o, h⟩) | h
  · exact .inl (.inl (e _ _ h))
  · exact .inl (.inr ⟨o, e _ _ h⟩)
  · exact .inr h
theorem sqL {K : PySem.W.Frag} {H : Hp} {a : Addr} {xs : List V} (h : H a = some (.lst xs)) : SqL K H a xs := .inl (.inl h)
theorem sqT {K : PySem.W.Frag} {H : Hp} {a : Addr} {xs : List V} (h : H a = some (.tup xs)) : SqT K H a xs := .inl (.inl h)

/-! ### unions of rules -/
def rStr2 : R2 := fun x y H Q => ∃ i j, x = .str i ∧ y = .str j ∧ i.length + j.length ≤ sizeLine ∧ Q (.str (i ++ j)) H
def rAddU (K : PySem.W.Frag) : R2 := fun x y H Q => rI0 (fun i j => .int (i + j)) x y H Q ∨ (rStr2 x y H Q ∨ (rCat x y H Q ∨ rCatA K x y H Q))
def rInS1 : R2 := fun x y H Q => ∃ (c : Nat) (z : Str), x = .str ⟨#[c]⟩ ∧ y = .str z ∧ Q (.bl (decide (c ∈ z.cps.toList))) H
def rNotInS1 : R2 := fun x y H Q => ∃ (c : Nat) (z : Str), x = .str ⟨#[c]⟩ ∧ y = .str z ∧ Q (.bl (!decide (c ∈ z.cps.toList))) H
def rInU (K : PySem.W.Frag) : R2 := fun x y H Q => rInS1 x y H Q ∨ rIn K false x y H Q
def rNotInU (K : PySem.W.Frag) : R2 := fun x y H Q => rNotInS1 x y H Q ∨ rIn K true x y H Q
def rEqU (K : PySem.W.Frag) : R2 := fun x y H Q => rEq x y H Q ∨ rEqD K x y H Q
def rNeU (K : PySem.W.Frag) : R2 := fun x y H Q => rNe x y H Q ∨ rNeD K x y H Q
def rSlU (K : PySem.W.Frag) : V → Option Int → Option Int → Hp → VK → Prop := fun x lo hi H Q => rSlS x lo hi H Q ∨ (rSlL K x lo hi H Q ∨ rSlA K x lo hi H Q)
def rLenU (K : PySem.W.Frag) : List V → Hp → VK → Prop := fun xs H Q => ∃ x n, xs = [x] ∧ LenV K x H n ∧ Q (.int (n : Nat)) H
def rInt1 : List V → Hp → VK → Prop := fun xs H Q => (∃ i, xs = [.int i] ∧ Q (.int i) H) ∨ ∃ k, xs = [.bl k] ∧ Q (.int (if k then 1 else 0)) H
def rMax : List V → Hp → VK → Prop := fun xs H Q => ∃ i j, xs = [.int i, .int j] ∧ Q (.int (if j > i then j else i)) H
def rMin : List V → Hp → VK → Prop := fun xs H Q => ∃ i j, xs = [.int i, .int j] ∧ Q (.int (if j < i then j else i)) H
def rListU (K : PySem.W.Frag) : List V → Hp → VK → Prop := fun xs H Q => ∃ p ys, xs = [.ref p] ∧ (SqL K H p ys ∨ SqT K H p ys) ∧ ∀ l, H l = none → Q (.ref l) (upd H l (.lst ys))
def rTupU (K : PySem.W.Frag) : List V → Hp → VK → Prop := fun xs H Q => ∃ p ys, xs = [.ref p] ∧ ((SqL K H p ys ∧ ∀ l, H l = none → Q (.ref l) (upd H l (.tup ys))) ∨ (SqT K H p ys ∧ Q (.ref p) H))
def rJoin (K : PySem.W.Frag) : V → List V → Hp → VK → Prop := fun x xs H Q => ∃ a p, ∃ ys : List Str, x = .str a ∧ xs = [.ref p] ∧ (SqL K H p (ys.map V.str) ∨ SqT K H p (ys.map V.str)) ∧
  (ys.map (·.length)).sum + ys.length * a.length ≤ 16777216 ∧ Q (.str (Txt.join a ys)) H
def rIsN1 : R2 := fun x y H Q => y = .non ∧ Q (.bl (decide (x = .non))) H
def rNotN1 : R2 := fun x y H Q => y = .non ∧ Q (.bl (!decide (x = .non))) H
def rDivW : R2 := rI CDivW fun i j => .int (i / j)
def rModP : R2 := rI (fun _ j => 0 < j) fun i j => .int (i % j)
def rMulW : R2 := rI CMulW fun i j => .int (i * j)
section
variable {X : Cx}
theorem op_addU : OpR X (binaryOp .Add) (rAddU X.K) := op_add.or (op_add_str.or (op_cat.or op_catA))
theorem op_inU : OpR X (compareOp .In) (rInU X.K) := op_in_sign.or op_in_seq
theorem op_notInU : OpR X (compareOp .NotIn) (rNotInU X.K) := op_notIn_sign.or op_notIn_seq
theorem op_eqU (hu : X.A.units + 64 < cLine) : OpR X (compareOp .Eq) (rEqU X.K) := op_eq.or (op_eqD hu)
theorem op_neU (hu : X.A.units + 64 < cLine) : OpR X (compareOp .NotEq) (rNeU X.K) := op_ne.or (op_neD hu)
theorem sl_U : SlR X (rSlU X.K) := sl_str.or (sl_list.or sl_tupA)
theorem call_lenU : CallR X (.builtin "len") (rLenU X.K) := call_len
theorem call_intU : CallR X (.type "int") rInt1 := call_int1
theorem call_maxU (hc : X.calm = true) : CallR X (.builtin "max") rMax := call_max2 hc
theorem call_minU (hc : X.calm = true) : CallR X (.builtin "min") rMin := call_min2 hc
theorem call_listU : CallR X (.type "list") (rListU X.K) := call_list_of
theorem call_tupU : CallR X (.type "tuple") (rTupU X.K) := call_tuple_of
theorem op_isU : OpR X (compareOp .Is) rIsN1 := op_isN
theorem op_isnotU : OpR X (compareOp .IsNot) rNotN1 := op_notN
theorem op_divW : OpR X (binaryOp .FloorDiv) rDivW := op_fdivW
theorem op_modP : OpR X (binaryOp .Mod) rModP := op_mod
theorem op_mulWW : OpR X (binaryOp .Mult) rMulW := op_mulW
end

/-! within a comprehension -/
section
variable {X : Cx} {K : PySem.W.Frag}
theorem k_add (h : X.K = K) : OpR X (binaryOp .Add) (rAddU K) := h ▸ op_addU
theorem k_in (h : X.K = K) : OpR X (compareOp .In) (rInU K) := h ▸ op_inU
theorem k_notIn (h : X.K = K) : OpR X (compareOp .NotIn) (rNotInU K) := h ▸ op_notInU
theorem k_ix (h : X.K = K) : IxR X (rIx K) := h ▸ ix_seq
theorem k_sl (h : X.K = K) : SlR X (rSlU K) := h ▸ sl_U
theorem k_len (h : X.K = K) : CallR X (.builtin "len") (rLenU K) := h ▸ call_lenU
theorem k_list (h : X.K = K) : CallR X (.type "list") (rListU K) := h ▸ call_listU
theorem k_tup (h : X.K = K) : CallR X (.type "tuple") (rTupU K) := h ▸ call_tupU
theorem k_isi (h : X.K = K) : CallR X (.builtin "isinstance") (rIsi K) := h ▸ call_isi
end
/-! ### steps -/
section
variable {K : PySem.W.Frag} {σ : L2.St} {H H' : Hp} {Q : VK} {v x y : V} {ta tb te : TE} {i j : Int} {D : Ends} {t u : TS} {tt tu : TT} {QB : Bool → Hp → Prop} {ar : TA} {QL : List V → Hp → Prop}
theorem r_var {n : Nat} (h : σ[n]? = some (some v)) (q : Q v H) : tVar n σ H Q := ⟨v, h, q⟩
theorem r_c (q : Q v H) : tC v σ H Q := q
theorem r_op {r : R2} (h : ta σ H fun x H1 => tb σ H1 fun y H2 => r x y H2 Q) : tOp r ta tb σ H Q := h
theorem r_un {r : V → Hp → VK → Prop} (h : ta σ H fun x H1 => r x H1 Q) : tUn r ta σ H Q := h
theorem r_I0 {g : Int → Int → V} (q : Q (g i j) H) : rI0 g (.int i) (.int j) H Q := ⟨i, j, rfl, rfl, q⟩
theorem r_I {C : Int → Int → Prop} {g : Int → Int → V} (c : C i j) (q : Q (g i j) H) : rI C g (.int i) (.int j) H Q := ⟨i, j, rfl, rfl, c, q⟩
theorem r_mulW (c : CMulW i j) (q : Q (.int (i * j)) H) : rMulW (.int i) (.int j) H Q := ⟨i, j, rfl, rfl, c, q⟩
theorem r_divW (c : CDivW i j) (q : Q (.int (i / j)) H) : rDivW (.int i) (.int j) H Q := ⟨i, j, rfl, rfl, c, q⟩
theorem r_modP (c : 0 < j) (q : Q (.int (i % j)) H) : rModP (.int i) (.int j) H Q := ⟨i, j, rfl, rfl, c, q⟩
theorem r_U {g : Int → V} (q : Q (g i) H) : rU g (.int i) H Q := ⟨i, rfl, q⟩
theorem r_addI (q : Q (.int (i + j)) H) : rAddU K (.int i) (.int j) H Q := .inl ⟨i, j, rfl, rfl, q⟩
theorem r_addS {a b : Str} (h : a.length + b.length ≤ sizeLine) (q : Q (.str (a ++ b)) H) : rAddU K (.str a) (.str b) H Q := .inr (.inl ⟨a, b, rfl, rfl, h, q⟩)
theorem r_addL {p q : Addr} {xs ys : List V} (hp : H p = some (.lst xs)) (hq : H q = some (.lst ys)) (hz : xs.length + ys.length ≤ sizeLine) (k : ∀ l, H l = none → Q (.ref l) (upd H l (.lst (xs ++ ys)))) : rAddU K (.ref p) (.ref q) H Q :=
  .inr (.inr (.inl ⟨p, q, xs, ys, rfl, rfl, hp, hq, hz, k⟩))
theorem r_sub (q : Q (.int (i - j)) H) : rI0 (fun i j => .int (i - j)) (.int i) (.int j) H Q := ⟨i, j, rfl, rfl, q⟩
theorem r_inS {c : Nat} {z : Str} (q : Q (.bl (decide (c ∈ z.cps.toList))) H) : rInU K (.str ⟨#[c]⟩) (.str z) H Q := .inl ⟨c, z, rfl, rfl, q⟩
theorem r_niS {c : Nat} {z : Str} (q : Q (.bl (!decide (c ∈ z.cps.toList))) H) : rNotInU K (.str ⟨#[c]⟩) (.str z) H Q := .inl ⟨c, z, rfl, rfl, q⟩
theorem r_eq (h : scal x y = true) (q : Q (.bl (decide (x = y))) H) : rEqU K x y H Q := .inl ⟨h, q⟩
theorem r_ne (h : scal x y = true) (q : Q (.bl (!decide (x = y))) H) : rNeU K x y H Q := .inl ⟨h, q⟩
theorem r_isN (q : Q (.bl (decide (x = .non))) H) : rIsN1 x .non H Q := ⟨rfl, q⟩
theorem r_notN (q : Q (.bl (!decide (x = .non))) H) : rNotN1 x .non H Q := ⟨rfl, q⟩
theorem r_ixL {p : Addr} {xs : List V} (h : SqL K H p xs) (a : atI xs i = some v) (q : Q v H) : rIx K (.ref p) (.int i) H Q := .inl ⟨p, xs, i, v, rfl, rfl, h, a, q⟩
theorem r_ixT {p : Addr} {xs : List V} (h : SqT K H p xs) (a : atI xs i = some v) (q : Q v H) : rIx K (.ref p) (.int i) H Q := .inr (.inl ⟨p, xs, i, v, rfl, rfl, h, a, q⟩)
theorem r_ixS {z : Str} {c : Nat} (h : z.length ≤ sizeLine) (a : atI z.cps.toList i = some c) (q : Q (.str ⟨#[c]⟩) H) : rIx K (.str z) (.int i) H Q := .inr (.inr ⟨z, i, c, rfl, rfl, h, a, q⟩)
theorem r_slS {z : Str} {lo hi : Option Int} (h : z.length ≤ sizeLine) (q : Q (.str (cutS z lo hi)) H) : rSlU K (.str z) lo hi H Q := .inl ⟨z, rfl, h, q⟩
theorem r_slL {p : Addr} {xs : List V} {lo hi : Option Int} (h : SqL K H p xs) (q : ∀ l, H l = none → Q (.ref l) (upd H l (.lst (cutV xs lo hi)))) : rSlU K (.ref p) lo hi H Q := .inr (.inl ⟨p, xs, rfl, h, q⟩)
theorem r_lenS {z : Str} (h : z.length ≤ sizeLine) (q : Q (.int (z.length : Nat)) H) : rLenU K [.str z] H Q := ⟨_, _, rfl, ⟨h, rfl⟩, q⟩
theorem r_lenL {p : Addr} {xs : List V} (h : SqL K H p xs) (q : Q (.int (xs.length : Nat)) H) : rLenU K [.ref p] H Q := ⟨_, _, rfl, .inl ⟨xs, h, rfl⟩, q⟩
theorem r_lenT {p : Addr} {xs : List V} (h : SqT K H p xs) (q : Q (.int (xs.length : Nat)) H) : rLenU K [.ref p] H Q := ⟨_, _, rfl, .inr ⟨xs, h, rfl⟩, q⟩
theorem r_int (q : Q (.int i) H) : rInt1 [.int i] H Q := .inl ⟨i, rfl, q⟩
theorem r_max (q : Q (.int (max i j)) H) : rMax [.int i, .int j] H Q := ⟨i, j, rfl, by
  have e : (if j > i then j else i) = max i j := by omega
  rw [e]
  exact q⟩
theorem r_min (q : Q (.int (min i j)) H) : rMin [.int i, .int j] H Q := ⟨i, j, rfl, by
  have e : (if j < i then j else i) = min i j := by omega
  rw [e]
  exact q⟩
theorem r_listL {p : Addr} {xs : List V} (h : SqL K H p xs) (q : ∀ l, H l = none → Q (.ref l) (upd H l (.lst xs))) : rListU K [.ref p] H Q := ⟨p, xs, rfl, .inl h, q⟩
theorem r_listT {p : Addr} {xs : List V} (h : SqT K H p xs) (q : ∀ l, H l = none → Q (.ref l) (upd H l (.lst xs))) : rListU K [.ref p] H Q := ⟨p, xs, rfl, .inr h, q⟩
theorem r_tupL {p : Addr} {xs : List V} (h : SqL K H p xs) (q : ∀ l, H l = none → Q (.ref l) (upd H l (.tup xs))) : rTupU K [.ref p] H Q := ⟨p, xs, rfl, .inl ⟨h, q⟩⟩
theorem r_tupT {p : Addr} {xs : List V} (h : SqT K H p xs) (q : Q (.ref p) H) : rTupU K [.ref p] H Q := ⟨p, xs, rfl, .inr ⟨h, q⟩⟩
theorem r_isi {n a : String} {b : Bool} (ty : TyX K H x (.type a)) (e : kitB a n = some b) (q : Q (.bl b) H) : rIsi K [x, .ty n] H Q := ⟨x, .ty n, .type a, .type n, b, rfl, .ty n, ty, kit_ty e, q⟩
theorem r_nil (q : QL [] H) : tNil σ H QL := q
theorem r_cons (h : ta σ H fun x H1 => ar σ H1 fun xs H2 => QL (x :: xs) H2) : tCons ta ar σ H QL := h
theorem r_tup (h : ar σ H fun xs H1 => xs.length ≤ sizeLine ∧ ∀ p, H1 p = none → Q (.ref p) (upd H1 p (.tup xs))) : tTup ar σ H Q := h
theorem r_lst (h : ar σ H fun xs H1 => xs.length ≤ sizeLine ∧ ∀ p, H1 p = none → Q (.ref p) (upd H1 p (.lst xs))) : tLst ar σ H Q := h
theorem r_small {xs : List V} {P : Prop} (h : xs.length ≤ 1000) (k : P) : xs.length ≤ sizeLine ∧ P := ⟨Nat.le_of_lt (small1000 h), k⟩
theorem r_CB {r : List V → Hp → VK → Prop} (h : ar σ H fun vs H1 => r vs H1 Q) : tCB r ar σ H Q := h
theorem r_call {sp : Sp} {dvs : List V} {E : XK} (h : ar σ H fun vs H1 => sp (vs ++ dvs) H1 Q E) : tCall sp dvs E ar σ H Q := h
theorem r_callS {sp : Sp} {E : L2.St → XK} (h : ar σ H fun vs H1 => sp vs H1 Q (E σ)) : tCallS sp E ar σ H Q := h
theorem r_bl {b : Bool} (q : QB b H) : ∃ k, V.bl b = .bl k ∧ QB k H := ⟨b, rfl, q⟩
theorem r_test (h : te σ H fun x H1 => ∃ k, x = .bl k ∧ QB k H1) : tTest te σ H QB := h
theorem r_B (h : te σ H fun x H1 => ∃ k, x = .bl k ∧ QB k H1) : tB te σ H QB := h
theorem r_and (h : tt σ H fun c H1 => if c = true then tu σ H1 QB else QB false H1) : tAnd tt tu σ H QB := h
theorem r_andB {b1 b2 : Bool} (h1 : ∀ QB : Bool → Hp → Prop, QB b1 H → tt σ H QB) (h2 : b1 = true → ∀ QB : Bool → Hp → Prop, QB b2 H → tu σ H QB) (k : QB (b1 && b2) H) : tAnd tt tu σ H QB := by
  refine h1 _ ?_
  cases b1 with
  | true => exact h2 rfl _ k
  | false => exact k
theorem r_orB {b1 b2 : Bool} (h1 : ∀ QB : Bool → Hp → Prop, QB b1 H → tt σ H QB) (h2 : b1 = false → ∀ QB : Bool → Hp → Prop, QB b2 H → tu σ H QB) (k : QB (b1 || b2) H) : tOr tt tu σ H QB := by
  refine h1 _ ?_
  cases b1 with
  | true => exact k
  | false => exact h2 rfl _ k
theorem r_or (h : tt σ H fun c H1 => if c = true then QB true H1 else tu σ H1 QB) : tOr tt tu σ H QB := h
theorem r_not (h : tt σ H fun c H1 => QB (!c) H1) : tNot tt σ H QB := h
theorem r_andV (h : ta σ H fun x H1 => ∃ c, x = .bl c ∧ if c = true then tb σ H1 Q else Q (.bl false) H1) : tAndV ta tb σ H Q := h
theorem r_orV (h : ta σ H fun x H1 => ∃ c, x = .bl c ∧ if c = true then Q (.bl true) H1 else tb σ H1 Q) : tOrV ta tb σ H Q := h
theorem r_notV (h : ta σ H fun x H1 => ∃ c, x = .bl c ∧ Q (.bl (!c)) H1) : tNotV ta σ H Q := h
theorem r_ifE (h : tt σ H fun c H1 => if c = true then ta σ H1 Q else tb σ H1 Q) : tIf tt ta tb σ H Q := h
theorem r_blv {b : Bool} {P : Bool → Prop} (q : P b) : ∃ c, V.bl b = .bl c ∧ P c := ⟨b, rfl, q⟩
theorem r_sl {r : V → Option Int → Option Int → Hp → VK → Prop} {tl th : TO} (h : te σ H fun x H1 => tl σ H1 fun l H2 => th σ H2 fun u H3 => r x l u H3 Q) : tSl r te tl th σ H Q := h
theorem r_seq (h : t { D with nx := u D } σ H) : tSeq t u D σ H := h
theorem r_next (q : D.nx σ H) : tNext D σ H := q
theorem r_asg {g : TG} (h : te σ H fun x H1 => g x σ H1 D.nx) : tAsg te g D σ H := h
theorem r_gname {n : Nat} {N : L2.St → Hp → Prop} (q : N (σ.set n (some v)) H) : gName n v σ H N := q
theorem r_ret (h : te σ H D.rt) : tRet te D σ H := h
theorem r_retN (h : D.rt .non H) : tRetN D σ H := h
theorem r_drop (h : te σ H fun _ H1 => D.nx σ H1) : tDrop te D σ H := h
theorem r_ifS (h : tt σ H fun b H1 => if b = true then t D σ H1 else u D σ H1) : tIfS tt t u D σ H := h
theorem r_app {p : Addr} {xs : List V} (h : H p = some (.lst xs)) (z : xs.length < sizeLine) (q : Q .non (upd H p (.lst (xs ++ [v])))) : rAppend (.ref p) [v] H Q := ⟨p, xs, v, rfl, rfl, h, z, q⟩
theorem r_bm {T : String} {r : V → List V → Hp → VK → Prop} (h : te σ H fun x H1 => tyV K T x H1 ∧ ar σ H1 fun xs H2 => r x xs H2 Q) : tBM K T r te ar σ H Q := h
theorem r_tyL {p : Addr} {xs : List V} {P : Prop} (h : SqL K H p xs) (k : P) : tyV K "list" (.ref p) H ∧ P := ⟨.inl ⟨rfl, xs, h⟩, k⟩
theorem r_setL {p : Addr} {xs : List V} {n : Nat} {N : Hp → Prop} (h : H p = some (.lst xs)) (a : ixN xs.length i = some n) (q : N (upd H p (.lst (xs.set n v)))) : rSetL (.ref p) (.int i) v H N := ⟨p, xs, i, n, rfl, rfl, h, a, q⟩
theorem r_gsub {ti : TE} {to : TE} {ts : TSet} {N : L2.St → Hp → Prop} (h : to σ H fun o H1 => ti σ H1 fun i H2 => ts o i v H2 fun H3 => N σ H3) : gSub to ti ts v σ H N := h
theorem r_ite {c A B : Prop} [Decidable c] (h1 : c → A) (h2 : ¬ c → B) : if decide c = true then A else B := by
  by_cases h : c
  · rw [if_pos (decide_eq_true h)]
    exact h1 h
  · rw [if_neg (by rw [decide_eq_false h]; decide)]
    exact h2 h
theorem r_iteN {c A B : Prop} [Decidable c] (h1 : ¬ c → A) (h2 : c → B) : if (!decide c) = true then A else B := by
  by_cases h : c
  · rw [if_neg (by rw [decide_eq_true h]; decide)]
    exact h2 h
  · rw [if_pos (by rw [decide_eq_false h]; rfl)]
    exact h1 h
theorem r_iteB {b : Bool} {A B : Prop} (h1 : b = true → A) (h2 : b = false → B) : if b = true then A else B := by
  cases b with
  | true => exact h1 rfl
  | false => exact h2 rfl
theorem r_itt {A B : Prop} (h : A) : if true = true then A else B := by
  rw [if_pos rfl]
  exact h
theorem r_iff {A B : Prop} (h : B) : if false = true then A else B := by
  rw [if_neg Bool.false_ne_true]
  exact h
theorem r_ittD {b : Bool} {A B : Prop} (e : b = true) (h : A) : if b = true then A else B := by
  rw [if_pos e]
  exact h
theorem r_iffD {b : Bool} {A B : Prop} (e : b = false) (h : B) : if b = true then A else B := by
  rw [e]
  exact r_iff h
theorem r_ittN {A B : Prop} (h : A) : if (!false) = true then A else B := r_itt h
theorem r_iffN {A B : Prop} (h : B) : if (!true) = true then A else B := r_iff h
end

/-! ### growth, further -/
section
variable {A : Addr → Prop} {G H G1 H1 G2 H2 : Hp} {p q m : Addr} {o o' u : HO} {K : PySem.W.Frag} {xs : List V} {Q : VK}
theorem Gr.ex (g : Ex G H) (e : Ex H H1) : Gr A G H G H1 := ⟨Same.refl G, g.trans e, fun b o _ h => e b o h, fun b o h => ⟨o, e b o h⟩, fun _ _ _ n => n⟩
/-- a step of one that leaves everything as it was -/
theorem Gr.then (t : Gr A G H G1 H1) (e : Ex H1 H2) : Gr A G H G1 H2 := t.trans (.ex t.gh e)
theorem Gr.none_of (t : Gr A G H G1 H1) (h : H p = some o) (n : G p = none) : G1 p = none := t.nw p o h n
/-- a new tuple, known for good -/
theorem a_tup (g : Ex G H) (hl : xs.length ≤ 1000) (k : ∀ p G' H', Gr A0 G H G' H' → G' p = some (.tup xs) → H p = none → Q (.ref p) H') :
    xs.length ≤ sizeLine ∧ ∀ p, H p = none → Q (.ref p) (upd H p (.tup xs)) :=
  ⟨Nat.le_of_lt (small1000 hl), fun p hp => k p _ _ (Gr.new g hp) upd_same hp⟩
theorem a_lst (g : Ex G H) (hl : xs.length ≤ 1000) (k : ∀ p G' H', Gr A0 G H G' H' → G' p = some (.lst xs) → H p = none → Q (.ref p) H') :
    xs.length ≤ sizeLine ∧ ∀ p, H p = none → Q (.ref p) (upd H p (.lst xs)) :=
  ⟨Nat.le_of_lt (small1000 hl), fun p hp => k p _ _ (Gr.new g hp) upd_same hp⟩
/-- a new list of our own -/
theorem a_own (g : Ex G H) (hl : xs.length ≤ 1000) (k : ∀ p H', Gr A0 G H G H' → H' p = some (.lst xs) → H p = none → G p = none → Q (.ref p) H') :
    xs.length ≤ sizeLine ∧ ∀ p, H p = none → Q (.ref p) (upd H p (.lst xs)) :=
  ⟨Nat.le_of_lt (small1000 hl), fun p hp => k p _ (Gr.own g hp) upd_same hp (g.free hp)⟩
theorem n_tup (g : Ex G H) (k : ∀ p G' H', Gr A0 G H G' H' → G' p = some (.tup xs) → H p = none → Q (.ref p) H') :
    ∀ p, H p = none → Q (.ref p) (upd H p (.tup xs)) := fun p hp => k p _ _ (Gr.new g hp) upd_same hp
theorem n_lst (g : Ex G H) (k : ∀ p G' H', Gr A0 G H G' H' → G' p = some (.lst xs) → H p = none → Q (.ref p) H') :
    ∀ p, H p = none → Q (.ref p) (upd H p (.lst xs)) := fun p hp => k p _ _ (Gr.new g hp) upd_same hp
theorem n_own (g : Ex G H) (k : ∀ p H', Gr A0 G H G H' → H' p = some (.lst xs) → H p = none → G p = none → Q (.ref p) H') :
    ∀ p, H p = none → Q (.ref p) (upd H p (.lst xs)) := fun p hp => k p _ (Gr.own g hp) upd_same hp (g.free hp)
end
/-! ### raising a class of one field -/
section
variable {K : PySem.W.Frag} {σ : L2.St} {H : Hp} {C : Addr} {f : Str} {v : V} {W : XK}
/-- the promise of its __init__ -/
def spInit1 (C : Addr) (f : Str) : Sp := fun vs H Q _ => ∃ (a : Addr) (v : V), vs = [.ref a, v] ∧ H a = some (exo a C none) ∧
  ∀ dx, H dx = none → dx ≠ a → Q .non (upd (upd H dx (exd dx [(f, v)])) a (exo a C (some dx)))
theorem r_raise1 (q : ∀ d, H d = none → W (.ref C) (some d) (upd H d (.xd [(f, v)]))) :
    ([v] : List V).length ≤ 1000 ∧ ∀ a, H a = none → spInit1 C f (.ref a :: ([v] ++ [])) (upd H a (exo a C none))
      (fun v H2 => v = .non ∧ ∃ (d : Addr) (fs : List (Str × V)), H2 a = some (exo a C (some d)) ∧ H2 d = some (exd d fs) ∧ H d = none ∧ W (.ref C) (some d) (upd (del H2 a) d (.xd fs))) (fun _ _ _ => False) := by
  refine ⟨by show 1 ≤ 1000; decide, fun a ha => ⟨a, v, rfl, upd_same, fun dx hdx hne => ⟨rfl, dx, [(f, v)], upd_same, ?_, ?_, ?_⟩⟩⟩
  · rw [upd_ne hne]
    exact upd_same
  · rw [upd_ne hne] at hdx
    exact hdx
  · rw [upd_ne hne] at hdx
    have e : upd (del (upd (upd (upd H a (exo a C none)) dx (exd dx [(f, v)])) a (exo a C (some dx))) a) dx (.xd [(f, v)]) = upd H dx (.xd [(f, v)]) := by
      funext b
      by_cases h1 : b = dx
      · rw [h1, upd_same, upd_same]
      · rw [upd_ne h1, upd_ne h1]
        by_cases h2 : b = a
        · rw [h2, del_same, ha]
        · rw [del_ne h2, upd_ne h2, upd_ne h1, upd_ne h2]
    rw [e]
    exact q dx hdx
end
theorem Same.mut {H H' : Hp} {p : Addr} {o : HO} (e : Ex H H') (h : H p = none) : Ex H (upd H' p o) := fun a u ha => by
  rw [upd_ne (ne_of_none ha h)]
  exact e a u ha
theorem Same.new {H H' : Hp} {p : Addr} {o : HO} (e : Ex H H') (h : H' p = none) : Ex H (upd H' p o) := fun a u ha => by
  rw [upd_ne (ne_of_none (e a u ha) h)]
  exact e a u ha
/-! ### texts by their codes -/
abbrev cs (z : Str) : List Nat := z.cps.toList
theorem cs_ext {a b : Str} (h : cs a = cs b) : a = b := by
  cases a
  cases b
  exact congrArg Str.mk (Array.toList_inj.mp h)
theorem cs_len (z : Str) : (cs z).length = z.length := Array.length_toList
theorem cs_app (a b : Str) : cs (a ++ b) = cs a ++ cs b := Array.toList_append
theorem cs_join : ∀ ys : List Str, cs (Txt.join "" ys) = (ys.map cs).flatten := fun ys => by
  rw [TL.join_eq]
  induction ys with
  | nil => rfl
  | cons y r ih =>
    cases r with
    | nil => simp [PySem.Str.join, cs]
    | cons x r' =>
      have e : PySem.Str.join "" (y :: x :: r') = y ++ "" ++ PySem.Str.join "" (x :: r') := rfl
      rw [e, cs_app, cs_app, ih]
      have e0 : cs ("" : Str) = [] := by decide
      rw [e0, List.append_nil]
      rfl
theorem cut_list (l : List Nat) (a b : Nat) : (l.drop (min a l.length)).take (min b l.length - min a l.length) = (l.drop a).take (b - a) := by
  by_cases h : a ≤ l.length
  · rw [Nat.min_eq_left h]
    by_cases hb : b ≤ l.length
    · rw [Nat.min_eq_left hb]
    · have hb' : l.length ≤ b := by omega
      rw [Nat.min_eq_right hb', List.take_of_length_le (by rw [List.length_drop]; omega), List.take_of_length_le (by rw [List.length_drop]; omega)]
  · have ha' : l.length ≤ a := by omega
    rw [Nat.min_eq_right ha', List.drop_of_length_le (Nat.le_refl _), List.drop_of_length_le ha', List.take_nil, List.take_nil]
theorem cs_cut (z : Str) (a b : Nat) : cs (cutS z (some (a : Int)) (some (b : Int))) = ((cs z).drop a).take (b - a) := by
  show ((z.cps.toList.drop (HT.sIx z.length 0 (some (a : Int)))).take (HT.sIx z.length z.length (some (b : Int)) - HT.sIx z.length 0 (some (a : Int)))) = _
  rw [HT.sIx_nat, HT.sIx_nat, ← cs_len z]
  exact cut_list _ a b
theorem cs_from (z : Str) (a : Nat) : cs (cutS z (some (a : Int)) none) = (cs z).drop a := by
  show ((z.cps.toList.drop (HT.sIx z.length 0 (some (a : Int)))).take (HT.sIx z.length z.length none - HT.sIx z.length 0 (some (a : Int)))) = _
  rw [HT.sIx_nat, HT.sIx_none, ← cs_len z]
  have h := cut_list (cs z) a (cs z).length
  rw [Nat.min_self] at h
  rw [h, List.take_of_length_le (by rw [List.length_drop]; omega)]
theorem cs_to (z : Str) (b : Nat) : cs (cutS z none (some (b : Int))) = (cs z).take b := by
  show ((z.cps.toList.drop (HT.sIx z.length 0 none)).take (HT.sIx z.length z.length (some (b : Int)) - HT.sIx z.length 0 none)) = _
  rw [HT.sIx_nat, HT.sIx_none, ← cs_len z]
  have h := cut_list (cs z) 0 b
  rw [Nat.zero_min] at h
  exact h
theorem cut_len (z : Str) (lo hi : Option Int) : (cutS z lo hi).length ≤ z.length := cutS_length z lo hi
theorem int_nat {i : Int} (h : 0 ≤ i) : i = ((i.toNat : Nat) : Int) := by omega
theorem at_g {α : Type} {xs : List α} {z : Int} {j : Nat} {v : α} (e : z = (j : Int)) (h : xs[j]? = some v) : atI xs z = some v := by
  rw [e]
  exact atI_nat h
theorem sum_ones {α : Type} : ∀ l : List α, (l.map fun _ => 1).sum = l.length
  | [] => rfl
  | _ :: r => by rw [List.map_cons, List.sum_cons, sum_ones r, List.length_cons, Nat.add_comm]
theorem nsz {xs : List V} (h : Nat.ble xs.length 1000 = true := by rfl) : xs.length ≤ 1000 := Nat.le_of_ble_eq_true h
/-! ### loops -/
section
variable {K : PySem.W.Frag} {σ : L2.St} {H : Hp} {tl : TE} {ta : TA} {g : TG} {tb : TS} {D : Ends}
theorem r_forT (h : tl σ H fun x H1 => ∃ (a : Addr) (xs : List V), x = .ref a ∧ SqT K H1 a xs ∧ ∃ Pv : Nat → L2.St → Hp → Prop, Pv 0 σ H1 ∧ (∀ i σ H, Pv i σ H → SqT K H a xs) ∧
    (∀ i x σ H, xs[i]? = some x → Pv i σ H → g x σ H fun σ2 H2 => tb { D with nx := Pv (i + 1), ct := Pv (i + 1), bk := D.nx } σ2 H2) ∧ ∀ σ H, Pv xs.length σ H → D.nx σ H)
    (mono : ∀ Q Q' : VK, (∀ v H, Q v H → Q' v H) → tl σ H Q → tl σ H Q') : tFor (iTup K tl) g tb D σ H := by
  refine mono _ _ (fun v H1 hh => ?_) h
  obtain ⟨a, xs, rfl, hs, Pv, p0, hl, ht, hd⟩ := hh
  exact ⟨a, rfl, ⟨xs, hs⟩, for_it walk_tup Pv p0 (fun i σ H _ p => hl i σ H p) (fun i x σ H H' hi p y => by
    obtain ⟨rfl, hx⟩ := y
    exact ht i x σ _ hx p) hd⟩
theorem r_forL (h : tl σ H fun x H1 => ∃ (a : Addr) (xs : List V), x = .ref a ∧ SqL K H1 a xs ∧ ∃ Pv : Nat → L2.St → Hp → Prop, Pv 0 σ H1 ∧ (∀ i σ H, Pv i σ H → SqL K H a xs) ∧
    (∀ i x σ H, xs[i]? = some x → Pv i σ H → g x σ H fun σ2 H2 => tb { D with nx := Pv (i + 1), ct := Pv (i + 1), bk := D.nx } σ2 H2) ∧ ∀ σ H, Pv xs.length σ H → D.nx σ H)
    (mono : ∀ Q Q' : VK, (∀ v H, Q v H → Q' v H) → tl σ H Q → tl σ H Q') : tFor (iList K tl) g tb D σ H := by
  refine mono _ _ (fun v H1 hh => ?_) h
  obtain ⟨a, xs, rfl, hs, Pv, p0, hl, ht, hd⟩ := hh
  exact ⟨a, rfl, ⟨xs, hs⟩, for_it walk_list Pv p0 (fun i σ H _ p => hl i σ H p) (fun i x σ H H' hi p y => by
    obtain ⟨rfl, hx⟩ := y
    exact ht i x σ _ hx p) hd⟩
theorem m_var {n : Nat} : ∀ Q Q' : VK, (∀ v H, Q v H → Q' v H) → tVar n σ H Q → tVar n σ H Q' := fun Q Q' h t => by
  obtain ⟨v, e, q⟩ := t
  exact ⟨v, e, h v _ q⟩
/-- over a name's list, tuple, text -/
theorem r_forTv {n : Nat} {a : Addr} {xs : List V} (e : σ[n]? = some (some (.ref a))) (hs : SqT K H a xs) (Pv : Nat → L2.St → Hp → Prop) (p0 : Pv 0 σ H) (hl : ∀ i σ H, Pv i σ H → SqT K H a xs)
    (ht : ∀ i x σ H, xs[i]? = some x → Pv i σ H → g x σ H fun σ2 H2 => tb { D with nx := Pv (i + 1), ct := Pv (i + 1), bk := D.nx } σ2 H2) (hd : ∀ σ H, Pv xs.length σ H → D.nx σ H) : tFor (iTup K (tVar n)) g tb D σ H :=
  r_forT ⟨_, e, a, xs, rfl, hs, Pv, p0, hl, ht, hd⟩ m_var
theorem r_forLv {n : Nat} {a : Addr} {xs : List V} (e : σ[n]? = some (some (.ref a))) (hs : SqL K H a xs) (Pv : Nat → L2.St → Hp → Prop) (p0 : Pv 0 σ H) (hl : ∀ i σ H, Pv i σ H → SqL K H a xs)
    (ht : ∀ i x σ H, xs[i]? = some x → Pv i σ H → g x σ H fun σ2 H2 => tb { D with nx := Pv (i + 1), ct := Pv (i + 1), bk := D.nx } σ2 H2) (hd : ∀ σ H, Pv xs.length σ H → D.nx σ H) : tFor (iList K (tVar n)) g tb D σ H :=
  r_forL ⟨_, e, a, xs, rfl, hs, Pv, p0, hl, ht, hd⟩ m_var
theorem r_forSv {n : Nat} {z : Str} (e : σ[n]? = some (some (.str z))) (Pv : Nat → L2.St → Hp → Prop) (p0 : Pv 0 σ H)
    (ht : ∀ i c σ H, (cs z)[i]? = some c → Pv i σ H → g (.str ⟨#[c]⟩) σ H fun σ2 H2 => tb { D with nx := Pv (i + 1), ct := Pv (i + 1), bk := D.nx } σ2 H2) (hd : ∀ σ H, Pv z.length σ H → D.nx σ H) : tFor (iStr (tVar n)) g tb D σ H := by
  refine ⟨_, e, z, rfl, for_it walk_str Pv p0 (fun _ _ _ _ _ => trivial) (fun i x σ H H' hi p y => ?_) hd⟩
  obtain ⟨rfl, c, hc, rfl⟩ := y
  exact ht i c σ _ (by rw [Array.getElem?_toList]; exact hc) p
theorem walk_E {G : Hp → Prop} {n : Nat} {Y : Nat → Hp → V → Prop} : Walk (ItE G n Y) n G (fun i H v H' => ∃ T x, v = .ref T ∧ H T = none ∧ H' = upd H T (.tup [.int (i : Nat), x]) ∧ Y i H x) :=
  ⟨fun i H hi g => ⟨g, hi⟩, fun H g => ⟨g, rfl⟩, fun i H x H' hi g y => y⟩
theorem r_forETv {n : Nat} {a : Addr} {xs : List V} (e : σ[n]? = some (some (.ref a))) (hs : SqT K H a xs) (Pv : Nat → L2.St → Hp → Prop) (p0 : Pv 0 σ H) (hl : ∀ i σ H, Pv i σ H → SqT K H a xs)
    (ht : ∀ i x σ H p, xs[i]? = some x → Pv i σ H → H p = none → g (.ref p) σ (upd H p (.tup [.int (i : Nat), x])) fun σ2 H2 => tb { D with nx := Pv (i + 1), ct := Pv (i + 1), bk := D.nx } σ2 H2)
    (hd : ∀ σ H, Pv xs.length σ H → D.nx σ H) : tFor (Dk.iEnumT K (tCons (tVar n) tNil)) g tb D σ H := by
  refine ⟨_, e, a, xs, rfl, hs, for_it walk_E Pv p0 (fun i σ H _ p => hl i σ H p) (fun i x σ H H' hi p y => ?_) hd⟩
  obtain ⟨T, x', rfl, hT, rfl, hx⟩ := y
  exact ht i x' σ H T hx p hT
theorem r_forESv {n : Nat} {z : Str} (e : σ[n]? = some (some (.str z))) (Pv : Nat → L2.St → Hp → Prop) (p0 : Pv 0 σ H)
    (ht : ∀ i c σ H p, (cs z)[i]? = some c → Pv i σ H → H p = none → g (.ref p) σ (upd H p (.tup [.int (i : Nat), .str ⟨#[c]⟩])) fun σ2 H2 => tb { D with nx := Pv (i + 1), ct := Pv (i + 1), bk := D.nx } σ2 H2)
    (hd : ∀ σ H, Pv z.length σ H → D.nx σ H) : tFor (Dk.iEnumS (tCons (tVar n) tNil)) g tb D σ H := by
  refine ⟨_, e, z, rfl, for_it walk_E Pv p0 (fun _ _ _ _ _ => trivial) (fun i x σ H H' hi p y => ?_) hd⟩
  obtain ⟨T, x', rfl, hT, rfl, c, hc, rfl⟩ := y
  exact ht i c σ H T (by rw [Array.getElem?_toList]; exact hc) p hT
/-- over range(n) -/
theorem r_forR1 (h : ta σ H fun vs H1 => ∃ n : Int, vs = [.int n] ∧ -1000000 ≤ n ∧ n ≤ 1000000 ∧ ∃ Pv : Nat → L2.St → Hp → Prop, Pv 0 σ H1 ∧
    (∀ (i : Nat) σ H, (i : Int) < n → Pv i σ H → g (.int (i : Nat)) σ H fun σ2 H2 => tb { D with nx := Pv (i + 1), ct := Pv (i + 1), bk := D.nx } σ2 H2) ∧ ∀ σ H, Pv n.toNat σ H → D.nx σ H)
    (mono : ∀ Q Q' : List V → Hp → Prop, (∀ v H, Q v H → Q' v H) → ta σ H Q → ta σ H Q') : tFor (iRng1 ta) g tb D σ H := by
  refine mono _ _ (fun v H1 hh => ?_) h
  obtain ⟨n, rfl, h1, h2, Pv, p0, ht, hd⟩ := hh
  refine ⟨n, rfl, by omega, by omega, for_range Pv p0 (fun i σ H hi p => ?_) hd⟩
  have z := ht i σ H (by omega) p
  rw [Int.zero_add]
  exact z
end
section
variable {K : PySem.W.Frag} {σ : L2.St} {H : Hp} {N : L2.St → Hp → Prop} {v : V} {vs : List V} {t : TG} {u : TGs}
theorem r_gtup {n : Nat} {a : Addr} (h : SqT K H a vs) (hl : vs.length = n) (k : u vs σ H N) : gTup K n u (.ref a) σ H N := ⟨a, vs, rfl, h, hl, k⟩
theorem r_gcons (k : t v σ H fun σ' H' => u vs σ' H' N) : gCons t u (v :: vs) σ H N := ⟨v, vs, rfl, k⟩
theorem r_gnil (k : N σ H) : gNil [] σ H N := ⟨rfl, k⟩
theorem r_mkO {C : Addr} {sp : Sp} {dvs : List V} {ta : TA} {Q : XK} (h : ta σ H fun vs H1 => vs.length ≤ 1000 ∧ ∀ a, H1 a = none → sp (.ref a :: (vs ++ dvs)) (upd H1 a (exo a C none))
  (fun v H2 => v = .non ∧ ∃ (d : Addr) (fs : List (Str × V)), H2 a = some (exo a C (some d)) ∧ H2 d = some (exd d fs) ∧ H1 d = none ∧ Q (.ref C) (some d) (upd (del H2 a) d (.xd fs))) (fun _ _ _ => False)) : tMkO C sp dvs ta σ H Q := h
theorem r_xfo {a C : Addr} {cls : Value} {d : Option Addr} {f : Str} {te : TE} {Q : VK} (h : te σ H fun x H1 => x = .ref a ∧ cls = .ref C ∧ ∃ (dd : Addr) (fs : List (Str × V)) (v : V), d = some dd ∧ H1 dd = some (.xd fs) ∧ fs.lookup f = some v ∧ Q v H1) : tXf a cls d C f te σ H Q := h
theorem r_noP {QO : Option Int → Hp → Prop} (q : QO none H) : tNoPart σ H QO := q
theorem r_part {te : TE} {QO : Option Int → Hp → Prop} (h : te σ H fun x H1 => ∃ i, x = .int i ∧ QO (some i) H1) : tPart te σ H QO := h
theorem r_pI {i : Int} {PO : Int → Prop} (q : PO i) : ∃ j, V.int i = .int j ∧ PO j := ⟨i, rfl, q⟩
end
/-! ### draws -/
def M61 : Int := 2305843009213693951
/-- the state of the draws stands at a -/
def Stt (H : Hp) (a : Addr) : Prop := ∃ z : Int, H a = some (.lst [.int z]) ∧ 0 ≤ z ∧ z < M61
theorem nat61 {z : Int} (h0 : 0 ≤ z) (h : z < M61) : z.natAbs < 2 ^ 61 := by
  unfold M61 at h
  have e : (2 : Nat) ^ 61 = 2305843009213693952 := by decide
  omega
/-- draws were made: the state at a turned, all else is as it was -/
structure Dr (a : Addr) (H H' : Hp) : Prop where
  hh : ∀ b o, b ≠ a → H b = some o → H' b = some o
  st : Stt H' a
section
variable {A : Addr → Prop} {a p : Addr} {G H G1 H1 H2 : Hp} {o : HO}
theorem Stt.up (s : Stt H a) (e : Ex H H1) : Stt H1 a := s.imp fun _ z => ⟨e _ _ z.1, z.2⟩
theorem Stt.ne (s : Stt H a) (h : H p = none) : p ≠ a := fun z => by
  obtain ⟨v, e, _⟩ := s
  rw [← z, h] at e
  cases e
theorem Stt.put (s : Stt H a) (h : p ≠ a) : Stt (upd H p o) a := s.imp fun _ z => ⟨by rw [upd_ne (Ne.symm h)]; exact z.1, z.2⟩
theorem Dr.refl (s : Stt H a) : Dr a H H := ⟨fun _ _ _ h => h, s⟩
theorem Dr.trans (x : Dr a H H1) (y : Dr a H1 H2) : Dr a H H2 := ⟨fun b o n h => y.hh b o n (x.hh b o n h), y.st⟩
theorem Dr.ex (s : Stt H a) (e : Ex H H1) : Dr a H H1 := ⟨fun b o _ h => e b o h, s.up e⟩
theorem Dr.then (x : Dr a H H1) (e : Ex H1 H2) : Dr a H H2 := x.trans (.ex x.st e)
theorem Dr.set {z : Int} (h0 : 0 ≤ z) (h : z < M61) : Dr a H (upd H a (.lst [.int z])) := ⟨fun b o n e => by rw [upd_ne n]; exact e, z, upd_same, h0, h⟩
theorem Dr.mut (x : Dr a H H1) (hp : H p = none) (ne : p ≠ a) : Dr a H (upd H1 p o) :=
  ⟨fun b u n e => by rw [upd_ne (ne_of_none e hp)]; exact x.hh b u n e, x.st.put ne⟩
theorem Dr.new (x : Dr a H H1) (hp : H1 p = none) : Dr a H (upd H1 p o) := x.then (Same.new (Same.refl H1) hp)
theorem Dr.gr (g : Ex G H) (n : G a = none) (s : Stt H a) (d : Dr a H H1) : Gr (· = a) G H G H1 where
  gg := Same.refl G
  gh := fun b x e => d.hh b x (ne_of_none e n) (g b x e)
  hh := fun b x z e => d.hh b x z e
  th := fun b x e => by
    by_cases h : b = a
    · obtain ⟨v, z, _⟩ := d.st
      exact ⟨_, by rw [h]; exact z⟩
    · exact ⟨x, d.hh b x h e⟩
  nw := fun b x e z => z
theorem Gr.na (t : Gr A G H G1 H1) (n : G a = none) (s : Stt H a) : G1 a = none := by
  obtain ⟨z, e, _⟩ := s
  exact t.nw a _ e n
theorem Gr.dr (t : Gr (· = a) G H G1 H1) (n : G a = none) (s : Stt H a) (s1 : Stt H1 a) (d : Dr a H1 H2) : Gr (· = a) G H G1 H2 :=
  t.trans (Dr.gr t.gh (t.na n s) s1 d)
end
/-! ### the laws' own draws -/
def AL : Str := "\n !\"#$&'()*+,-./0123456789:;<=>?@ABCDEFGHIJKLMNOPQRSTUVWXYZ[\\]^_`abcdefghijklmnopqrstuvwxyz{|}~"
def InAL (z : Str) : Prop := ∀ c ∈ cs z, c ∈ cs AL
theorem AL_len : AL.length = 95 := by decide +kernel
def spDraw : Sp := fun vs H Q _ => ∃ (a : Addr) (n : Int), vs = [.ref a, .int n] ∧ Stt H a ∧ 0 < n ∧ ∀ (d : Int) H', 0 ≤ d → d < n → Dr a H H' → Q (.int d) H'
def spStart (K : PySem.W.Frag) : Sp := fun vs H Q _ => ∃ (s : Addr) (ns : List Int), vs = [.ref s] ∧ SqL K H s (ns.map V.int) ∧ ∀ p H', Ex H H' → H p = none → Stt H' p → Q (.ref p) H'
def spSigns : Sp := fun vs H Q _ => vs = [] ∧ Q (.str AL) H
def spText : Sp := fun vs H Q _ => ∃ (a : Addr) (n : Int), vs = [.ref a, .int n] ∧ Stt H a ∧ 0 ≤ n ∧ n ≤ 8000 ∧ ∀ o H', Dr a H H' → (o.length : Int) = n → InAL o → Q (.str o) H'
theorem mix_next {z : Int} (e : Int) : 0 ≤ e % M61 ∧ e % M61 < M61 := ⟨Int.emod_nonneg _ (by decide), Int.emod_lt_of_pos _ (by decide)⟩
/-! ### what is known at a place of a drawing def -/
structure Wd (a : Addr) (G H : Hp) : Prop where
  g : Ex G H
  na : G a = none
  st : Stt H a
section
variable {a p : Addr} {G H G1 H1 G2 H2 : Hp} {o : HO} {xs : List V} {Q : VK}
theorem Wd.step (x : Wd a G H) (t : Gr (· = a) G H G1 H1) (s : Stt H1 a) : Wd a G1 H1 := ⟨t.gh, t.na x.na x.st, s⟩
theorem Wd.pure (x : Wd a G H) (t : Gr A0 G H G1 H1) : Wd a G1 H1 := ⟨t.gh, t.na x.na x.st, x.st.up t.same⟩
theorem Wd.ex (x : Wd a G H) (e : Ex H H1) : Wd a G H1 := ⟨x.g.trans e, x.na, x.st.up e⟩
theorem Wd.dr (x : Wd a G H) (d : Dr a H H1) : Wd a G H1 := ⟨(Dr.gr x.g x.na x.st d).gh, x.na, d.st⟩
theorem Wd.gdr (x : Wd a G H) (d : Dr a H H1) : Gr (· = a) G H G H1 := Dr.gr x.g x.na x.st d
/-- a new list, known for good -/
theorem w_lst (x : Wd a G H) (k : ∀ p G' H', Gr A0 G H G' H' → Wd a G' H' → G' p = some (.lst xs) → Q (.ref p) H') :
    ∀ p, H p = none → Q (.ref p) (upd H p (.lst xs)) := fun p hp => k p _ _ (Gr.new x.g hp) (x.pure (Gr.new x.g hp)) upd_same
theorem w_tup (x : Wd a G H) (k : ∀ p G' H', Gr A0 G H G' H' → Wd a G' H' → G' p = some (.tup xs) → Q (.ref p) H') :
    ∀ p, H p = none → Q (.ref p) (upd H p (.tup xs)) := fun p hp => k p _ _ (Gr.new x.g hp) (x.pure (Gr.new x.g hp)) upd_same
end
theorem new_ex {G H : Hp} {p : Addr} (g : Ex G H) (hp : H p = none) (o : HO) : ∃ G' H', H' = upd H p o ∧ Gr A0 G H G' H' ∧ G' p = some o :=
  ⟨_, _, rfl, Gr.new g hp, upd_same⟩
theorem w_new {a p : Addr} {G H : Hp} (x : Wd a G H) (hp : H p = none) (o : HO) : ∃ G' H', H' = upd H p o ∧ Gr A0 G H G' H' ∧ Wd a G' H' ∧ G' p = some o :=
  ⟨_, _, rfl, Gr.new x.g hp, x.pure (Gr.new x.g hp), upd_same⟩
theorem atI_m1 {xs : List V} (h : xs ≠ []) : ∃ x, atI xs (-1) = some x ∧ x ∈ xs := by
  obtain ⟨l, y, rfl⟩ : ∃ l y, xs = l ++ [y] := ⟨_, _, (List.dropLast_concat_getLast h).symm⟩
  exact ⟨y, atI_last _ _, by simp⟩
theorem own_ex {G H : Hp} {p : Addr} (g : Ex G H) (hp : H p = none) (o : HO) : ∃ H', H' = upd H p o ∧ Gr A0 G H G H' ∧ H' p = some o ∧ G p = none :=
  ⟨_, rfl, Gr.own g hp, upd_same, g.free hp⟩
theorem Gr.fresh {A : Addr → Prop} {G H G1 H1 : Hp} {p : Addr} (t : Gr A G H G1 H1) (h : H1 p = none) : H p = none := by
  cases e : H p with
  | none => rfl
  | some o =>
    obtain ⟨o', z⟩ := t.th p o e
    rw [h] at z
    cases z
theorem ixN_nat {n : Nat} {i : Int} (h0 : 0 ≤ i) (h : i < (n : Int)) : ixN n i = some i.toNat := by
  unfold ixN
  rw [if_pos h0, if_pos h]
/-! loops whose source is reckoned -/
section
variable {K : PySem.W.Frag} {σ : L2.St} {H : Hp} {tl : TE} {ta : TA} {g : TG} {tb : TS} {D : Ends}
def LoopW (J : It) (g : TG) (tb : TS) (D : Ends) (σ : L2.St) (H1 : Hp) : Prop := ∃ W : Nat → Nat → L2.St → Hp → Prop, (∃ m, W 0 m σ H1) ∧ ∀ i m σ H, W i m σ H →
  (J.stop i H ∧ D.nx σ H) ∨ (J.go i H ∧ ∃ N : L2.St → Hp → Prop, (∀ σ' H', N σ' H' → ∃ m', m' < m ∧ W (i + 1) m' σ' H') ∧ ∀ x H', J.yld i H x H' → g x σ H' fun σ2 H2 => tb { D with nx := N, ct := N, bk := D.nx } σ2 H2)
theorem r_forLo (h : tl σ H fun x H1 => ∃ a, x = .ref a ∧ (∃ xs, SqL K H1 a xs) ∧ LoopW (Itl K a) g tb D σ H1) : tFor (iList K tl) g tb D σ H := h
theorem r_forTo (h : tl σ H fun x H1 => ∃ a, x = .ref a ∧ (∃ xs, SqT K H1 a xs) ∧ LoopW (Itt K a) g tb D σ H1) : tFor (iTup K tl) g tb D σ H := h
theorem r_forSo (h : tl σ H fun x H1 => ∃ z, x = .str z ∧ LoopW (Its z) g tb D σ H1) : tFor (iStr tl) g tb D σ H := h
theorem r_forRo (h : ta σ H fun vs H1 => ∃ j : Int, vs = [.int j] ∧ -(2 ^ 62) ≤ j ∧ j < 2 ^ 62 ∧ LoopW (Itr 0 j.toNat) g tb D σ H1) : tFor (iRng1 ta) g tb D σ H := h
theorem r_forR2o (h : ta σ H fun vs H1 => ∃ i j : Int, vs = [.int i, .int j] ∧ (-(2 ^ 62) ≤ i ∧ i < 2 ^ 62 ∧ -(2 ^ 62) ≤ j ∧ j < 2 ^ 62) ∧ LoopW (Itr i (j - i).toNat) g tb D σ H1) : tFor (iRng2 ta) g tb D σ H := h
theorem r_forEo (h : ta σ H fun vs H1 => ∃ a xs, vs = [.ref a] ∧ SqT K H1 a xs ∧ LoopW (ItE (fun H => SqT K H a xs) xs.length fun i _ x => xs[i]? = some x) g tb D σ H1) : tFor (Dk.iEnumT K ta) g tb D σ H := h
theorem r_forESo (h : ta σ H fun vs H1 => ∃ z, vs = [.str z] ∧ LoopW (ItE (fun _ => True) z.cps.size fun i _ x => ∃ c, z.cps[i]? = some c ∧ x = .str ⟨#[c]⟩) g tb D σ H1) : tFor (Dk.iEnumS ta) g tb D σ H := h
theorem l_L {a : Addr} {xs : List V} (hs : SqL K H a xs) (Pv : Nat → L2.St → Hp → Prop) (p0 : Pv 0 σ H) (hl : ∀ i σ H, Pv i σ H → SqL K H a xs)
    (ht : ∀ i x σ H, xs[i]? = some x → Pv i σ H → g x σ H fun σ2 H2 => tb { D with nx := Pv (i + 1), ct := Pv (i + 1), bk := D.nx } σ2 H2) (hd : ∀ σ H, Pv xs.length σ H → D.nx σ H) :
    ∃ b, V.ref a = .ref b ∧ (∃ xs, SqL K H b xs) ∧ LoopW (Itl K b) g tb D σ H :=
  ⟨a, rfl, ⟨xs, hs⟩, for_it walk_list Pv p0 (fun i σ H _ p => hl i σ H p) (fun i x σ H H' hi p y => by
    obtain ⟨rfl, hx⟩ := y
    exact ht i x σ _ hx p) hd⟩
theorem l_T {a : Addr} {xs : List V} (hs : SqT K H a xs) (Pv : Nat → L2.St → Hp → Prop) (p0 : Pv 0 σ H) (hl : ∀ i σ H, Pv i σ H → SqT K H a xs)
    (ht : ∀ i x σ H, xs[i]? = some x → Pv i σ H → g x σ H fun σ2 H2 => tb { D with nx := Pv (i + 1), ct := Pv (i + 1), bk := D.nx } σ2 H2) (hd : ∀ σ H, Pv xs.length σ H → D.nx σ H) :
    ∃ b, V.ref a = .ref b ∧ (∃ xs, SqT K H b xs) ∧ LoopW (Itt K b) g tb D σ H :=
  ⟨a, rfl, ⟨xs, hs⟩, for_it walk_tup Pv p0 (fun i σ H _ p => hl i σ H p) (fun i x σ H H' hi p y => by
    obtain ⟨rfl, hx⟩ := y
    exact ht i x σ _ hx p) hd⟩
theorem l_S {z : Str} (Pv : Nat → L2.St → Hp → Prop) (p0 : Pv 0 σ H)
    (ht : ∀ i c σ H, (cs z)[i]? = some c → Pv i σ H → g (.str ⟨#[c]⟩) σ H fun σ2 H2 => tb { D with nx := Pv (i + 1), ct := Pv (i + 1), bk := D.nx } σ2 H2) (hd : ∀ σ H, Pv z.length σ H → D.nx σ H) :
    ∃ y, V.str z = .str y ∧ LoopW (Its y) g tb D σ H := by
  refine ⟨z, rfl, for_it walk_str Pv p0 (fun _ _ _ _ _ => trivial) (fun i x σ H H' hi p y => ?_) hd⟩
  obtain ⟨rfl, c, hc, rfl⟩ := y
  exact ht i c σ _ (by rw [Array.getElem?_toList]; exact hc) p
theorem l_R {n : Int} (h1 : -1000000 ≤ n) (h2 : n ≤ 1000000) (Pv : Nat → L2.St → Hp → Prop) (p0 : Pv 0 σ H)
    (ht : ∀ (i : Nat) σ H, (i : Int) < n → Pv i σ H → g (.int (i : Nat)) σ H fun σ2 H2 => tb { D with nx := Pv (i + 1), ct := Pv (i + 1), bk := D.nx } σ2 H2) (hd : ∀ σ H, Pv n.toNat σ H → D.nx σ H) :
    ∃ j : Int, [V.int n] = [.int j] ∧ -(2 ^ 62) ≤ j ∧ j < 2 ^ 62 ∧ LoopW (Itr 0 j.toNat) g tb D σ H := by
  refine ⟨n, rfl, by omega, by omega, for_range Pv p0 (fun i σ H hi p => ?_) hd⟩
  have z := ht i σ H (by omega) p
  rw [Int.zero_add]
  exact z
theorem l_E {a : Addr} {xs : List V} (hs : SqT K H a xs) (Pv : Nat → L2.St → Hp → Prop) (p0 : Pv 0 σ H) (hl : ∀ i σ H, Pv i σ H → SqT K H a xs)
    (ht : ∀ i x σ H p, xs[i]? = some x → Pv i σ H → H p = none → g (.ref p) σ (upd H p (.tup [.int (i : Nat), x])) fun σ2 H2 => tb { D with nx := Pv (i + 1), ct := Pv (i + 1), bk := D.nx } σ2 H2)
    (hd : ∀ σ H, Pv xs.length σ H → D.nx σ H) : ∃ b ys, [V.ref a] = [.ref b] ∧ SqT K H b ys ∧ LoopW (ItE (fun H => SqT K H b ys) ys.length fun i _ x => ys[i]? = some x) g tb D σ H := by
  refine ⟨a, xs, rfl, hs, for_it walk_E Pv p0 (fun i σ H _ p => hl i σ H p) (fun i x σ H H' hi p y => ?_) hd⟩
  obtain ⟨T, x', rfl, hT, rfl, hx⟩ := y
  exact ht i x' σ H T hx p hT
end
theorem cutV_mem {xs : List V} {lo hi : Option Int} {x : V} (h : x ∈ cutV xs lo hi) : x ∈ xs := List.mem_of_mem_drop (List.mem_of_mem_take h)
theorem cutV_len {xs : List V} {lo hi : Option Int} : (cutV xs lo hi).length ≤ xs.length := by
  unfold cutV
  rw [List.length_take, List.length_drop]
  omega
theorem cutV_to (xs : List V) (n : Nat) : cutV xs none (some (n : Int)) = xs.take n := by
  unfold cutV
  rw [HT.sIx_nat, HT.sIx_none, List.drop_zero, Nat.sub_zero]
  by_cases h : n ≤ xs.length
  · rw [Nat.min_eq_left h]
  · rw [Nat.min_eq_right (by omega), List.take_of_length_le (Nat.le_refl _), List.take_of_length_le (by omega)]
theorem atI_lt {xs : List V} {i : Int} (h0 : 0 ≤ i) (h : i < (xs.length : Int)) : ∃ x, atI xs i = some x ∧ x ∈ xs := by
  have hi : i.toNat < xs.length := by omega
  exact ⟨xs[i.toNat], at_g (by omega) (List.getElem?_eq_getElem hi), List.getElem_mem _⟩
end Dk
/-! the told order: signs, the relation by its hops, its closure by rounds over a table of bits -/
namespace Tl
abbrev Sg := Nat × Nat
section
variable (L R : Nat → Sg)
/-- told ahead, by hops -/
inductive A : Sg → Sg → Prop where
  | same {x y : Sg} (h : x.1 = y.1) (i : x.2 < y.2) : A x y
  | rEq {x y : Sg} (h : y.1 < x.1) (e : R x.1 = y) : A x y
  | rGo {x y : Sg} (h : y.1 < x.1) (a : A (R x.1) y) : A x y
  | lEq {x y : Sg} (h : x.1 < y.1) (e : x = L y.1) : A x y
  | lGo {x y : Sg} (h : x.1 < y.1) (a : A x (L y.1)) : A x y
def E (x y : Sg) : Prop := x = y ∨ A L R x y
end
section
variable {L R : Nat → Sg} {x y z : Sg}
theorem A.same_iff (h : x.1 = y.1) : A L R x y ↔ x.2 < y.2 :=
  ⟨fun a => by cases a with
    | same _ i => exact i
    | rEq g _ => omega
    | rGo g _ => omega
    | lEq g _ => omega
    | lGo g _ => omega, fun i => .same h i⟩
theorem A.r_iff (h : y.1 < x.1) : A L R x y ↔ E L R (R x.1) y :=
  ⟨fun a => by cases a with
    | same g _ => omega
    | rEq _ e => exact .inl e
    | rGo _ a => exact .inr a
    | lEq g _ => omega
    | lGo g _ => omega, fun e => e.elim (.rEq h) (.rGo h)⟩
theorem A.l_iff (h : x.1 < y.1) : A L R x y ↔ E L R x (L y.1) :=
  ⟨fun a => by cases a with
    | same g _ => omega
    | rEq g _ => omega
    | rGo g _ => omega
    | lEq _ e => exact .inl e
    | lGo _ a => exact .inr a, fun e => e.elim (.lEq h) (.lGo h)⟩
theorem A.irr : ¬ A L R x x := fun a => by
  have z := (A.same_iff (L := L) (R := R) (rfl : x.1 = x.1)).mp a
  omega
/-- births below n: left and right of lesser chunks, the left told ahead of the right -/
structure Bs (L R : Nat → Sg) (n : Nat) : Prop where
  l : ∀ c, 0 < c → c < n → (L c).1 < c
  r : ∀ c, 0 < c → c < n → (R c).1 < c
  lr : ∀ c, 0 < c → c < n → A L R (L c) (R c)
theorem Bs.mono {n m : Nat} (b : Bs L R n) (h : m ≤ n) : Bs L R m := ⟨fun c h0 h1 => b.l c h0 (by omega), fun c h0 h1 => b.r c h0 (by omega), fun c h0 h1 => b.lr c h0 (by omega)⟩
theorem Bs.trans {n : Nat} (b : Bs L R n) : ∀ m, m ≤ n → ∀ x y z : Sg, x.1 < m → y.1 < m → z.1 < m → A L R x y → A L R y z → A L R x z := by
  intro m
  induction m with
  | zero => intro _ x y z h; omega
  | succ m ih =>
    intro hm x y z hx hy hz a1 a2
    have ih' := ih (by omega)
    have eT : ∀ {u v t : Sg}, u.1 < m → v.1 < m → t.1 < m → E L R u v → A L R v t → A L R u t := fun h1 h2 h3 e a => by
      rcases e with rfl | e
      · exact a
      · exact ih' _ _ _ h1 h2 h3 e a
    have tE : ∀ {u v t : Sg}, u.1 < m → v.1 < m → t.1 < m → A L R u v → E L R v t → A L R u t := fun h1 h2 h3 a e => by
      rcases e with rfl | e
      · exact a
      · exact ih' _ _ _ h1 h2 h3 a e
    by_cases cx : x.1 = m
    · by_cases cy : y.1 = m
      · by_cases cz : z.1 = m
        · have i1 := (A.same_iff (by omega)).mp a1
          have i2 := (A.same_iff (by omega)).mp a2
          exact .same (by omega) (by omega)
        · have e2 := (A.r_iff (by omega)).mp a2
          exact (A.r_iff (by omega)).mpr (by rw [show x.1 = y.1 by omega]; exact e2)
      · by_cases cz : z.1 = m
        · exfalso
          have m0 : 0 < m := by omega
          have hl := b.l m m0 (by omega)
          have hr := b.r m m0 (by omega)
          have hlr := b.lr m m0 (by omega)
          have e1 := (A.r_iff (by omega)).mp a1
          have e2 := (A.l_iff (by omega)).mp a2
          rw [cx] at e1
          rw [cz] at e2
          have a3 : A L R (L m) y := tE hl hr (by omega) hlr e1
          have a4 : A L R (L m) (L m) := tE hl (by omega) hl a3 e2
          exact A.irr a4
        · have e1 := (A.r_iff (by omega)).mp a1
          have hr := b.r x.1 (by omega) (by omega)
          exact (A.r_iff (by omega)).mpr (.inr (eT (by omega) (by omega) (by omega) e1 a2))
    · by_cases cy : y.1 = m
      · by_cases cz : z.1 = m
        · have e1 := (A.l_iff (by omega)).mp a1
          exact (A.l_iff (by omega)).mpr (by rw [show z.1 = y.1 by omega]; exact e1)
        · have e1 := (A.l_iff (by omega)).mp a1
          have e2 := (A.r_iff (by omega)).mp a2
          have hl := b.l y.1 (by omega) (by omega)
          have hr := b.r y.1 (by omega) (by omega)
          have hlr := b.lr y.1 (by omega) (by omega)
          have a3 := eT (by omega) (by omega) (by omega) e1 hlr
          exact tE (by omega) (by omega) (by omega) a3 e2
      · by_cases cz : z.1 = m
        · have e2 := (A.l_iff (by omega)).mp a2
          have hl := b.l z.1 (by omega) (by omega)
          exact (A.l_iff (by omega)).mpr (.inr (tE (by omega) (by omega) (by omega) a1 e2))
        · exact ih' x y z (by omega) (by omega) (by omega) a1 a2
theorem Bs.tr {n : Nat} (b : Bs L R n) (hx : x.1 < n) (hy : y.1 < n) (hz : z.1 < n) (a1 : A L R x y) (a2 : A L R y z) : A L R x z := b.trans n (Nat.le_refl n) x y z hx hy hz a1 a2
/-- only births up to the greater chunk count -/
theorem A.congr {L' R' : Nat → Sg} {n : Nat} (hl : ∀ c, 0 < c → c < n → L c = L' c) (hr : ∀ c, 0 < c → c < n → R c = R' c) (b : ∀ c, 0 < c → c < n → (L c).1 < c ∧ (R c).1 < c) :
    ∀ {x y : Sg}, A L R x y → x.1 < n → y.1 < n → A L' R' x y := fun {x y} a => by
  induction a with
  | same h i => exact fun _ _ => .same h i
  | @rEq x y h e => exact fun hx hy => .rEq h ((hr x.1 (by omega) hx).symm.trans e)
  | @rGo x y h a ih =>
    intro hx hy
    have e := hr x.1 (by omega) hx
    have w := (b x.1 (by omega) hx).2
    exact .rGo h (e ▸ ih (by omega) hy)
  | @lEq x y h e => exact fun hx hy => .lEq h (e.trans (hl y.1 (by omega) hy))
  | @lGo x y h a ih =>
    intro hx hy
    have e := hl y.1 (by omega) hy
    have w := (b y.1 (by omega) hy).1
    exact .lGo h (e ▸ ih hx (by omega))
end
/-! ### paths -/
inductive Pth (S : List (Nat × Nat)) : Nat → Nat → Nat → Prop where
  | one {a b : Nat} (h : (a, b) ∈ S) : Pth S 1 a b
  | step {k a b c : Nat} (h : (a, b) ∈ S) (p : Pth S k b c) : Pth S (k + 1) a c
def Rch (S : List (Nat × Nat)) (a b : Nat) : Prop := ∃ k, Pth S k a b
section
variable {S : List (Nat × Nat)} {a b c : Nat}
theorem Pth.app {k m : Nat} (p : Pth S k a b) (q : Pth S m b c) : Rch S a c := by
  induction p with
  | one h => exact ⟨_, .step h q⟩
  | step h p ih =>
    obtain ⟨k', r⟩ := ih q
    exact ⟨_, .step h r⟩
theorem Rch.tr (p : Rch S a b) (q : Rch S b c) : Rch S a c := by
  obtain ⟨k, p⟩ := p
  obtain ⟨m, q⟩ := q
  exact p.app q
/-- a list without repeats within another one is no longer -/
theorem nodup_le : ∀ {l m : List Nat}, l.Nodup → (∀ x ∈ l, x ∈ m) → l.length ≤ m.length
  | [], m, _, _ => Nat.zero_le _
  | x :: r, m, hn, hm => by
    have hx : x ∈ m := hm x (List.mem_cons_self ..)
    have hn' := List.nodup_cons.mp hn
    have h1 : ∀ y ∈ r, y ∈ m.erase x := fun y hy => (List.mem_erase_of_ne (by
      rintro rfl
      exact hn'.1 hy)).mpr (hm y (List.mem_cons_of_mem _ hy))
    have h2 := nodup_le hn'.2 h1
    rw [List.length_erase_of_mem hx] at h2
    have h3 : 0 < m.length := List.length_pos_of_mem hx
    rw [List.length_cons]
    omega
theorem Pth.bound {k n : Nat} {lt : Nat → Nat → Prop} (hS : ∀ a b, (a, b) ∈ S → lt a b ∧ a < n ∧ b < n) (tr : ∀ a b c, a < n → b < n → c < n → lt a b → lt b c → lt a c) (ir : ∀ a, ¬ lt a a) (p : Pth S k a b) : k + 1 ≤ n := by
  have key : ∀ {k a b}, Pth S k a b → ∃ l : List Nat, l.length = k ∧ (a :: l).Nodup ∧ (∀ x ∈ l, lt a x) ∧ ∀ x ∈ a :: l, x < n := by
    intro k a b p
    induction p with
    | @one a b h =>
      obtain ⟨h1, h2, h3⟩ := hS _ _ h
      refine ⟨[b], rfl, ?_, by simpa using h1, by simp [h2, h3]⟩
      simp
      exact fun e => ir a (e ▸ h1)
    | @step k a b c h p ih =>
      obtain ⟨l, hl, hn, hlt, hb⟩ := ih
      obtain ⟨h1, h2, h3⟩ := hS _ _ h
      have all : ∀ x ∈ b :: l, lt a x := fun x hx => by
        rcases List.mem_cons.mp hx with rfl | hx
        · exact h1
        · exact tr a b x h2 h3 (hb x (List.mem_cons_of_mem _ hx)) h1 (hlt x hx)
      refine ⟨b :: l, by rw [List.length_cons, hl], List.nodup_cons.mpr ⟨fun hm => ir a (all a hm), hn⟩, all, fun x hx => ?_⟩
      rcases List.mem_cons.mp hx with rfl | hx
      · exact h2
      · exact hb x hx
  obtain ⟨l, hl, hn, _, hb⟩ := key p
  have z := nodup_le (m := List.range n) hn fun x hx => List.mem_range.mpr (hb x hx)
  rw [List.length_cons, hl, List.length_range] at z
  exact z
end
/-! ### the table -/
def put (T : List Nat) (e : Nat × Nat) : List Nat := T.set e.1 (T.getD e.1 0 ||| 1 <<< e.2 ||| T.getD e.2 0)
def lap (S : List (Nat × Nat)) (T : List Nat) : List Nat := S.foldl put T
/-- T has b behind a -/
def Bit (T : List Nat) (a b : Nat) : Prop := (T.getD a 0).testBit b = true
section
variable {S : List (Nat × Nat)} {T : List Nat} {n : Nat}
theorem put_len (e : Nat × Nat) : (put T e).length = T.length := List.length_set ..
theorem lap_len : ∀ (S : List (Nat × Nat)) (T : List Nat), (lap S T).length = T.length
  | [], _ => rfl
  | e :: r, T => (lap_len r (put T e)).trans (put_len e)
theorem bit_put {e : Nat × Nat} (h : e.1 < T.length) {a b : Nat} : Bit (put T e) a b ↔ Bit T a b ∨ (a = e.1 ∧ (b = e.2 ∨ Bit T e.2 b)) := by
  unfold Bit put
  by_cases ha : a = e.1
  · subst ha
    have g : (T.set e.1 (T.getD e.1 0 ||| 1 <<< e.2 ||| T.getD e.2 0)).getD e.1 0 = T.getD e.1 0 ||| 1 <<< e.2 ||| T.getD e.2 0 := by
      simp [List.getD, List.getElem?_set, h]
    rw [g, Nat.testBit_or, Nat.testBit_or, Nat.one_shiftLeft, Nat.testBit_two_pow, Bool.or_eq_true, Bool.or_eq_true, decide_eq_true_iff]
    constructor
    · rintro ((h | h) | h)
      · exact .inl h
      · exact .inr ⟨rfl, .inl h.symm⟩
      · exact .inr ⟨rfl, .inr h⟩
    · rintro (h | ⟨_, h | h⟩)
      · exact .inl (.inl h)
      · exact .inl (.inr h.symm)
      · exact .inr h
  · have g : (T.set e.1 (T.getD e.1 0 ||| 1 <<< e.2 ||| T.getD e.2 0)).getD a 0 = T.getD a 0 := by
      simp [List.getD, List.getElem?_set, Ne.symm ha]
    rw [g]
    constructor
    · exact fun h => .inl h
    · rintro (h | ⟨h, _⟩)
      · exact h
      · exact absurd h ha
theorem lap_mono : ∀ (S : List (Nat × Nat)) {T : List Nat}, (∀ e ∈ S, e.1 < T.length) → ∀ {a b}, Bit T a b → Bit (lap S T) a b
  | [], _, _, _, _, h => h
  | e :: r, T, hS, a, b, h => lap_mono r (fun e' he => by rw [put_len]; exact hS e' (List.mem_cons_of_mem _ he)) ((bit_put (hS e (List.mem_cons_self ..))).mpr (.inl h))
theorem lap_edge : ∀ (S : List (Nat × Nat)) {T : List Nat}, (∀ e ∈ S, e.1 < T.length) → ∀ {a b c}, (a, b) ∈ S → c = b ∨ Bit T b c → Bit (lap S T) a c
  | e :: r, T, hS, a, b, c, hm, h => by
    have hr : ∀ e' ∈ r, e'.1 < (put T e).length := fun e' he => by rw [put_len]; exact hS e' (List.mem_cons_of_mem _ he)
    rcases List.mem_cons.mp hm with rfl | hm
    · exact lap_mono r hr ((bit_put (hS _ (List.mem_cons_self ..))).mpr (.inr ⟨rfl, h⟩))
    · refine lap_edge r hr hm (h.imp id fun h => (bit_put (hS e (List.mem_cons_self ..))).mpr (.inl h))
theorem lap_sound : ∀ (S : List (Nat × Nat)) {S0 : List (Nat × Nat)} {T : List Nat}, (∀ e ∈ S, e ∈ S0) → (∀ e ∈ S, e.1 < T.length) → (∀ a b, Bit T a b → Rch S0 a b) → ∀ a b, Bit (lap S T) a b → Rch S0 a b
  | [], _, _, _, _, h => h
  | e :: r, S0, T, h0, hS, h => lap_sound r (fun e' he => h0 e' (List.mem_cons_of_mem _ he)) (fun e' he => by rw [put_len]; exact hS e' (List.mem_cons_of_mem _ he)) fun a b hb => by
    refine Or.elim ((bit_put (hS e (List.mem_cons_self ..))).mp hb) (fun hb => h a b hb) fun hb => ?_
    · obtain ⟨ea, hb2⟩ := hb
      subst ea
      have he : Rch S0 e.1 e.2 := ⟨1, .one (h0 e (List.mem_cons_self ..))⟩
      refine Or.elim hb2 (fun e1 => ?_) (fun hb => he.tr (h _ _ hb))
      rw [e1]
      exact he
/-- behind r laps all paths of at most r steps are there -/
def Upto (S : List (Nat × Nat)) (T : List Nat) (r : Nat) : Prop := ∀ k a b, Pth S k a b → k ≤ r → Bit T a b
theorem Upto.lap {r : Nat} (hS : ∀ e ∈ S, e.1 < T.length) (u : Upto S T r) : Upto S (lap S T) (r + 1) := fun k a b p hk => by
  cases p with
  | one h => exact lap_edge S hS h (.inl rfl)
  | step h p => exact lap_edge S hS h (.inr (u _ _ _ p (by omega)))
/-- where a lap changes nothing all paths are there -/
theorem still_all (hS : ∀ e ∈ S, e.1 < T.length) (h : ∀ a b c, (a, b) ∈ S → c = b ∨ Bit T b c → Bit T a c) {a b : Nat} (p : Rch S a b) : Bit T a b := by
  obtain ⟨k, p⟩ := p
  induction p with
  | one h' => exact h _ _ _ h' (.inl rfl)
  | step h' p ih => exact h _ _ _ h' (.inr ih)
end
end Tl
namespace Tl
/-! ### signs in a row, steps -/
section
variable (sz : Nat → Nat)
def off : Nat → Nat
  | 0 => 0
  | c + 1 => off c + sz c
def rowOf (c : Nat) : List Sg := (List.range (sz c)).map fun i => (c, i)
def marks : Nat → List Sg
  | 0 => []
  | c + 1 => marks c ++ rowOf sz c
def ps (x : Sg) : Nat := off sz x.1 + x.2
/-- a sign of the births below n -/
def Ok (n : Nat) (x : Sg) : Prop := x.1 < n ∧ x.2 < sz x.1
end
section
variable {sz : Nat → Nat} {n : Nat} {x y : Sg}
theorem rowOf_len (c : Nat) : (rowOf sz c).length = sz c := by simp [rowOf]
theorem marks_len : ∀ n, (marks sz n).length = off sz n
  | 0 => rfl
  | n + 1 => by
    show (marks sz n ++ rowOf sz n).length = off sz n + sz n
    rw [List.length_append, marks_len n, rowOf_len]
theorem marks_at : ∀ {n : Nat} {x : Sg}, Ok sz n x → (marks sz n)[ps sz x]? = some x
  | 0, x, h => absurd h.1 (Nat.not_lt_zero _)
  | n + 1, x, h => by
    show (marks sz n ++ rowOf sz n)[ps sz x]? = some x
    by_cases hx : x.1 < n
    · have ih := marks_at (n := n) ⟨hx, h.2⟩
      obtain ⟨hl, _⟩ := List.getElem?_eq_some_iff.mp ih
      rw [List.getElem?_append_left hl]
      exact ih
    · have e : x.1 = n := by have := h.1; omega
      have e2 : ps sz x = (marks sz n).length + x.2 := by unfold ps; rw [marks_len, e]
      rw [e2, List.getElem?_append_right (by omega), Nat.add_sub_cancel_left]
      unfold rowOf
      rw [List.getElem?_map, List.getElem?_range (by rw [← e]; exact h.2)]
      show some (n, x.2) = some x
      rw [← e]
theorem mem_marks : ∀ {n : Nat} {x : Sg}, x ∈ marks sz n ↔ Ok sz n x
  | 0, x => by simp [marks, Ok]
  | n + 1, x => by
    show x ∈ marks sz n ++ rowOf sz n ↔ _
    rw [List.mem_append, mem_marks]
    unfold rowOf Ok
    simp only [List.mem_map, List.mem_range]
    constructor
    · rintro (⟨h1, h2⟩ | ⟨i, hi, rfl⟩)
      · exact ⟨by omega, h2⟩
      · exact ⟨by show n < n + 1; omega, hi⟩
    · rintro ⟨h1, h2⟩
      by_cases hx : x.1 < n
      · exact .inl ⟨hx, h2⟩
      · have e : x.1 = n := by omega
        refine .inr ⟨x.2, by rw [← e]; exact h2, ?_⟩
        rw [← e]
theorem ps_lt (h : Ok sz n x) : ps sz x < off sz n := by
  have := (List.getElem?_eq_some_iff.mp (marks_at h)).1
  rw [marks_len] at this
  exact this
theorem ps_inj (hx : Ok sz n x) (hy : Ok sz n y) (e : ps sz x = ps sz y) : x = y := by
  have h1 := marks_at hx
  rw [e, marks_at hy] at h1
  exact (Option.some.inj h1).symm
theorem sign_at {j : Nat} (h : j < off sz n) : ∃ x, Ok sz n x ∧ ps sz x = j := by
  have hj : j < (marks sz n).length := by rw [marks_len]; exact h
  have hm : (marks sz n)[j] ∈ marks sz n := List.getElem_mem hj
  have ok := mem_marks.mp hm
  refine ⟨_, ok, ?_⟩
  have key : ∀ {n j : Nat} {x : Sg}, (marks sz n)[j]? = some x → ps sz x = j := by
    intro n
    induction n with
    | zero => intro j x h; simp [marks] at h
    | succ n ih =>
      intro j x h
      have h' : (marks sz n ++ rowOf sz n)[j]? = some x := h
      by_cases hl : j < (marks sz n).length
      · rw [List.getElem?_append_left hl] at h'
        exact ih h'
      · rw [List.getElem?_append_right (by omega)] at h'
        unfold rowOf at h'
        rw [List.getElem?_map] at h'
        obtain ⟨i, hi, rfl⟩ := Option.map_eq_some_iff.mp h'
        have e := (List.getElem?_eq_some_iff.mp hi).2
        simp at e
        unfold ps
        show off sz n + i = j
        rw [marks_len] at e hl
        omega
  exact key (List.getElem?_eq_getElem hj)
end
section
variable (L R : Nat → Sg) (sz : Nat → Nat)
def stepsOf (c : Nat) : List (Nat × Nat) := (ps sz (L c), off sz c) :: ((List.range (sz c - 1)).map fun i => (off sz c + i, off sz c + i + 1)) ++ [(off sz c + sz c - 1, ps sz (R c))]
/-- the steps of the births 1 to n -/
def steps : Nat → List (Nat × Nat)
  | 0 => [(0, 1)]
  | n + 1 => steps n ++ stepsOf L R sz (n + 1)
/-- births below n, as a sheet may make them -/
structure Wv (n : Nat) : Prop extends Bs L R n where
  n0 : 0 < n
  s0 : sz 0 = 2
  s1 : ∀ c, 0 < c → c < n → 0 < sz c
  lo : ∀ c, 0 < c → c < n → (L c).2 < sz (L c).1
  ro : ∀ c, 0 < c → c < n → (R c).2 < sz (R c).1
end
section
variable {L R : Nat → Sg} {sz : Nat → Nat} {n : Nat}
theorem Wv.okL (w : Wv L R sz n) {c : Nat} (h0 : 0 < c) (h : c < n) : Ok sz n (L c) := ⟨Nat.lt_trans (w.l c h0 h) h, w.lo c h0 h⟩
theorem Wv.okR (w : Wv L R sz n) {c : Nat} (h0 : 0 < c) (h : c < n) : Ok sz n (R c) := ⟨Nat.lt_trans (w.r c h0 h) h, w.ro c h0 h⟩
theorem Wv.mono (w : Wv L R sz n) {m : Nat} (h0 : 0 < m) (h : m ≤ n) : Wv L R sz m :=
  { Bs.mono w.toBs h with n0 := h0, s0 := w.s0, s1 := fun c h1 h2 => w.s1 c h1 (by omega), lo := fun c h1 h2 => w.lo c h1 (by omega), ro := fun c h1 h2 => w.ro c h1 (by omega) }
theorem mem_steps {m : Nat} {e : Nat × Nat} : e ∈ steps L R sz m ↔ e = (0, 1) ∨ ∃ c, 0 < c ∧ c ≤ m ∧ e ∈ stepsOf L R sz c := by
  induction m with
  | zero =>
    show e ∈ [(0, 1)] ↔ _
    rw [List.mem_singleton]
    constructor
    · exact .inl
    · rintro (h | ⟨c, h1, h2, _⟩)
      · exact h
      · omega
  | succ m ih =>
    show e ∈ steps L R sz m ++ stepsOf L R sz (m + 1) ↔ _
    rw [List.mem_append, ih]
    constructor
    · rintro ((h | ⟨c, h1, h2, h3⟩) | h)
      · exact .inl h
      · exact .inr ⟨c, h1, by omega, h3⟩
      · exact .inr ⟨m + 1, by omega, by omega, h⟩
    · rintro (h | ⟨c, h1, h2, h3⟩)
      · exact .inl (.inl h)
      · by_cases hc : c ≤ m
        · exact .inl (.inr ⟨c, h1, hc, h3⟩)
        · have e : c = m + 1 := by omega
          rw [e] at h3
          exact .inr h3
theorem mem_stepsOf {c : Nat} {e : Nat × Nat} : e ∈ stepsOf L R sz c ↔ e = (ps sz (L c), off sz c) ∨ (∃ i, i < sz c - 1 ∧ e = (off sz c + i, off sz c + i + 1)) ∨ e = (off sz c + sz c - 1, ps sz (R c)) := by
  unfold stepsOf
  simp only [List.cons_append, List.mem_cons, List.mem_append, List.mem_map, List.mem_range, List.not_mem_nil, or_false]
  constructor
  · rintro (h | ⟨i, hi, rfl⟩ | h)
    · exact .inl h
    · exact .inr (.inl ⟨i, hi, rfl⟩)
    · exact .inr (.inr h)
  · rintro (h | ⟨i, hi, rfl⟩ | h)
    · exact .inl h
    · exact .inr (.inl ⟨i, hi, rfl⟩)
    · exact .inr (.inr h)
/-- each step is one of the order -/
theorem step_A (w : Wv L R sz n) {a b : Nat} (h : (a, b) ∈ steps L R sz (n - 1)) : ∃ x y, Ok sz n x ∧ Ok sz n y ∧ ps sz x = a ∧ ps sz y = b ∧ A L R x y := by
  have n0 := w.n0
  rcases mem_steps.mp h with h | ⟨c, h1, h2, h3⟩
  · cases h
    refine ⟨(0, 0), (0, 1), ⟨n0, by rw [w.s0]; decide⟩, ⟨n0, by rw [w.s0]; decide⟩, rfl, rfl, .same rfl (by decide)⟩
  · have hc : c < n := by omega
    have hs := w.s1 c h1 hc
    rcases mem_stepsOf.mp h3 with e | ⟨i, hi, e⟩ | e
    · cases e
      exact ⟨L c, (c, 0), w.okL h1 hc, ⟨hc, hs⟩, rfl, rfl, .lEq (w.l c h1 hc) rfl⟩
    · cases e
      exact ⟨(c, i), (c, i + 1), ⟨hc, by show i < sz c; omega⟩, ⟨hc, by show i + 1 < sz c; omega⟩, rfl, by unfold ps; show off sz c + (i + 1) = _; omega, .same rfl (by show i < i + 1; omega)⟩
    · cases e
      exact ⟨(c, sz c - 1), R c, ⟨hc, by show sz c - 1 < sz c; omega⟩, w.okR h1 hc, by unfold ps; show off sz c + (sz c - 1) = _; omega, rfl, .rEq (w.r c h1 hc) rfl⟩
theorem rch_row (w : Wv L R sz n) {c : Nat} (hc : c < n) : ∀ {i j : Nat}, i < j → j < sz c → Rch (steps L R sz (n - 1)) (off sz c + i) (off sz c + j) := by
  intro i j hij
  obtain ⟨d, rfl⟩ : ∃ d, j = i + 1 + d := ⟨j - (i + 1), by omega⟩
  clear hij
  have one : ∀ i, i + 1 < sz c → Rch (steps L R sz (n - 1)) (off sz c + i) (off sz c + i + 1) := by
    intro i hi
    refine ⟨1, .one (mem_steps.mpr ?_)⟩
    by_cases h0 : c = 0
    · subst h0
      have z := w.s0
      have e : i = 0 := by omega
      subst e
      exact .inl rfl
    · exact .inr ⟨c, by omega, by omega, mem_stepsOf.mpr (.inr (.inl ⟨i, by omega, rfl⟩))⟩
  induction d with
  | zero => intro h; exact one i h
  | succ d ih =>
    intro h
    have p := ih (by omega)
    have q := one (i + 1 + d) (by omega)
    exact p.tr q
theorem rch_A (w : Wv L R sz n) {x y : Sg} (a : A L R x y) : Ok sz n x → Ok sz n y → Rch (steps L R sz (n - 1)) (ps sz x) (ps sz y) := by
  have toR : ∀ {x : Sg}, Ok sz n x → 0 < x.1 → Rch (steps L R sz (n - 1)) (ps sz x) (ps sz (R x.1)) := by
    intro x hx h0
    have e : Rch (steps L R sz (n - 1)) (off sz x.1 + sz x.1 - 1) (ps sz (R x.1)) := ⟨1, .one (mem_steps.mpr (.inr ⟨x.1, h0, by have := hx.1; omega, mem_stepsOf.mpr (.inr (.inr rfl))⟩))⟩
    by_cases hl : x.2 = sz x.1 - 1
    · have e2 : ps sz x = off sz x.1 + sz x.1 - 1 := by unfold ps; have := hx.2; omega
      rw [e2]
      exact e
    · have p := rch_row w hx.1 (i := x.2) (j := sz x.1 - 1) (by have := hx.2; omega) (by have := hx.2; omega)
      have e2 : off sz x.1 + (sz x.1 - 1) = off sz x.1 + sz x.1 - 1 := by have := hx.2; omega
      rw [e2] at p
      exact p.tr e
  have toL : ∀ {y : Sg}, Ok sz n y → 0 < y.1 → Rch (steps L R sz (n - 1)) (ps sz (L y.1)) (ps sz y) := by
    intro y hy h0
    have e : Rch (steps L R sz (n - 1)) (ps sz (L y.1)) (off sz y.1) := ⟨1, .one (mem_steps.mpr (.inr ⟨y.1, h0, by have := hy.1; omega, mem_stepsOf.mpr (.inl rfl)⟩))⟩
    by_cases hl : y.2 = 0
    · have e2 : ps sz y = off sz y.1 := by unfold ps; omega
      rw [e2]
      exact e
    · exact e.tr (rch_row w hy.1 (i := 0) (j := y.2) (by omega) hy.2)
  induction a with
  | @same x y h i =>
    intro hx hy
    unfold ps
    rw [← h]
    exact rch_row w hx.1 i (by rw [h]; exact hy.2)
  | @rEq x y h e => intro hx hy; exact e ▸ toR hx (by omega)
  | @rGo x y h a ih => intro hx hy; exact (toR hx (by omega)).tr (ih (w.okR (by omega) hx.1) hy)
  | @lEq x y h e => intro hx hy; exact e ▸ toL hy (by omega)
  | @lGo x y h a ih => intro hx hy; exact (ih hx (w.okL (by omega) hy.1)).tr (toL hy (by omega))
theorem A_rch (w : Wv L R sz n) {x y : Sg} (hx : Ok sz n x) (hy : Ok sz n y) (p : Rch (steps L R sz (n - 1)) (ps sz x) (ps sz y)) : A L R x y := by
  obtain ⟨k, p⟩ := p
  have key : ∀ {k a b}, Pth (steps L R sz (n - 1)) k a b → ∃ u v, Ok sz n u ∧ Ok sz n v ∧ ps sz u = a ∧ ps sz v = b ∧ A L R u v := by
    intro k a b p
    induction p with
    | one h => exact step_A w h
    | step h p ih =>
      obtain ⟨u, v, h1, h2, h3, h4, h5⟩ := step_A w h
      obtain ⟨u', v', g1, g2, g3, g4, g5⟩ := ih
      have e := ps_inj h2 g1 (h4.trans g3.symm)
      subst e
      exact ⟨u, v', h1, g2, h3, g4, w.tr h1.1 h2.1 g2.1 h5 g5⟩
  obtain ⟨u, v, h1, h2, h3, h4, h5⟩ := key p
  have e1 := ps_inj hx h1 h3.symm
  have e2 := ps_inj hy h2 h4.symm
  subst e1 e2
  exact h5
theorem rch_iff (w : Wv L R sz n) {x y : Sg} (hx : Ok sz n x) (hy : Ok sz n y) : Rch (steps L R sz (n - 1)) (ps sz x) (ps sz y) ↔ A L R x y := ⟨A_rch w hx hy, fun a => rch_A w a hx hy⟩
theorem step_lt (w : Wv L R sz n) {a b : Nat} (h : (a, b) ∈ steps L R sz (n - 1)) : a < off sz n ∧ b < off sz n := by
  obtain ⟨x, y, hx, hy, rfl, rfl, _⟩ := step_A w h
  exact ⟨ps_lt hx, ps_lt hy⟩
theorem path_bound (w : Wv L R sz n) {k a b : Nat} (p : Pth (steps L R sz (n - 1)) k a b) : k + 1 ≤ off sz n := by
  refine Pth.bound (lt := fun a b => ∃ x y, Ok sz n x ∧ Ok sz n y ∧ ps sz x = a ∧ ps sz y = b ∧ A L R x y) (fun a b h => ⟨step_A w h, step_lt w h⟩) (fun a b c ha hb hc h1 h2 => ?_) (fun a h => ?_) p
  · obtain ⟨x, y, hx, hy, rfl, rfl, a1⟩ := h1
    obtain ⟨y', z, hy', hz, e, rfl, a2⟩ := h2
    have e' := ps_inj hy' hy e
    subst e'
    exact ⟨x, z, hx, hz, rfl, rfl, w.tr hx.1 hy.1 hz.1 a1 a2⟩
  · obtain ⟨x, y, hx, hy, rfl, e, a1⟩ := h
    have e' := ps_inj hy hx e
    subst e'
    exact A.irr a1
theorem steps_len (w : Wv L R sz n) : off sz n ≤ (steps L R sz (n - 1)).length + 1 := by
  have key : ∀ m, m < n → off sz (m + 1) ≤ (steps L R sz m).length + 1 := by
    intro m
    induction m with
    | zero =>
      intro _
      show 0 + sz 0 ≤ 1 + 1
      rw [w.s0]
      decide
    | succ m ih =>
      intro h
      have z := ih (by omega)
      show off sz (m + 1) + sz (m + 1) ≤ (steps L R sz m ++ stepsOf L R sz (m + 1)).length + 1
      rw [List.length_append]
      have e : (stepsOf L R sz (m + 1)).length = sz (m + 1) - 1 + 2 := by
        unfold stepsOf
        simp
      rw [e]
      omega
  have n0 := w.n0
  have z := key (n - 1) (by omega)
  rw [Nat.sub_add_cancel n0] at z
  exact z
/-- the table tells the order -/
def Tells (L R : Nat → Sg) (sz : Nat → Nat) (n : Nat) (T : List Nat) : Prop := T.length = off sz n ∧ ∀ x y, Ok sz n x → Ok sz n y → (Bit T (ps sz x) (ps sz y) ↔ A L R x y)
/-- the table under way: sound, all paths of at most r steps -/
structure Under (L R : Nat → Sg) (sz : Nat → Nat) (n : Nat) (T : List Nat) (r : Nat) : Prop where
  len : T.length = off sz n
  snd : ∀ a b, Bit T a b → Rch (steps L R sz (n - 1)) a b
  upto : Upto (steps L R sz (n - 1)) T r
theorem Under.zero : Under L R sz n (List.replicate (off sz n) 0) 0 := by
  refine ⟨List.length_replicate, fun a b h => ?_, fun k a b p hk => ?_⟩
  · exfalso
    unfold Bit at h
    have e : (List.replicate (off sz n) 0).getD a 0 = 0 := by
      simp [List.getD, List.getElem?_replicate]
      split <;> rfl
    rw [e] at h
    simp at h
  · cases p <;> omega
theorem Under.fst (w : Wv L R sz n) {T : List Nat} {r : Nat} (u : Under L R sz n T r) : ∀ e ∈ steps L R sz (n - 1), e.1 < T.length := fun e he => by
  rw [u.len]
  exact (step_lt w (a := e.1) (b := e.2) he).1
theorem Under.lap (w : Wv L R sz n) {T : List Nat} {r : Nat} (u : Under L R sz n T r) : Under L R sz n (lap (steps L R sz (n - 1)) T) (r + 1) :=
  ⟨(lap_len _ _).trans u.len, lap_sound _ (fun _ h => h) (u.fst w) u.snd, u.upto.lap (u.fst w)⟩
theorem Under.done (w : Wv L R sz n) {T : List Nat} {r : Nat} (u : Under L R sz n T r) (h : off sz n ≤ r + 1) : Tells L R sz n T :=
  ⟨u.len, fun x y hx hy => ⟨fun b => A_rch w hx hy (u.snd _ _ b), fun a => by
    obtain ⟨k, p⟩ := rch_A w a hx hy
    have z := path_bound w p
    exact u.upto k _ _ p (by omega)⟩⟩
theorem Under.still (w : Wv L R sz n) {T : List Nat} {r : Nat} (u : Under L R sz n T r) (h : ∀ a b c, (a, b) ∈ steps L R sz (n - 1) → c = b ∨ Bit T b c → Bit T a c) : Tells L R sz n T :=
  ⟨u.len, fun x y hx hy => ⟨fun b => A_rch w hx hy (u.snd _ _ b), fun a => still_all (u.fst w) h (rch_A w a hx hy)⟩⟩
end
end Tl
namespace Tl
/-! ### hops -/
inductive Hps (L R : Nat → Sg) : Sg → Sg → List (Sg × Sg) → Prop where
  | stop {x y : Sg} (h : x.1 = y.1) : Hps L R x y [(x, y)]
  | rgo {x y : Sg} {hs : List (Sg × Sg)} (h : y.1 < x.1) (t : Hps L R (R x.1) y hs) : Hps L R x y ((x, y) :: hs)
  | lgo {x y : Sg} {hs : List (Sg × Sg)} (h : x.1 < y.1) (t : Hps L R x (L y.1) hs) : Hps L R x y ((x, y) :: hs)
section
variable {L R : Nat → Sg} {x y : Sg} {hs hs' : List (Sg × Sg)}
theorem Hps.det (h : Hps L R x y hs) : ∀ {hs'}, Hps L R x y hs' → hs = hs' := by
  induction h with
  | stop h => intro hs' g; cases g with
    | stop _ => rfl
    | rgo k _ => omega
    | lgo k _ => omega
  | rgo h t ih => intro hs' g; cases g with
    | stop k => omega
    | rgo _ t' => rw [ih t']
    | lgo k _ => omega
  | lgo h t ih => intro hs' g; cases g with
    | stop k => omega
    | rgo k _ => omega
    | lgo _ t' => rw [ih t']
theorem E.iff_le {x y : Sg} (h : x.1 = y.1) : E L R x y ↔ x.2 ≤ y.2 := by
  unfold E
  rw [A.same_iff h]
  constructor
  · rintro (rfl | h) <;> omega
  · intro h2
    by_cases e : x.2 = y.2
    · exact .inl (Prod.ext h e)
    · exact .inr (by omega)
theorem E.iff_A {x y : Sg} (h : x.1 ≠ y.1) : E L R x y ↔ A L R x y := ⟨fun e => e.elim (fun z => absurd (congrArg Prod.fst z) h) id, .inr⟩
theorem Hps.last (h : Hps L R x y hs) : ∃ l r pre, hs = pre ++ [(l, r)] ∧ (E L R x y ↔ l.2 ≤ r.2) ∧ (A L R x y ↔ l.2 < r.2 ∨ (l.2 = r.2 ∧ 1 < hs.length)) := by
  induction h with
  | @stop x y h =>
    refine ⟨x, y, [], rfl, E.iff_le h, ?_⟩
    rw [A.same_iff h]
    simp
  | @rgo x y hs h t ih =>
    obtain ⟨l, r, pre, rfl, h1, h2⟩ := ih
    have e : E L R x y ↔ l.2 ≤ r.2 := by rw [E.iff_A (by omega), A.r_iff h]; exact h1
    refine ⟨l, r, (x, y) :: pre, rfl, e, ?_⟩
    rw [A.r_iff h, h1]
    simp
    omega
  | @lgo x y hs h t ih =>
    obtain ⟨l, r, pre, rfl, h1, h2⟩ := ih
    have e : E L R x y ↔ l.2 ≤ r.2 := by rw [E.iff_A (by omega), A.l_iff h]; exact h1
    refine ⟨l, r, (x, y) :: pre, rfl, e, ?_⟩
    rw [A.l_iff h, h1]
    simp
    omega
end
end Tl
namespace Tl
section
variable {L R : Nat → Sg} {sz : Nat → Nat} {n : Nat} {x y : Sg}
theorem ps_of_mark {j : Nat} (h : (marks sz n)[j]? = some x) : ps sz x = j := by
  have hj := (List.getElem?_eq_some_iff.mp h).1
  rw [marks_len] at hj
  obtain ⟨y, oy, e⟩ := sign_at hj
  have z := marks_at oy
  rw [e, h] at z
  rw [Option.some.inj z]
  exact e
theorem mark_first (o : Ok sz n x) : (marks sz n)[ps sz x]? = some x ∧ ∀ i, i < ps sz x → (marks sz n)[i]? ≠ some x :=
  ⟨marks_at o, fun i hi e => by
    have z := ps_of_mark e
    omega⟩
theorem off_le (h0 : sz 0 ≤ 2) (h : ∀ c, 0 < c → c < n → sz c ≤ 3) : ∀ m, m ≤ n → off sz m ≤ 3 * m
  | 0, _ => Nat.le_refl _
  | m + 1, hm => by
    have z := off_le h0 h m (by omega)
    show off sz m + sz m ≤ _
    by_cases e : m = 0
    · subst e
      omega
    · have := h m (by omega) (by omega)
      omega
theorem Ok.mono {m : Nat} (o : Ok sz n x) (h : n ≤ m) : Ok sz m x := ⟨Nat.lt_of_lt_of_le o.1 h, o.2⟩
theorem marks_one (h : sz 0 = 2) : marks sz 1 = [(0, 0), (0, 1)] := by
  show [] ++ rowOf sz 0 = _
  unfold rowOf
  rw [h]
  rfl
theorem bit_same {T : List Nat} {e : Nat × Nat} (h : put T e = T) (hl : e.1 < T.length) : ∀ c, c = e.2 ∨ Bit T e.2 c → Bit T e.1 c := fun c hc => by
  have z := (bit_put (T := T) hl (a := e.1) (b := c)).mpr (.inr ⟨rfl, hc⟩)
  rw [h] at z
  exact z
theorem put_eq {T : List Nat} {e : Nat × Nat} (hl : e.1 < T.length) (h : T.getD e.1 0 ||| 1 <<< e.2 ||| T.getD e.2 0 = T.getD e.1 0) : put T e = T := by
  unfold put
  rw [h]
  refine List.ext_getElem? fun i => ?_
  rw [List.getElem?_set]
  split
  · rename_i hi
    subst hi
    rw [List.getD_eq_getElem?_getD, List.getElem?_eq_getElem hl]
    rfl
  · rfl
theorem lap_snoc {S : List (Nat × Nat)} {T : List Nat} {e : Nat × Nat} : lap (S ++ [e]) T = put (lap S T) e := by
  unfold lap
  rw [List.foldl_append]
  rfl
/-! ### what is behind, what is ahead -/
def bh (T : List Nat) (j : Nat) : List Nat := (List.range T.length).filter fun k => (T.getD j 0).testBit k
def ah (T : List Nat) (j : Nat) : List Nat := (List.range T.length).filter fun k => (T.getD k 0).testBit j
def cl (T : List Nat) (j : Nat) : List Nat := (bh T j).filter fun k => ((bh T j).filter fun m => (T.getD m 0).testBit k).isEmpty
theorem mem_bh {T : List Nat} {j k : Nat} : k ∈ bh T j ↔ k < T.length ∧ Bit T j k := by
  unfold bh Bit
  rw [List.mem_filter, List.mem_range]
theorem mem_ah {T : List Nat} {j k : Nat} : k ∈ ah T j ↔ k < T.length ∧ Bit T k j := by
  unfold ah Bit
  rw [List.mem_filter, List.mem_range]
theorem cl_sub {T : List Nat} {j k : Nat} (h : k ∈ cl T j) : k ∈ bh T j := (List.mem_filter.mp h).1
/-- a row with a strict order has a least one -/
theorem least {lt : Nat → Nat → Prop} : ∀ (l : List Nat), l ≠ [] → (∀ a ∈ l, ∀ b ∈ l, ∀ c ∈ l, lt a b → lt b c → lt a c) → (∀ a ∈ l, ¬ lt a a) → ∃ k ∈ l, ∀ m ∈ l, ¬ lt m k := by
  intro l
  induction l with
  | nil => intro h; exact absurd rfl h
  | cons x r ih =>
    intro _ tr ir
    by_cases hr : r = []
    · subst hr
      refine ⟨x, List.mem_cons_self .., fun m hm => ?_⟩
      rw [List.mem_singleton.mp hm]
      exact ir x (List.mem_cons_self ..)
    · obtain ⟨k, hk, hm⟩ := ih hr (fun a ha b hb c hc => tr a (List.mem_cons_of_mem _ ha) b (List.mem_cons_of_mem _ hb) c (List.mem_cons_of_mem _ hc)) (fun a ha => ir a (List.mem_cons_of_mem _ ha))
      have hk' := List.mem_cons_of_mem x hk
      by_cases hx : lt x k
      · refine ⟨x, List.mem_cons_self .., fun m hm' hl => ?_⟩
        rcases List.mem_cons.mp hm' with rfl | hm2
        · exact ir _ (List.mem_cons_self ..) hl
        · exact hm m hm2 (tr m hm' x (List.mem_cons_self ..) k hk' hl hx)
      · refine ⟨k, hk', fun m hm' hl => ?_⟩
        rcases List.mem_cons.mp hm' with rfl | hm2
        · exact hx hl
        · exact hm m hm2 hl
theorem Tells.bit_lt {T : List Nat} (t : Tells L R sz n T) {a b : Nat} (ha : a < T.length) (hb : b < T.length) : ∃ x y, Ok sz n x ∧ Ok sz n y ∧ ps sz x = a ∧ ps sz y = b ∧ (Bit T a b ↔ A L R x y) := by
  rw [t.1] at ha hb
  obtain ⟨x, hx, rfl⟩ := sign_at ha
  obtain ⟨y, hy, rfl⟩ := sign_at hb
  exact ⟨x, y, hx, hy, rfl, rfl, t.2 x y hx hy⟩
theorem Tells.cl_ne {T : List Nat} (w : Wv L R sz n) (t : Tells L R sz n T) {j : Nat} (hj : j < T.length) (h : bh T j ≠ []) : cl T j ≠ [] := by
  obtain ⟨k, hk, hm⟩ := least (lt := fun a b => Bit T a b) (bh T j) h (fun a ha b hb c hc h1 h2 => by
    obtain ⟨x, y, ox, oy, ex, ey, i1⟩ := t.bit_lt (mem_bh.mp ha).1 (mem_bh.mp hb).1
    obtain ⟨y', z, oy', oz, ey', ez, i2⟩ := t.bit_lt (mem_bh.mp hb).1 (mem_bh.mp hc).1
    have e := ps_inj oy' oy (ey'.trans ey.symm)
    subst e
    have a3 := w.tr ox.1 oy.1 oz.1 (i1.mp h1) (i2.mp h2)
    have z := (t.2 x z ox oz).mpr a3
    rw [ex, ez] at z
    exact z) (fun a ha h1 => by
    obtain ⟨x, y, ox, oy, ex, ey, i1⟩ := t.bit_lt (mem_bh.mp ha).1 (mem_bh.mp ha).1
    have e := ps_inj ox oy (ex.trans ey.symm)
    subst e
    exact A.irr (i1.mp h1))
  refine List.ne_nil_of_mem (a := k) (List.mem_filter.mpr ⟨hk, ?_⟩)
  rw [List.isEmpty_iff, List.filter_eq_nil_iff]
  exact fun m hm' hb => hm m hm' hb
theorem Tells.bh0 {T : List Nat} (w : Wv L R sz n) (t : Tells L R sz n T) : bh T 0 ≠ [] ∧ 1 < T.length := by
  have n0 := w.n0
  have o0 : Ok sz n (0, 0) := ⟨n0, by show 0 < sz 0; rw [w.s0]; decide⟩
  have o1 : Ok sz n (0, 1) := ⟨n0, by show 1 < sz 0; rw [w.s0]; decide⟩
  have h1 := ps_lt o1
  have e1 : ps sz (0, 1) = 1 := rfl
  rw [e1, ← t.1] at h1
  have b : Bit T 0 1 := (t.2 (0, 0) (0, 1) o0 o1).mpr (.same rfl (by decide))
  exact ⟨List.ne_nil_of_mem (a := 1) (mem_bh.mpr ⟨h1, b⟩), h1⟩
end
end Tl
namespace Tl
theorem steps_le {L R : Nat → Sg} {sz : Nat → Nat} {n : Nat} (w : Wv L R sz n) : ∀ m, m < n → (steps L R sz m).length ≤ off sz (m + 1) + m
  | 0, _ => by
    show 1 ≤ (off sz 0 + sz 0) + 0
    rw [w.s0]
    show 1 ≤ 0 + 2 + 0
    omega
  | m + 1, h => by
    have z := steps_le w m (by omega)
    have s := w.s1 (m + 1) (by omega) h
    show (steps L R sz m ++ stepsOf L R sz (m + 1)).length ≤ (off sz (m + 1) + sz (m + 1)) + (m + 1)
    rw [List.length_append]
    have e : (stepsOf L R sz (m + 1)).length = sz (m + 1) - 1 + 2 := by
      unfold stepsOf
      simp
    rw [e]
    omega
end Tl
namespace Tl
def upn {α : Type} (f : Nat → α) (n : Nat) (x : α) : Nat → α := fun k => if k = n then x else f k
theorem upd_at {α : Type} {f : Nat → α} {n : Nat} {x : α} : upn f n x n = x := if_pos rfl
theorem upn_ne {α : Type} {f : Nat → α} {n k : Nat} {x : α} (h : k < n) : upn f n x k = f k := if_neg (by omega)
section
variable {L R : Nat → Sg} {sz : Nat → Nat} {n s : Nat} {x y : Sg}
theorem Wv.congrUp (w : Wv L R sz n) {u v : Sg} (hu : u.1 < n) (hv : v.1 < n) (a : A L R u v) : A (upn L n x) (upn R n y) u v :=
  A.congr (n := n) (fun c _ h => (upn_ne h).symm) (fun c _ h => (upn_ne h).symm) (fun c h0 h => ⟨w.l c h0 h, w.r c h0 h⟩) a hu hv
theorem Wv.step (w : Wv L R sz n) (ox : Ok sz n x) (oy : Ok sz n y) (a : A L R x y) (s0 : 0 < s) : Wv (upn L n x) (upn R n y) (upn sz n s) (n + 1) := by
  have n0 := w.n0
  have cs : ∀ c, c < n + 1 → c < n ∨ c = n := fun c h => by omega
  refine { l := fun c h0 h => ?_, r := fun c h0 h => ?_, lr := fun c h0 h => ?_, n0 := by omega, s0 := ?_, s1 := fun c h0 h => ?_, lo := fun c h0 h => ?_, ro := fun c h0 h => ?_ }
  · rcases cs c h with h | rfl
    · rw [upn_ne h]; exact w.l c h0 h
    · rw [upd_at]; exact ox.1
  · rcases cs c h with h | rfl
    · rw [upn_ne h]; exact w.r c h0 h
    · rw [upd_at]; exact oy.1
  · rcases cs c h with h | rfl
    · rw [upn_ne h, upn_ne h]
      exact w.congrUp (Nat.lt_trans (w.l c h0 h) h) (Nat.lt_trans (w.r c h0 h) h) (w.lr c h0 h)
    · rw [upd_at, upd_at]
      exact w.congrUp ox.1 oy.1 a
  · rw [upn_ne n0]; exact w.s0
  · rcases cs c h with h | rfl
    · rw [upn_ne h]; exact w.s1 c h0 h
    · rw [upd_at]; exact s0
  · rcases cs c h with h | rfl
    · rw [upn_ne h, upn_ne (Nat.lt_trans (w.l c h0 h) h)]; exact w.lo c h0 h
    · rw [upd_at, upn_ne ox.1]; exact ox.2
  · rcases cs c h with h | rfl
    · rw [upn_ne h, upn_ne (Nat.lt_trans (w.r c h0 h) h)]; exact w.ro c h0 h
    · rw [upd_at, upn_ne oy.1]; exact oy.2
theorem Wv.one : Wv (fun _ => (0, 0)) (fun _ => (0, 1)) (fun _ => 2) 1 :=
  { l := fun c h0 h => by omega, r := fun c h0 h => by omega, lr := fun c h0 h => by omega, n0 := by omega, s0 := rfl, s1 := fun c h0 h => by omega, lo := fun c h0 h => by omega, ro := fun c h0 h => by omega }
end
end Tl
namespace Tl
section
variable {L R : Nat → Sg} {sz : Nat → Nat} {n s : Nat} {x y l r : Sg} {X Y : List Sg}
/-- a row in the order -/
def Srt (L R : Nat → Sg) (row : List Sg) : Prop := row.Pairwise (A L R)
theorem Srt.step (w : Wv L R sz n) (ok : ∀ u ∈ X ++ l :: r :: Y, Ok sz n u) (h : Srt L R (X ++ l :: r :: Y)) : Srt (upn L n l) (upn R n r) (X ++ l :: (n, 0) :: r :: Y) := by
  unfold Srt at *
  have up : ∀ {u v}, u ∈ X ++ l :: r :: Y → v ∈ X ++ l :: r :: Y → A L R u v → A (upn L n l) (upn R n r) u v := fun hu hv a => w.congrUp (ok _ hu).1 (ok _ hv).1 a
  rw [List.pairwise_append] at h ⊢
  obtain ⟨h1, h2, h3⟩ := h
  rw [List.pairwise_cons] at h2
  obtain ⟨h4, h5⟩ := h2
  rw [List.pairwise_cons] at h5
  obtain ⟨h6, h7⟩ := h5
  have mX : ∀ {u}, u ∈ X → u ∈ X ++ l :: r :: Y := fun h => List.mem_append_left _ h
  have mY : ∀ {u}, u ∈ Y → u ∈ X ++ l :: r :: Y := fun h => List.mem_append_right _ (List.mem_cons_of_mem _ (List.mem_cons_of_mem _ h))
  have ml : l ∈ X ++ l :: r :: Y := List.mem_append_right _ (List.mem_cons_self ..)
  have mr : r ∈ X ++ l :: r :: Y := List.mem_append_right _ (List.mem_cons_of_mem _ (List.mem_cons_self ..))
  have lo : ∀ {u}, u ∈ X ++ l :: r :: Y → E (upn L n l) (upn R n r) u l → A (upn L n l) (upn R n r) u (n, 0) := fun hu e => (A.l_iff (ok _ hu).1).mpr (by
    show E _ _ _ (upn L n l n)
    rw [upd_at]
    exact e)
  have hi : ∀ {u}, u ∈ X ++ l :: r :: Y → E (upn L n l) (upn R n r) r u → A (upn L n l) (upn R n r) (n, 0) u := fun hu e => (A.r_iff (ok _ hu).1).mpr (by
    show E _ _ (upn R n r n) _
    rw [upd_at]
    exact e)
  refine ⟨h1.imp_of_mem fun ha hb a => up (mX ha) (mX hb) a, ?_, fun a ha b hb => ?_⟩
  · rw [List.pairwise_cons, List.pairwise_cons, List.pairwise_cons]
    refine ⟨fun a ha => ?_, fun a ha => ?_, fun a ha => up mr (mY ha) (h6 a ha), h7.imp_of_mem fun ha hb a => up (mY ha) (mY hb) a⟩
    · rcases List.mem_cons.mp ha with rfl | ha
      · exact lo ml (.inl rfl)
      · rcases List.mem_cons.mp ha with rfl | ha
        · exact up ml mr (h4 _ (List.mem_cons_self ..))
        · exact up ml (mY ha) (h4 _ (List.mem_cons_of_mem _ ha))
    · rcases List.mem_cons.mp ha with rfl | ha
      · exact hi mr (.inl rfl)
      · exact hi (mY ha) (.inr (up mr (mY ha) (h6 a ha)))
  · rcases List.mem_cons.mp hb with rfl | hb
    · exact up (mX ha) ml (h3 a ha _ (List.mem_cons_self ..))
    · rcases List.mem_cons.mp hb with rfl | hb
      · exact lo (mX ha) (.inr (up (mX ha) ml (h3 a ha _ (List.mem_cons_self ..))))
      · rcases List.mem_cons.mp hb with rfl | hb
        · exact up (mX ha) mr (h3 a ha _ (List.mem_cons_of_mem _ (List.mem_cons_self ..)))
        · exact up (mX ha) (mY hb) (h3 a ha _ (List.mem_cons_of_mem _ (List.mem_cons_of_mem _ hb)))
theorem Srt.lt {row : List Sg} (h : Srt L R row) {i j : Nat} {x y : Sg} (hi : row[i]? = some x) (hj : row[j]? = some y) (hij : i < j) : A L R x y := by
  obtain ⟨h1, rfl⟩ := List.getElem?_eq_some_iff.mp hi
  obtain ⟨h2, rfl⟩ := List.getElem?_eq_some_iff.mp hj
  exact List.pairwise_iff_getElem.mp h i j h1 h2 hij
theorem Srt.iff {row : List Sg} (w : Wv L R sz n) (ok : ∀ u ∈ row, Ok sz n u) (h : Srt L R row) {i j : Nat} {x y : Sg} (hi : row[i]? = some x) (hj : row[j]? = some y) : (A L R x y ↔ i < j) ∧ (E L R x y ↔ i ≤ j) := by
  have ox := ok x (List.mem_of_getElem? hi)
  have oy := ok y (List.mem_of_getElem? hj)
  rcases Nat.lt_trichotomy i j with hij | rfl | hij
  · have a := h.lt hi hj hij
    exact ⟨⟨fun _ => hij, fun _ => a⟩, fun _ => by omega, fun _ => .inr a⟩
  · rw [hi] at hj
    obtain rfl := Option.some.inj hj
    exact ⟨⟨fun a => absurd a A.irr, fun z => by omega⟩, fun _ => by omega, fun _ => .inl rfl⟩
  · have a := h.lt hj hi hij
    have no : ¬ A L R x y := fun b => A.irr (w.tr ox.1 oy.1 ox.1 b a)
    refine ⟨⟨fun b => absurd b no, fun z => by omega⟩, fun e => ?_, fun z => by omega⟩
    rcases e with rfl | e
    · exact absurd a A.irr
    · exact absurd e no
end
end Tl
namespace Tl
/-! ### meets and joins, by going down -/
section
variable (L R : Nat → Sg)
/-- the meet as the point finds it -/
inductive Mt : Sg → Sg → Sg → Prop where
  | same {x y : Sg} (h : x.1 = y.1) : Mt x y (if y.2 < x.2 then y else x)
  | rTop {x y : Sg} (h : y.1 < x.1) (a : A L R x y) : Mt x y x
  | rGo {x y m : Sg} (h : y.1 < x.1) (a : ¬ A L R x y) (t : Mt y (L x.1) m) : Mt x y m
  | lTop {x y : Sg} (h : x.1 < y.1) (a : A L R y x) : Mt x y y
  | lGo {x y m : Sg} (h : x.1 < y.1) (a : ¬ A L R y x) (t : Mt x (L y.1) m) : Mt x y m
inductive Jn : Sg → Sg → Sg → Prop where
  | same {x y : Sg} (h : x.1 = y.1) : Jn x y (if x.2 < y.2 then y else x)
  | rTop {x y : Sg} (h : y.1 < x.1) (a : A L R y x) : Jn x y x
  | rGo {x y m : Sg} (h : y.1 < x.1) (a : ¬ A L R y x) (t : Jn y (R x.1) m) : Jn x y m
  | lTop {x y : Sg} (h : x.1 < y.1) (a : A L R x y) : Jn x y y
  | lGo {x y m : Sg} (h : x.1 < y.1) (a : ¬ A L R x y) (t : Jn x (R y.1) m) : Jn x y m
end
section
variable {L R : Nat → Sg} {n : Nat} {x y z m : Sg}
theorem E.iff_A' {x y : Sg} (h : x.1 ≠ y.1) : E L R x y ↔ A L R x y := ⟨fun e => e.elim (fun z => absurd (congrArg Prod.fst z) h) id, .inr⟩
theorem E.iff_le' {x y : Sg} (h : x.1 = y.1) : E L R x y ↔ x.2 ≤ y.2 := by
  unfold E
  rw [A.same_iff h]
  constructor
  · rintro (rfl | h) <;> omega
  · intro h2
    by_cases e : x.2 = y.2
    · exact .inl (Prod.ext h e)
    · exact .inr (by omega)
theorem Bs.etr (b : Bs L R n) (hx : x.1 < n) (hy : y.1 < n) (hz : z.1 < n) (e1 : E L R x y) (e2 : E L R y z) : E L R x z := by
  rcases e1 with rfl | e1
  · exact e2
  · rcases e2 with rfl | e2
    · exact .inr e1
    · exact .inr (b.tr hx hy hz e1 e2)
theorem Bs.anti (b : Bs L R n) (hx : x.1 < n) (hy : y.1 < n) (e1 : E L R x y) (e2 : E L R y x) : x = y := by
  rcases e1 with rfl | e1
  · rfl
  · rcases e2 with rfl | e2
    · rfl
    · exact absurd (b.tr hx hy hx e1 e2) A.irr
/-- what is at or ahead of both lies at or ahead of the left of the greater chunk, where that chunk's sign is not ahead of the other one -/
theorem Bs.down (b : Bs L R n) (hx : x.1 < n) (hy : y.1 < n) (h : x.1 < y.1) (na : ¬ A L R y x) : ∀ k, ∀ z : Sg, z.1 < k → z.1 < n → E L R z x → E L R z y → E L R z (L y.1) := by
  intro k
  induction k with
  | zero => intro z hz; omega
  | succ k ih =>
    intro z hk hz e1 e2
    rcases Nat.lt_trichotomy z.1 y.1 with hzy | hzy | hzy
    · exact (A.l_iff hzy).mp ((E.iff_A' (by omega)).mp e2)
    · exfalso
      have a1 := (E.iff_A' (x := z) (y := x) (by omega)).mp e1
      have e3 := (A.r_iff (by omega)).mp a1
      rw [hzy] at e3
      exact na ((A.r_iff h).mpr e3)
    · have hr := b.r z.1 (by omega) hz
      have hl := b.l y.1 (by omega) hy
      have e3 := (A.r_iff (by omega)).mp ((E.iff_A' (x := z) (y := x) (by omega)).mp e1)
      have e4 := (A.r_iff (by omega)).mp ((E.iff_A' (x := z) (y := y) (by omega)).mp e2)
      have e5 := ih (R z.1) (by omega) (by omega) e3 e4
      exact .inr ((A.r_iff (by omega)).mpr e5)
theorem Bs.rise (b : Bs L R n) (hx : x.1 < n) (hy : y.1 < n) (h : x.1 < y.1) (na : ¬ A L R x y) : ∀ k, ∀ z : Sg, z.1 < k → z.1 < n → E L R x z → E L R y z → E L R (R y.1) z := by
  intro k
  induction k with
  | zero => intro z hz; omega
  | succ k ih =>
    intro z hk hz e1 e2
    rcases Nat.lt_trichotomy z.1 y.1 with hzy | hzy | hzy
    · exact (A.r_iff hzy).mp ((E.iff_A' (by omega)).mp e2)
    · exfalso
      have a1 := (E.iff_A' (x := x) (y := z) (by omega)).mp e1
      have e3 := (A.l_iff (by omega)).mp a1
      rw [hzy] at e3
      exact na ((A.l_iff h).mpr e3)
    · have hl := b.l z.1 (by omega) hz
      have hr := b.r y.1 (by omega) hy
      have e3 := (A.l_iff (by omega)).mp ((E.iff_A' (x := x) (y := z) (by omega)).mp e1)
      have e4 := (A.l_iff (by omega)).mp ((E.iff_A' (x := y) (y := z) (by omega)).mp e2)
      have e5 := ih (L z.1) (by omega) (by omega) e3 e4
      exact .inr ((A.l_iff (by omega)).mpr e5)
/-- the greatest sign at or ahead of both -/
def Glb (L R : Nat → Sg) (n : Nat) (x y m : Sg) : Prop := m.1 < n ∧ E L R m x ∧ E L R m y ∧ ∀ z : Sg, z.1 < n → E L R z x → E L R z y → E L R z m
def Lub (L R : Nat → Sg) (n : Nat) (x y m : Sg) : Prop := m.1 < n ∧ E L R x m ∧ E L R y m ∧ ∀ z : Sg, z.1 < n → E L R x z → E L R y z → E L R m z
theorem Glb.comm (g : Glb L R n x y m) : Glb L R n y x m := ⟨g.1, g.2.2.1, g.2.1, fun z hz a b => g.2.2.2 z hz b a⟩
theorem Lub.comm (g : Lub L R n x y m) : Lub L R n y x m := ⟨g.1, g.2.2.1, g.2.1, fun z hz a b => g.2.2.2 z hz b a⟩
theorem Bs.left (b : Bs L R n) (hy : y.1 < n) (h0 : 0 < y.1) : E L R (L y.1) y := .inr ((A.l_iff (b.l _ h0 hy)).mpr (.inl rfl))
theorem Bs.right (b : Bs L R n) (hy : y.1 < n) (h0 : 0 < y.1) : E L R y (R y.1) := .inr ((A.r_iff (b.r _ h0 hy)).mpr (.inl rfl))
theorem Glb.go (b : Bs L R n) (hx : x.1 < n) (hy : y.1 < n) (h : x.1 < y.1) (na : ¬ A L R y x) (g : Glb L R n x (L y.1) m) : Glb L R n x y m :=
  ⟨g.1, g.2.1, b.etr g.1 (Nat.lt_trans (b.l _ (by omega) hy) hy) hy g.2.2.1 (b.left hy (by omega)), fun z hz e1 e2 => g.2.2.2 z hz e1 (b.down hx hy h na _ z (Nat.lt_succ_self _) hz e1 e2)⟩
theorem Lub.go (b : Bs L R n) (hx : x.1 < n) (hy : y.1 < n) (h : x.1 < y.1) (na : ¬ A L R x y) (g : Lub L R n x (R y.1) m) : Lub L R n x y m :=
  ⟨g.1, g.2.1, b.etr hy (Nat.lt_trans (b.r _ (by omega) hy) hy) g.1 (b.right hy (by omega)) g.2.2.1, fun z hz e1 e2 => g.2.2.2 z hz e1 (b.rise hx hy h na _ z (Nat.lt_succ_self _) hz e1 e2)⟩
theorem Mt.glb (b : Bs L R n) (t : Mt L R x y m) : x.1 < n → y.1 < n → Glb L R n x y m := by
  induction t with
  | @same x y h =>
    intro hx hy
    by_cases c : y.2 < x.2
    · rw [if_pos c]
      exact ⟨hy, .inr (.same h.symm c), .inl rfl, fun z hz _ e => e⟩
    · rw [if_neg c]
      exact ⟨hx, .inl rfl, (E.iff_le' h).mpr (by omega), fun z hz e _ => e⟩
  | rTop h a => intro hx hy; exact ⟨hx, .inl rfl, .inr a, fun z hz e _ => e⟩
  | rGo h a t ih => intro hx hy; exact (Glb.go b hy hx h a (ih hy (Nat.lt_trans (b.l _ (by omega) hx) hx))).comm
  | lTop h a => intro hx hy; exact ⟨hy, .inr a, .inl rfl, fun z hz _ e => e⟩
  | lGo h a t ih => intro hx hy; exact Glb.go b hx hy h a (ih hx (Nat.lt_trans (b.l _ (by omega) hy) hy))
theorem Jn.lub (b : Bs L R n) (t : Jn L R x y m) : x.1 < n → y.1 < n → Lub L R n x y m := by
  induction t with
  | @same x y h =>
    intro hx hy
    by_cases c : x.2 < y.2
    · rw [if_pos c]
      exact ⟨hy, .inr (.same h c), .inl rfl, fun z hz _ e => e⟩
    · rw [if_neg c]
      exact ⟨hx, .inl rfl, (E.iff_le' h.symm).mpr (by omega), fun z hz e _ => e⟩
  | rTop h a => intro hx hy; exact ⟨hx, .inl rfl, .inr a, fun z hz e _ => e⟩
  | rGo h a t ih => intro hx hy; exact (Lub.go b hy hx h a (ih hy (Nat.lt_trans (b.r _ (by omega) hx) hx))).comm
  | lTop h a => intro hx hy; exact ⟨hy, .inr a, .inl rfl, fun z hz _ e => e⟩
  | lGo h a t ih => intro hx hy; exact Lub.go b hx hy h a (ih hx (Nat.lt_trans (b.r _ (by omega) hy) hy))
theorem Glb.uniq (b : Bs L R n) {k : Sg} (g : Glb L R n x y m) (h : Glb L R n x y k) : m = k := b.anti g.1 h.1 (h.2.2.2 m g.1 g.2.1 g.2.2.1) (g.2.2.2 k h.1 h.2.1 h.2.2.1)
theorem Lub.uniq (b : Bs L R n) {k : Sg} (g : Lub L R n x y m) (h : Lub L R n x y k) : m = k := b.anti g.1 h.1 (g.2.2.2 k h.1 h.2.1 h.2.2.1) (h.2.2.2 m g.1 g.2.1 g.2.2.1)
end
end Tl
namespace Tl
section
variable {L R L' R' : Nat → Sg} {sz : Nat → Nat} {n : Nat} {x y m : Sg}
theorem Mt.ex (w : Wv L R sz n) : ∀ k, ∀ x y : Sg, x.1 + y.1 < k → Ok sz n x → Ok sz n y → ∃ m, Mt L R x y m ∧ Ok sz n m := by
  intro k
  induction k with
  | zero => intro x y h; omega
  | succ k ih =>
    intro x y h ox oy
    rcases Nat.lt_trichotomy x.1 y.1 with c | c | c
    · by_cases a : A L R y x
      · exact ⟨y, .lTop c a, oy⟩
      · have hl := w.l y.1 (by omega) oy.1
        obtain ⟨m, h1, h2⟩ := ih x (L y.1) (by omega) ox (w.okL (by omega) oy.1)
        exact ⟨m, .lGo c a h1, h2⟩
    · refine ⟨_, .same c, ?_⟩
      split
      · exact oy
      · exact ox
    · by_cases a : A L R x y
      · exact ⟨x, .rTop c a, ox⟩
      · have hl := w.l x.1 (by omega) ox.1
        obtain ⟨m, h1, h2⟩ := ih y (L x.1) (by omega) oy (w.okL (by omega) ox.1)
        exact ⟨m, .rGo c a h1, h2⟩
theorem Jn.ex (w : Wv L R sz n) : ∀ k, ∀ x y : Sg, x.1 + y.1 < k → Ok sz n x → Ok sz n y → ∃ m, Jn L R x y m ∧ Ok sz n m := by
  intro k
  induction k with
  | zero => intro x y h; omega
  | succ k ih =>
    intro x y h ox oy
    rcases Nat.lt_trichotomy x.1 y.1 with c | c | c
    · by_cases a : A L R x y
      · exact ⟨y, .lTop c a, oy⟩
      · have hl := w.r y.1 (by omega) oy.1
        obtain ⟨m, h1, h2⟩ := ih x (R y.1) (by omega) ox (w.okR (by omega) oy.1)
        exact ⟨m, .lGo c a h1, h2⟩
    · refine ⟨_, .same c, ?_⟩
      split
      · exact oy
      · exact ox
    · by_cases a : A L R y x
      · exact ⟨x, .rTop c a, ox⟩
      · have hl := w.r x.1 (by omega) ox.1
        obtain ⟨m, h1, h2⟩ := ih y (R x.1) (by omega) oy (w.okR (by omega) ox.1)
        exact ⟨m, .rGo c a h1, h2⟩
/-- in wider births the same -/
theorem A.wide (w : Wv L R sz n) (hl : ∀ c, c < n → L c = L' c) (hr : ∀ c, c < n → R c = R' c) (hx : x.1 < n) (hy : y.1 < n) : A L R x y ↔ A L' R' x y :=
  ⟨fun a => A.congr (n := n) (fun c _ h => hl c h) (fun c _ h => hr c h) (fun c h0 h => ⟨w.l c h0 h, w.r c h0 h⟩) a hx hy,
   fun a => A.congr (n := n) (fun c _ h => (hl c h).symm) (fun c _ h => (hr c h).symm) (fun c h0 h => ⟨hl c h ▸ w.l c h0 h, hr c h ▸ w.r c h0 h⟩) a hx hy⟩
theorem Mt.wide (w : Wv L R sz n) (hl : ∀ c, c < n → L c = L' c) (hr : ∀ c, c < n → R c = R' c) (t : Mt L R x y m) : x.1 < n → y.1 < n → Mt L' R' x y m := by
  induction t with
  | same h => exact fun _ _ => .same h
  | rTop h a => exact fun hx hy => .rTop h ((A.wide w hl hr hx hy).mp a)
  | @rGo x y m h a t ih =>
    intro hx hy
    have z := w.l x.1 (by omega) hx
    exact .rGo h (fun b => a ((A.wide w hl hr hx hy).mpr b)) (hl x.1 hx ▸ ih hy (by omega))
  | lTop h a => exact fun hx hy => .lTop h ((A.wide w hl hr hy hx).mp a)
  | @lGo x y m h a t ih =>
    intro hx hy
    have z := w.l y.1 (by omega) hy
    exact .lGo h (fun b => a ((A.wide w hl hr hy hx).mpr b)) (hl y.1 hy ▸ ih hx (by omega))
theorem Jn.wide (w : Wv L R sz n) (hl : ∀ c, c < n → L c = L' c) (hr : ∀ c, c < n → R c = R' c) (t : Jn L R x y m) : x.1 < n → y.1 < n → Jn L' R' x y m := by
  induction t with
  | same h => exact fun _ _ => .same h
  | rTop h a => exact fun hx hy => .rTop h ((A.wide w hl hr hy hx).mp a)
  | @rGo x y m h a t ih =>
    intro hx hy
    have z := w.r x.1 (by omega) hx
    exact .rGo h (fun b => a ((A.wide w hl hr hy hx).mpr b)) (hr x.1 hx ▸ ih hy (by omega))
  | lTop h a => exact fun hx hy => .lTop h ((A.wide w hl hr hx hy).mp a)
  | @lGo x y m h a t ih =>
    intro hx hy
    have z := w.r y.1 (by omega) hy
    exact .lGo h (fun b => a ((A.wide w hl hr hx hy).mpr b)) (hr y.1 hy ▸ ih hx (by omega))
theorem Mt.det (b : Bs L R n) {k : Sg} (hx : x.1 < n) (hy : y.1 < n) (t : Mt L R x y m) (s : Mt L R x y k) : m = k := Glb.uniq b (t.glb b hx hy) (s.glb b hx hy)
theorem Jn.det (b : Bs L R n) {k : Sg} (hx : x.1 < n) (hy : y.1 < n) (t : Jn L R x y m) (s : Jn L R x y k) : m = k := Lub.uniq b (t.lub b hx hy) (s.lub b hx hy)
end
/-- one alone -/
theorem filter_one {p : Nat → Bool} {k : Nat} : ∀ {N : Nat}, k < N → (∀ i, i < N → (p i = true ↔ i = k)) → (List.range N).filter p = [k]
  | 0, h, _ => absurd h (Nat.not_lt_zero _)
  | N + 1, h, hp => by
    rw [List.range_succ, List.filter_append]
    by_cases c : k < N
    · rw [filter_one c fun i hi => hp i (by omega)]
      have z : p N = false := by
        rw [Bool.eq_false_iff]
        intro e
        have := (hp N (by omega)).mp e
        omega
      simp [z]
    · have e : k = N := by omega
      subst e
      have z : p k = true := (hp k (by omega)).mpr rfl
      have z2 : (List.range k).filter p = [] := List.filter_eq_nil_iff.mpr fun i hi he => by
        have h1 := List.mem_range.mp hi
        have := (hp i (by omega)).mp he
        omega
      rw [z2]
      simp [z]
/-- a mask within another one -/
theorem and_within {c d : Nat} : c &&& d = c ↔ ∀ j, c.testBit j = true → d.testBit j = true := by
  constructor
  · intro h j hj
    rw [← h, Nat.testBit_and, Bool.and_eq_true] at hj
    exact hj.2
  · intro h
    refine Nat.eq_of_testBit_eq fun j => ?_
    rw [Nat.testBit_and]
    cases hc : c.testBit j with
    | false => rfl
    | true => rw [h j hc]; rfl
end Tl
namespace Dk
open PySem PySem.Spec PyProof.Rows L2
/-! ### what never runs -/
def tNv : TE := fun _ _ _ => False
theorem pe_never {X : Cx} {e : Expr} : PE X e tNv := ⟨fun _ _ _ _ _ _ h => h.elim⟩
/-! ### keywords alone -/
section
variable {X : Cx} {CX : CXT} {k : Nat} {f : Addr} {fd : FuncData} {ps ks : List Str} {sp : Sp} {E : XK} {x : Str} {p pos : Pos} {kws : List Keyword} {tk : TA} {g : List Value → List Value → List Value} {gV : List V → List V → List V}
def tCallK0 (sp : Sp) (gV : List V → List V → List V) (E : XK) (tk : TA) : TE := fun σ H Q => tk σ H fun zs H2 => sp (gV [] zs) H2 Q E
theorem pe_callK0 (F : FnOk X.prog X.w X.K X.mg X.base CX k f fd ps sp) (hr : Room k X.A) (hg : Gl X x) (hm : X.mg x = some (.ref f)) (hk : PySem.W.keepIn X.K (.ref f) = true) (hb : KBinds X.K fd ps ks g gV) (hx : Passes CX X E)
    (hkw : PK X kws tk) (hall : (backToKw pos (keywordEach kws X.env)).all (·.1.isSome) = true := by rfl) (hks : (backToKw pos (keywordEach kws X.env)).filterMap (·.1) = ks := by rfl)
    (hdb : (x == ("__debug__" : Str)) = false := by decide)
    (hpl : ((backTo pos (starEach [] X.env)).any (·.1) || (backToKw pos (keywordEach kws X.env)).any (·.1.isNone)) = false := by rfl) :
    PE X (.Call (.Name x p) [] kws pos) (tCallK0 sp gV E tk) := by
  refine ⟨fun pins s σ H Q I h => ?_⟩
  refine wpAny_Call_Name_kw (ld_glob I hg hm ?_ hdb)
  refine PySem.W.callWith_KW0 (h₀ := X.base) I.ok.mod.kin hk hall (thn (hkw.run pos pins s σ H _ I h) fun ws s2 ⟨zs, H2, I2, rz, q2⟩ => ⟨I2.kIn, ?_⟩) hpl
  rw [hks]
  exact run_fnk (us := []) (vs := []) F hr hb hx I2 .nil rz q2
theorem r_callK0 {σ : L2.St} {H : Hp} {Q : VK} (h : tk σ H fun zs H2 => sp (gV [] zs) H2 Q E) : tCallK0 sp gV E tk σ H Q := h
end
/-- three values put in another order -/
def p201 {α : Type} : List α → List α → List α
  | [], [a, b, c] => [b, c, a]
  | _, _ => []
def p210 {α : Type} : List α → List α → List α
  | [], [a, b, c] => [c, b, a]
  | _, _ => []
def p120 {α : Type} : List α → List α → List α
  | [], [a, b, c] => [c, a, b]
  | _, _ => []
theorem p201_rel {vs zs : List V} {us ws : List Value} (r : Vals vs us) (q : Vals zs ws) : Vals (p201 vs zs) (p201 us ws) := by
  cases r with
  | cons => exact .nil
  | nil => rcases q with _ | ⟨a, _ | ⟨b, _ | ⟨c, _ | _⟩⟩⟩
           · exact .nil
           · exact .nil
           · exact .nil
           · exact .cons b (.cons c (.cons a .nil))
           · exact .nil
theorem p210_rel {vs zs : List V} {us ws : List Value} (r : Vals vs us) (q : Vals zs ws) : Vals (p210 vs zs) (p210 us ws) := by
  cases r with
  | cons => exact .nil
  | nil => rcases q with _ | ⟨a, _ | ⟨b, _ | ⟨c, _ | _⟩⟩⟩
           · exact .nil
           · exact .nil
           · exact .nil
           · exact .cons c (.cons b (.cons a .nil))
           · exact .nil
theorem p120_rel {vs zs : List V} {us ws : List Value} (r : Vals vs us) (q : Vals zs ws) : Vals (p120 vs zs) (p120 us ws) := by
  cases r with
  | cons => exact .nil
  | nil => rcases q with _ | ⟨a, _ | ⟨b, _ | ⟨c, _ | _⟩⟩⟩
           · exact .nil
           · exact .nil
           · exact .nil
           · exact .cons c (.cons a (.cons b .nil))
           · exact .nil
def rAbs : List V → Hp → VK → Prop := fun xs H Q => ∃ i, xs = [.int i] ∧ Q (.int (if i < 0 then -i else i)) H
theorem call_absU {X : Cx} : CallR X (.builtin "abs") rAbs := call_abs
/-! ### steps -/
section
variable {K : PySem.W.Frag} {σ : L2.St} {H H' : Hp} {Q : VK} {v x y : V} {i j : Int}
theorem r_bool {b : Bool} (q : Q (.int (if b then 1 else 0)) H) : rInt1 [.bl b] H Q := .inr ⟨b, rfl, q⟩
theorem r_abs (q : Q (.int (i.natAbs : Nat)) H) : rAbs [.int i] H Q := ⟨i, rfl, by
  have e : (if i < 0 then -i else i) = (i.natAbs : Int) := by split <;> omega
  rw [e]
  exact q⟩
theorem r_catT {p q : Addr} {xs ys : List V} (hp : SqT K H p xs) (hq : SqT K H q ys) (nx : xs ≠ []) (ny : ys ≠ []) (hz : xs.length + ys.length ≤ 1000) (k : ∀ l, H l = none → Q (.ref l) (upd H l (.tup (xs ++ ys)))) : rAddU K (.ref p) (.ref q) H Q :=
  .inr (.inr (.inr ⟨p, q, xs, ys, rfl, rfl, hp, hq, by rw [sizeLine_eq]; omega, fun z => absurd z nx, fun _ z => absurd z ny, fun _ _ => k⟩))
theorem r_pop0 {p : Addr} {xs : List V} (h : H p = some (.lst (x :: xs))) (q : Q x (upd H p (.lst xs))) : rPopAt (.ref p) [.int 0] H Q :=
  ⟨p, x :: xs, 0, 0, x, rfl, rfl, h, by decide, by decide, by
    show (if _ then _ else _) = _
    simp, rfl, q⟩
theorem r_isiT2 {a n m : String} {b c : Bool} {tp : Addr} (hT : H tp = some (.tup [.ty n, .ty m])) (ty : TyX K H x (.type a)) (e1 : kitB a n = some b) (e2 : kitB a m = some c) (q : Q (.bl (b || c)) H) : rIsiT K [x, .ref tp] H Q := by
  refine ⟨x, tp, [.ty n, .ty m], .type a, [.type n, .type m], b || c, rfl, hT, .cons (.ty n) (.cons (.ty m) .nil), ty, ?_, q⟩
  refine kitAny_cons (kit_ty e1) (r := b || c) (fun hb => ?_) (fun hb => by rw [hb]; rfl)
  subst hb
  refine kitAny_cons (kit_ty e2) (fun hc => ?_) (fun hc => by rw [hc]; rfl)
  subst hc
  exact kitAny_nil
end
theorem r_eqP {x y : V} {H : Hp} {Q : VK} (h : scal x y = true) (q : Q (.bl (decide (x = y))) H) : rEq x y H Q := ⟨h, q⟩
theorem r_gunl {K : PySem.W.Frag} {σ : L2.St} {H : Hp} {N : L2.St → Hp → Prop} {vs : List V} {u : TGs} {n : Nat} {a : Addr} (h : SqL K H a vs) (hl : vs.length = n) (k : u vs σ H N) : gUnl K n u (.ref a) σ H N := ⟨a, vs, rfl, h, hl, k⟩
theorem r_slT {K : PySem.W.Frag} {H : Hp} {Q : VK} {p : Addr} {xs : List V} {n : Nat} (h : SqT K H p xs) (k1 : xs.length ≤ n → Q (.ref p) H) (k2 : ∀ l, H l = none → Q (.ref l) (upd H l (.tup (xs.take n)))) : rSlU K (.ref p) none (some (n : Int)) H Q := by
  refine .inr (.inr ⟨p, xs, rfl, h, fun z => k1 ?_, fun _ l hl => ?_⟩)
  · have e := z.2
    rw [HT.sIx_nat] at e
    omega
  · rw [cutV_to]
    exact k2 l hl
theorem cutV_from (xs : List V) (n : Nat) : cutV xs (some (n : Int)) none = xs.drop n := by
  unfold cutV
  rw [HT.sIx_nat, HT.sIx_none]
  by_cases h : n ≤ xs.length
  · rw [Nat.min_eq_left h, List.take_of_length_le (by rw [List.length_drop]; omega)]
  · rw [Nat.min_eq_right (by omega), Nat.sub_self, List.take_zero, List.drop_eq_nil_of_le (by omega)]
theorem r_break {σ : L2.St} {H : Hp} {D : Ends} (q : D.bk σ H) : tBreak D σ H := q
theorem r_yes {σ : L2.St} {H : Hp} {QB : Bool → Hp → Prop} (q : QB true H) : tYes σ H QB := q
theorem _root_.L2.Room.units65 {k : Nat} {A : Around} (r : L2.Room k A) : A.units + 65 < cLine := by
  have := r.un
  omega
theorem r_lcRo {ta : TA} {g : TG} {tt : TT} {te : TE} {vs : List Nat} {σ : L2.St} {H : Hp} {Q : VK} (h : ta σ H fun us H1 => ∃ j : Int, us = [.int j] ∧ -(2 ^ 62) ≤ j ∧ j < 2 ^ 62 ∧ ∀ D, H1 D = none → ∃ W : Nat → Nat → Hp → Prop, (∃ m, W 0 m (upd H1 D (.lst []))) ∧ ∀ i m H, W i m H →
  ((Itr 0 j.toNat).stop i H ∧ Q (.ref D) H) ∨ ((Itr 0 j.toNat).go i H ∧ ∃ Nx : Hp → Prop, (∀ H', Nx H' → ∃ m', m' < m ∧ W (i + 1) m' H') ∧ ∀ x H', (Itr 0 j.toNat).yld i H x H' → g x (wipe σ vs) H' fun σ2 H2 => wipe σ2 vs = wipe σ vs ∧ tt σ2 H2 fun b H3 =>
    if b = true then te σ2 H3 fun y H4 => ∃ acc, H4 D = some (.lst acc) ∧ acc.length < sizeLine ∧ Nx (upd H4 D (.lst (acc ++ [y]))) else Nx H3)) : tLc (iRng1 ta) g tt te vs σ H Q := h
/-- [.. for x in range(n)] -/
theorem l_lcR {n : Int} {g : TG} {tt : TT} {te : TE} {vs : List Nat} {σ : L2.St} {H1 : Hp} {Qd : Addr → Hp → Prop} (n0 : -1000000 ≤ n) (n1 : n ≤ 1000000) (Pv : Addr → Nat → Hp → Prop) (h0 : ∀ D, H1 D = none → Pv D 0 (upd H1 D (.lst [])))
    (hs : ∀ D (i : Nat) H, H1 D = none → (i : Int) < n → Pv D i H → g (.int (i : Nat)) (wipe σ vs) H fun σ2 H2 => wipe σ2 vs = wipe σ vs ∧ tt σ2 H2 fun b H3 =>
      if b = true then te σ2 H3 fun y H4 => ∃ acc, H4 D = some (.lst acc) ∧ acc.length < sizeLine ∧ Pv D (i + 1) (upd H4 D (.lst (acc ++ [y]))) else Pv D (i + 1) H3) (hd : ∀ D H, H1 D = none → Pv D n.toNat H → Qd D H) :
    ∃ j : Int, [V.int n] = [.int j] ∧ -(2 ^ 62) ≤ j ∧ j < 2 ^ 62 ∧ ∀ D, H1 D = none → ∃ W : Nat → Nat → Hp → Prop, (∃ m, W 0 m (upd H1 D (.lst []))) ∧ ∀ i m H, W i m H →
  ((Itr 0 j.toNat).stop i H ∧ Qd D H) ∨ ((Itr 0 j.toNat).go i H ∧ ∃ Nx : Hp → Prop, (∀ H', Nx H' → ∃ m', m' < m ∧ W (i + 1) m' H') ∧ ∀ x H', (Itr 0 j.toNat).yld i H x H' → g x (wipe σ vs) H' fun σ2 H2 => wipe σ2 vs = wipe σ vs ∧ tt σ2 H2 fun b H3 =>
    if b = true then te σ2 H3 fun y H4 => ∃ acc, H4 D = some (.lst acc) ∧ acc.length < sizeLine ∧ Nx (upd H4 D (.lst (acc ++ [y]))) else Nx H3) := by
  refine ⟨n, rfl, by omega, by omega, fun D hD => lc_range (lo := 0) (Pv D) (h0 D hD) (fun i H hi p => ?_) fun H p => hd D H hD p⟩
  have z := hs D i H hD (by omega) p
  rw [Int.zero_add]
  exact z
/-- for c in range(1, n) -/
theorem l_R1n {n : Nat} {g : TG} {tb : TS} {σ : L2.St} {H : Hp} {D : Ends} (h1 : 1 ≤ n) (h2 : n ≤ 1000000) (Pv : Nat → L2.St → Hp → Prop) (p0 : Pv 1 σ H)
    (ht : ∀ (c : Nat) σ H, 1 ≤ c → c < n → Pv c σ H → g (.int (c : Nat)) σ H fun σ2 H2 => tb { D with nx := Pv (c + 1), ct := Pv (c + 1), bk := D.nx } σ2 H2) (hd : ∀ σ H, Pv n σ H → D.nx σ H) :
    ∃ i j : Int, [V.int 1, V.int (n : Nat)] = [.int i, .int j] ∧ (-(2 ^ 62) ≤ i ∧ i < 2 ^ 62 ∧ -(2 ^ 62) ≤ j ∧ j < 2 ^ 62) ∧ LoopW (Itr i (j - i).toNat) g tb D σ H := by
  refine ⟨1, n, rfl, ⟨by omega, by omega, by omega, by omega⟩, for_range (fun i => Pv (i + 1)) p0 (fun i σ H hi p => ?_) fun σ H p => hd σ H ?_⟩
  · have z := ht (i + 1) σ H (by omega) (by omega) p
    rw [show (1 : Int) + (i : Nat) = ((i + 1 : Nat) : Int) by omega]
    exact z
  · have e : ((n : Int) - 1).toNat + 1 = n := by omega
    rw [e] at p
    exact p
theorem r_lcLo {K : PySem.W.Frag} {tl : TE} {g : TG} {tt : TT} {te : TE} {vs : List Nat} {σ : L2.St} {H : Hp} {Q : VK} (h : tl σ H fun x H1 => ∃ a, x = .ref a ∧ (∃ xs, SqL K H1 a xs) ∧ ∀ D, H1 D = none → ∃ W : Nat → Nat → Hp → Prop, (∃ m, W 0 m (upd H1 D (.lst []))) ∧ ∀ i m H, W i m H →
  ((Itl K a).stop i H ∧ Q (.ref D) H) ∨ ((Itl K a).go i H ∧ ∃ Nx : Hp → Prop, (∀ H', Nx H' → ∃ m', m' < m ∧ W (i + 1) m' H') ∧ ∀ x H', (Itl K a).yld i H x H' → g x (wipe σ vs) H' fun σ2 H2 => wipe σ2 vs = wipe σ vs ∧ tt σ2 H2 fun b H3 =>
    if b = true then te σ2 H3 fun y H4 => ∃ acc, H4 D = some (.lst acc) ∧ acc.length < sizeLine ∧ Nx (upd H4 D (.lst (acc ++ [y]))) else Nx H3)) : tLc (iList K tl) g tt te vs σ H Q := h
theorem l_lcL {K : PySem.W.Frag} {a : Addr} {xs : List V} {g : TG} {tt : TT} {te : TE} {vs : List Nat} {σ : L2.St} {H1 : Hp} {Qd : Addr → Hp → Prop} (hs0 : SqL K H1 a xs) (Pv : Addr → Nat → Hp → Prop) (h0 : ∀ D, H1 D = none → Pv D 0 (upd H1 D (.lst []))) (hl : ∀ D i H, Pv D i H → SqL K H a xs)
    (hs : ∀ D (i : Nat) x H, H1 D = none → xs[i]? = some x → Pv D i H → g x (wipe σ vs) H fun σ2 H2 => wipe σ2 vs = wipe σ vs ∧ tt σ2 H2 fun b H3 =>
      if b = true then te σ2 H3 fun y H4 => ∃ acc, H4 D = some (.lst acc) ∧ acc.length < sizeLine ∧ Pv D (i + 1) (upd H4 D (.lst (acc ++ [y]))) else Pv D (i + 1) H3) (hd : ∀ D H, H1 D = none → Pv D xs.length H → Qd D H) :
    ∃ b, V.ref a = .ref b ∧ (∃ xs, SqL K H1 b xs) ∧ ∀ D, H1 D = none → ∃ W : Nat → Nat → Hp → Prop, (∃ m, W 0 m (upd H1 D (.lst []))) ∧ ∀ i m H, W i m H →
  ((Itl K b).stop i H ∧ Qd D H) ∨ ((Itl K b).go i H ∧ ∃ Nx : Hp → Prop, (∀ H', Nx H' → ∃ m', m' < m ∧ W (i + 1) m' H') ∧ ∀ x H', (Itl K b).yld i H x H' → g x (wipe σ vs) H' fun σ2 H2 => wipe σ2 vs = wipe σ vs ∧ tt σ2 H2 fun b H3 =>
    if b = true then te σ2 H3 fun y H4 => ∃ acc, H4 D = some (.lst acc) ∧ acc.length < sizeLine ∧ Nx (upd H4 D (.lst (acc ++ [y]))) else Nx H3) :=
  ⟨a, rfl, ⟨xs, hs0⟩, fun D hD => lc_list (Pv D) (h0 D hD) (fun i H _ p => hl D i H p) (fun i x H hx p => hs D i x H hD hx p) fun H p => hd D H hD p⟩
/-- a test whose outcome does not matter -/
theorem any_test {tt : TT} {σ : L2.St} {H : Hp} {QB : Bool → Hp → Prop} {S : Bool → Hp → Prop} (h : ∀ QB : Bool → Hp → Prop, (∀ c H1, S c H1 → QB c H1) → tt σ H QB) (k : ∀ c H1, S c H1 → QB c H1) : tt σ H QB := h QB k
theorem any_val {te : TE} {σ : L2.St} {H : Hp} {Q : VK} {S : V → Hp → Prop} (h : ∀ Q : VK, (∀ v H1, S v H1 → Q v H1) → te σ H Q) (k : ∀ v H1, S v H1 → Q v H1) : te σ H Q := h Q k
/-! ### bits -/
theorem or_val (x b y : Nat) : Builtin.bitOr (Builtin.bitOr (x : Int) (1 * 2 ^ ((b : Int)).toNat)) (y : Int) = ((x ||| 1 <<< b ||| y : Nat) : Int) := by
  have e : (1 * 2 ^ ((b : Int)).toNat : Int) = ((1 <<< b : Nat) : Int) := by
    rw [Int.toNat_natCast, Nat.one_shiftLeft]
    push_cast
    omega
  have e1 : Builtin.bitOr (x : Int) ((1 <<< b : Nat) : Int) = ((x ||| 1 <<< b : Nat) : Int) := by
    rw [Bits.bitOr_pp (Int.natCast_nonneg _) (Int.natCast_nonneg _), Int.toNat_natCast, Int.toNat_natCast]
  rw [e, e1, Bits.bitOr_pp (Int.natCast_nonneg _) (Int.natCast_nonneg _), Int.toNat_natCast, Int.toNat_natCast]
theorem bit_val (x k : Nat) : decide (V.int (Builtin.bitAnd ((x : Int) / 2 ^ ((k : Int)).toNat) 1) = V.int 1) = x.testBit k := by
  have e : Builtin.bitAnd ((x : Int) / 2 ^ ((k : Int)).toNat) 1 = (x : Int) / 2 ^ k % 2 := by
    have z := Bits.bit_at (x := (x : Int)) k
    have hp : (0 : Int) ≤ 2 ^ k := Int.pow_nonneg (by decide)
    rw [Int.fdiv_eq_ediv_of_nonneg _ hp] at z
    rw [Int.toNat_natCast]
    exact z
  rw [e, Bool.eq_iff_iff, decide_eq_true_iff, Nat.testBit_eq_decide_div_mod_eq, decide_eq_true_iff]
  have e2 : (x : Int) / 2 ^ k % 2 = ((x / 2 ^ k % 2 : Nat) : Int) := by push_cast; rfl
  rw [e2]
  constructor
  · intro h
    have := V.int.inj h
    omega
  · intro h
    rw [h]
    rfl
/-! ### the box of the draws: a number and a list of heaps -/
def M31 : Int := 2147483629
structure Bx (H : Hp) (b h : Addr) : Prop where
  ne : b ≠ h
  ex : ∃ (z : Int) (ns : List Int), H b = some (.lst [.int z, .ref h]) ∧ 0 ≤ z ∧ z < M31 ∧ H h = some (.lst (ns.map V.int)) ∧ ns.length ≤ 63
structure Dr2 (b h : Addr) (H H' : Hp) : Prop where
  hh : ∀ x o, x ≠ b → x ≠ h → H x = some o → H' x = some o
  st : Bx H' b h
abbrev A2 (b h : Addr) : Addr → Prop := fun x => x = b ∨ x = h
structure W2 (b h : Addr) (G H : Hp) : Prop where
  g : Ex G H
  nb : G b = none
  nh : G h = none
  st : Bx H b h
section
variable {A : Addr → Prop} {b h p : Addr} {G H G1 H1 H2 : Hp} {o : HO}
theorem Bx.gb (s : Bx H b h) : ∃ o, H b = some o := by
  obtain ⟨_, z, ns, h1, _⟩ := s
  exact ⟨_, h1⟩
theorem Bx.gh (s : Bx H b h) : ∃ o, H h = some o := by
  obtain ⟨_, z, ns, _, _, _, h1, _⟩ := s
  exact ⟨_, h1⟩
theorem Bx.up (s : Bx H b h) (e : Ex H H1) : Bx H1 b h := by
  obtain ⟨n, z, ns, h1, h2, h3, h4, h5⟩ := s
  exact ⟨n, z, ns, e _ _ h1, h2, h3, e _ _ h4, h5⟩
theorem Bx.nb (s : Bx H b h) (hp : H p = none) : p ≠ b := fun z => by
  obtain ⟨o, e⟩ := s.gb
  rw [← z, hp] at e
  cases e
theorem Bx.nh (s : Bx H b h) (hp : H p = none) : p ≠ h := fun z => by
  obtain ⟨o, e⟩ := s.gh
  rw [← z, hp] at e
  cases e
theorem Bx.put (s : Bx H b h) (h1 : p ≠ b) (h2 : p ≠ h) : Bx (upd H p o) b h := by
  obtain ⟨n, z, ns, e1, e2, e3, e4, e5⟩ := s
  exact ⟨n, z, ns, by rw [upd_ne (Ne.symm h1)]; exact e1, e2, e3, by rw [upd_ne (Ne.symm h2)]; exact e4, e5⟩
theorem Bx.na (s : Bx H b h) (hp : H p = none) : ¬ A2 b h p := fun z => z.elim (s.nb hp) (s.nh hp)
theorem Dr2.refl (s : Bx H b h) : Dr2 b h H H := ⟨fun _ _ _ _ e => e, s⟩
theorem Dr2.trans (x : Dr2 b h H H1) (y : Dr2 b h H1 H2) : Dr2 b h H H2 := ⟨fun u o n m e => y.hh u o n m (x.hh u o n m e), y.st⟩
theorem Dr2.ex (s : Bx H b h) (e : Ex H H1) : Dr2 b h H H1 := ⟨fun u o _ _ q => e u o q, s.up e⟩
theorem Dr2.then (x : Dr2 b h H H1) (e : Ex H1 H2) : Dr2 b h H H2 := x.trans (.ex x.st e)
theorem Dr2.new (x : Dr2 b h H H1) (hp : H1 p = none) : Dr2 b h H (upd H1 p o) := x.then (Same.new (Same.refl H1) hp)
theorem Dr2.mut (x : Dr2 b h H H1) (hp : H p = none) (h1 : p ≠ b) (h2 : p ≠ h) : Dr2 b h H (upd H1 p o) :=
  ⟨fun u q n m e => by rw [upd_ne (ne_of_none e hp)]; exact x.hh u q n m e, x.st.put h1 h2⟩
theorem Dr2.fresh (x : Dr2 b h H H1) (hp : H1 p = none) : H p = none := by
  cases e : H p with
  | none => rfl
  | some o =>
    rw [x.hh p o (x.st.nb hp) (x.st.nh hp) e] at hp
    cases hp
theorem Dr2.gr (g : Ex G H) (nb : G b = none) (nh : G h = none) (s : Bx H b h) (d : Dr2 b h H H1) : Gr (A2 b h) G H G H1 where
  gg := Same.refl G
  gh := fun u x e => d.hh u x (ne_of_none e nb) (ne_of_none e nh) (g u x e)
  hh := fun u x z e => d.hh u x (fun q => z (.inl q)) (fun q => z (.inr q)) e
  th := fun u x e => by
    by_cases h1 : u = b
    · rw [h1]
      exact d.st.gb
    by_cases h2 : u = h
    · rw [h2]
      exact d.st.gh
    exact ⟨x, d.hh u x h1 h2 e⟩
  nw := fun u x e z => z
theorem W2.nb1 (x : W2 b h G H) (t : Gr A G H G1 H1) : G1 b = none := by
  obtain ⟨o, e⟩ := x.st.gb
  exact t.nw b _ e x.nb
theorem W2.nh1 (x : W2 b h G H) (t : Gr A G H G1 H1) : G1 h = none := by
  obtain ⟨o, e⟩ := x.st.gh
  exact t.nw h _ e x.nh
theorem W2.step (x : W2 b h G H) (t : Gr (A2 b h) G H G1 H1) (s : Bx H1 b h) : W2 b h G1 H1 := ⟨t.gh, x.nb1 t, x.nh1 t, s⟩
theorem W2.pure (x : W2 b h G H) (t : Gr A0 G H G1 H1) : W2 b h G1 H1 := ⟨t.gh, x.nb1 t, x.nh1 t, x.st.up t.same⟩
theorem W2.ex (x : W2 b h G H) (e : Ex H H1) : W2 b h G H1 := ⟨x.g.trans e, x.nb, x.nh, x.st.up e⟩
theorem W2.gdr (x : W2 b h G H) (d : Dr2 b h H H1) : Gr (A2 b h) G H G H1 := Dr2.gr x.g x.nb x.nh x.st d
theorem W2.dr (x : W2 b h G H) (d : Dr2 b h H H1) : W2 b h G H1 := x.step (x.gdr d) d.st
end
def spPick : Sp := fun vs H Q _ => ∃ (b h : Addr) (n : Int), vs = [.ref b, .int n] ∧ Bx H b h ∧ 0 < n ∧ n ≤ 1000 ∧ ∀ (d : Int) H', 0 ≤ d → d < n → Dr2 b h H H' → Q (.int d) H'
def spDraws (K : PySem.W.Frag) : Sp := fun vs H Q _ => ∃ (s : Addr) (ns : List Int), vs = [.ref s] ∧ SqL K H s (ns.map V.int) ∧ ns.length ≤ 63 ∧ ∀ b h H', Ex H H' → H b = none → H h = none → Bx H' b h → Q (.ref b) H'
def spSay : Sp := fun vs H Q _ => ∃ (b h : Addr) (n : Int), vs = [.ref b, .int n] ∧ Bx H b h ∧ 0 < n ∧ n ≤ 100 ∧ ∀ (t : Str) H', 0 < t.length → (t.length : Int) ≤ n → Dr2 b h H H' → Q (.str t) H'
theorem nat31 {z : Int} (h0 : 0 ≤ z) (h : z < M31) : z.natAbs < 2 ^ 31 := by
  unfold M31 at h
  have e : (2 : Nat) ^ 31 = 2147483648 := by decide
  omega
theorem mix31 (e : Int) : 0 ≤ e % M31 ∧ e % M31 < M31 := ⟨Int.emod_nonneg _ (by decide), Int.emod_lt_of_pos _ (by decide)⟩
/-! ### signs -/
/-- a sign's two numbers -/
def SgV (G : Hp) (v : V) (x : Tl.Sg) : Prop := ∃ p, v = .ref p ∧ G p = some (.tup [.int (x.1 : Nat), .int (x.2 : Nat)])
theorem SgV.up {G G' : Hp} {v : V} {x : Tl.Sg} (e : Ex G G') (h : SgV G v x) : SgV G' v x := h.imp fun _ z => ⟨z.1, e _ _ z.2⟩
abbrev sgD (x : Tl.Sg) : PyData := .tuple [.int (x.1 : Nat), .int (x.2 : Nat)]
theorem SgV.dp {K : PySem.W.Frag} {G : Hp} {v : V} {x : Tl.Sg} (h : SgV G v x) : Dp K G v (sgD x) := by
  obtain ⟨p, rfl, hp⟩ := h
  exact .tup (sqT hp) (.cons (.int _) (.cons (.int _) .nil))
theorem sg_shaped (x : Tl.Sg) : SeqAt.shaped (sgD x) = true := by
  rfl
theorem sg_eqv (x y : Tl.Sg) : PyData.eqv (sgD x) (sgD y) = decide (x = y) := by
  obtain ⟨a, b⟩ := x
  obtain ⟨c, d⟩ := y
  show (PyData.eqv (.int a) (.int c) && (PyData.eqv (.int b) (.int d) && true)) = _
  show (((a : Int) == c) && (((b : Int) == d) && true)) = _
  rw [Bool.eq_iff_iff]
  simp
  omega
theorem r_eqSg {K : PySem.W.Frag} {H : Hp} {Q : VK} {v w : V} {x y : Tl.Sg} (h1 : SgV H v x) (h2 : SgV H w y) (q : Q (.bl (decide (x = y))) H) : rEqU K v w H Q :=
  .inr ⟨_, _, h1.dp, h2.dp, sg_shaped x, sg_shaped y, by rw [sg_eqv]; exact q⟩
/-! ### two lists side by side -/
inductive P2 {α β : Type} (R : α → β → Prop) : List α → List β → Prop where
  | nil : P2 R [] []
  | cons {a : α} {b : β} {l : List α} {m : List β} (h : R a b) (t : P2 R l m) : P2 R (a :: l) (b :: m)
section
variable {α β : Type} {R S : α → β → Prop} {l l' : List α} {m m' : List β}
theorem P2.len (h : P2 R l m) : l.length = m.length := by
  induction h with
  | nil => rfl
  | cons h t ih => rw [List.length_cons, List.length_cons, ih]
theorem P2.get (h : P2 R l m) : ∀ {i : Nat} {a : α}, l[i]? = some a → ∃ b, m[i]? = some b ∧ R a b := by
  induction h with
  | nil => intro i a e; simp at e
  | @cons a b l m h t ih =>
    intro i x e
    cases i with
    | zero => exact ⟨b, rfl, by simp at e; exact e ▸ h⟩
    | succ i =>
      simp at e
      simpa using ih e
theorem P2.get' (h : P2 R l m) : ∀ {i : Nat} {b : β}, m[i]? = some b → ∃ a, l[i]? = some a ∧ R a b := by
  induction h with
  | nil => intro i a e; simp at e
  | @cons a b l m h t ih =>
    intro i x e
    cases i with
    | zero => exact ⟨a, rfl, by simp at e; exact e ▸ h⟩
    | succ i =>
      simp at e
      simpa using ih e
theorem P2.imp (h : P2 R l m) (k : ∀ a b, R a b → S a b) : P2 S l m := by
  induction h with
  | nil => exact .nil
  | cons h t ih => exact .cons (k _ _ h) ih
theorem P2.app (h : P2 R l m) (h' : P2 R l' m') : P2 R (l ++ l') (m ++ m') := by
  induction h with
  | nil => exact h'
  | cons h t ih => exact .cons h ih
theorem P2.snoc {a : α} {b : β} (h : P2 R l m) (k : R a b) : P2 R (l ++ [a]) (m ++ [b]) := h.app (.cons k .nil)
theorem P2.take (h : P2 R l m) : ∀ n, P2 R (l.take n) (m.take n) := by
  induction h with
  | nil => intro n; simp; exact .nil
  | cons h t ih =>
    intro n
    cases n with
    | zero => exact .nil
    | succ n => exact .cons h (ih n)
theorem P2.drop (h : P2 R l m) : ∀ n, P2 R (l.drop n) (m.drop n) := by
  induction h with
  | nil => intro n; simp; exact .nil
  | cons h t ih =>
    intro n
    cases n with
    | zero => exact .cons h t
    | succ n => exact ih n
end
theorem P2.join {α β γ : Type} {R : α → γ → Prop} {S : β → γ → Prop} {U : α → β → Prop} {l : List α} {m : List β} {n : List γ} (h : P2 R l n) (k : ∀ a b c, R a c → S b c → U a b) (g : P2 S m n) : P2 U l m := by
  induction h generalizing m with
  | nil => cases g; exact .nil
  | cons h t ih => cases g with
    | cons h' t' => exact .cons (k _ _ _ h h') (ih t')
/-- a list of signs -/
abbrev SgL (G : Hp) : List V → List Tl.Sg → Prop := P2 (SgV G)
theorem SgL.up {G G' : Hp} {l : List V} {m : List Tl.Sg} (e : Ex G G') (h : SgL G l m) : SgL G' l m := h.imp fun _ _ z => z.up e
theorem SgL.dps {K : PySem.W.Frag} {G : Hp} {l : List V} {m : List Tl.Sg} (h : SgL G l m) : DpAll K G l (m.map sgD) := by
  induction h with
  | nil => exact .nil
  | cons h t ih => exact .cons h.dp ih
theorem sgs_shaped (m : List Tl.Sg) : SeqAt.shaped (.list (m.map sgD)) = true := by
  have key : PyData.canLayAll0 (m.map sgD) = true ∧ PyData.depthAll (m.map sgD) ≤ 2 := by
    induction m with
    | nil => exact ⟨rfl, by decide⟩
    | cons x r ih =>
      refine ⟨?_, ?_⟩
      · show ((sgD x).canLay0 && PyData.canLayAll0 (r.map sgD)) = true
        rw [ih.1]
        rfl
      · show max (sgD x).depth (PyData.depthAll (r.map sgD)) ≤ 2
        have e : (sgD x).depth ≤ 2 := by simp [sgD, PyData.depth, PyData.depthAll]
        omega
  show (PyData.canLayAll0 (m.map sgD) && decide (_ ≤ 64)) = true
  rw [key.1]
  have e : (PyData.list (m.map sgD)).depth = PyData.depthAll (m.map sgD) + 1 := by first | rfl | exact Nat.add_comm _ _
  show decide (_ ≤ 64) = true
  rw [decide_eq_true_iff, e]
  omega
/-- l.index(x), l a list of signs -/
theorem r_indexSg {K : PySem.W.Frag} {H : Hp} {Q : VK} {a : Addr} {xs : List V} {v : V} {m : List Tl.Sg} {x : Tl.Sg} {j : Nat} (hl : SqL K H a xs) (hm : SgL H xs m) (hv : SgV H v x) (hj : m[j]? = some x) (hno : ∀ i, i < j → m[i]? ≠ some x) (q : Q (.int (j : Nat)) H) :
    rIndexD K (.ref a) [v] H Q := by
  refine ⟨a, v, sgD x, m.map sgD, j, sgD x, rfl, rfl, .lst hl hm.dps, hv.dp, sgs_shaped m, sg_shaped x, by rw [List.getElem?_map, hj]; rfl, by rw [sg_eqv]; simp, fun i z hi hz => ?_, q⟩
  rw [List.getElem?_map] at hz
  obtain ⟨y, hy, rfl⟩ := Option.map_eq_some_iff.mp hz
  rw [sg_eqv]
  refine decide_eq_false fun e => hno i hi ?_
  rw [hy, e]
end Dk
/-! min(a, b), max(a, b) of two tuples of numbers; sorted of two -/
namespace Dk
open PySem PySem.Spec PyProof.Rows L2 PySem.SeqAt PySem.W
section
variable {prog : Program} {w : World} {A : Around} {E : Value → Shared → Prop} {s : Shared}
theorem call_min_twoH {a b : Value} {Q : Value → Shared → Prop}
    (h : wpAny (model prog w) A.in1 (pyIter (.ref s.heap.objs.size)) (fun it s₂ => ∃ I fp wr G n P St H bt, it = .ref I ∧ WalksS prog w A.in1 I fp wr G n P St ∧ St 0 s₂ ∧ (∀ b ∈ fp, b < s₂.heap.objs.size) ∧ 0 < n ∧
      (∀ b o, H.get? b = some o → b ∉ wr) ∧ (∀ b o, H.get? b = some o → s₂.heap.get? b = some o) ∧ CmpIn prog w A.in1 .Lt H P bt ∧ ∀ v s', P (argBest bt (n - 1)) v → Moved wr G s₂ s' → Q v s') E
      { s with heap := s.heap.push { cls := .type "tuple", data := .seq #[a, b] } }) :
    wpAny (model prog w) A (call (.builtin "min") [a, b]) Q E s := by
  have hname : (toString "min" ++ toString ".loop" : String) = "min.loop" := by decide
  refine call_function_tree F.kind_min F.plain_min F.entry_min (F.args_min2 _ _) ?_
  show wpAny _ A.in1 (Builtin.Builtins.bindParams "min" ["key", "default"] 0 ⟨[], []⟩ >>= _) _ _ s
  refine wpAny_bind (wpAny_of_eq (show Builtin.Builtins.bindParams "min" ["key", "default"] 0 ⟨[], []⟩ = pure [none, none] from rfl) ?_)
  show wpAny _ A.in1 (newTuple [a, b] >>= _) _ _ s
  refine wpAny_bind (wpAny_newObj_type ?_)
  refine wpAny_bind (wpAny_mono h (fun it s₂ h₂ => ?_) fun _ _ e => e)
  obtain ⟨I, fp, wr, G, n, P, St, H, bt, rfl, W, hst, hfp, hn, hw, hkeep, hcmp, hQ⟩ := h₂
  refine wpAny_bind (wpAny_newObj_type ?_)
  have hSf : s₂.heap.objs.size ∉ fp := fun hm => Nat.lt_irrefl _ (hfp _ hm)
  rw [hname]
  refine wpAny_pure ⟨plainId_quiet F.plain_min_loop _, codeAny_min_loop_firstH W H hw bt hcmp s₂.heap.objs.size hSf (fresh_in hkeep) _ hn (fun b o e => Heap.get?_push_of_some _ (hkeep b o e)) (W.frame 0 s₂ _ s₂.toks hst (Nat.le_refl _) fun b _ o e => Heap.get?_push_of_some _ e) (Heap.get?_push_size _ rfl) fun v s' hP hm => ?_⟩
  exact hQ v s' hP (Moved.drop_new (tk := s₂.toks) hm (Nat.le_refl _))
theorem call_max_twoH {a b : Value} {Q : Value → Shared → Prop}
    (h : wpAny (model prog w) A.in1 (pyIter (.ref s.heap.objs.size)) (fun it s₂ => ∃ I fp wr G n P St H bt, it = .ref I ∧ WalksS prog w A.in1 I fp wr G n P St ∧ St 0 s₂ ∧ (∀ b ∈ fp, b < s₂.heap.objs.size) ∧ 0 < n ∧
      (∀ b o, H.get? b = some o → b ∉ wr) ∧ (∀ b o, H.get? b = some o → s₂.heap.get? b = some o) ∧ CmpIn prog w A.in1 .Gt H P bt ∧ ∀ v s', P (argBest bt (n - 1)) v → Moved wr G s₂ s' → Q v s') E
      { s with heap := s.heap.push { cls := .type "tuple", data := .seq #[a, b] } }) :
    wpAny (model prog w) A (call (.builtin "max") [a, b]) Q E s := by
  have hname : (toString "max" ++ toString ".loop" : String) = "max.loop" := by decide
  refine call_function_tree F.kind_max F.plain_max F.entry_max (F.args_max2 _ _) ?_
  show wpAny _ A.in1 (Builtin.Builtins.bindParams "max" ["key", "default"] 0 ⟨[], []⟩ >>= _) _ _ s
  refine wpAny_bind (wpAny_of_eq (show Builtin.Builtins.bindParams "max" ["key", "default"] 0 ⟨[], []⟩ = pure [none, none] from rfl) ?_)
  show wpAny _ A.in1 (newTuple [a, b] >>= _) _ _ s
  refine wpAny_bind (wpAny_newObj_type ?_)
  refine wpAny_bind (wpAny_mono h (fun it s₂ h₂ => ?_) fun _ _ e => e)
  obtain ⟨I, fp, wr, G, n, P, St, H, bt, rfl, W, hst, hfp, hn, hw, hkeep, hcmp, hQ⟩ := h₂
  refine wpAny_bind (wpAny_newObj_type ?_)
  have hSf : s₂.heap.objs.size ∉ fp := fun hm => Nat.lt_irrefl _ (hfp _ hm)
  rw [hname]
  refine wpAny_pure ⟨plainId_quiet F.plain_max_loop _, codeAny_max_loop_firstH W H hw bt hcmp s₂.heap.objs.size hSf (fresh_in hkeep) _ hn (fun b o e => Heap.get?_push_of_some _ (hkeep b o e)) (W.frame 0 s₂ _ s₂.toks hst (Nat.le_refl _) fun b _ o e => Heap.get?_push_of_some _ e) (Heap.get?_push_size _ rfl) fun v s' hP hm => ?_⟩
  exact hQ v s' hP (Moved.drop_new (tk := s₂.toks) hm (Nat.le_refl _))
theorem min_two_data {a b : Value} {x y : PyData} {as bs : List Addr} {Q : Value → Shared → Prop} (hh : A.handled = none) (ra : Reads s.heap a x as) (rb : Reads s.heap b y bs) (ha : PySem.W.AlikeAll [x, y]) (hu : A.units + 1 + PyData.depthAll [x, y] < cLine)
    (h : ∀ h' tk, (∀ c o, s.heap.get? c = some o → h'.get? c = some o) → Q (if dataLt y x = true then b else a) { s with heap := h', toks := tk }) :
    wpAny (model prog w) A (call (.builtin "min") [a, b]) Q E s := by
  have k0 : ∀ c o, s.heap.get? c = some o → (s.heap.push { cls := .type "tuple", data := .seq #[a, b] }).get? c = some o := fun c o e => Heap.get?_push_of_some _ e
  have hl : ({ s with heap := s.heap.push { cls := .type "tuple", data := .seq #[a, b] } } : Shared).heap.IsTuple s.heap.objs.size #[a, b] := ⟨_, Heap.get?_push_size _ rfl, rfl, 0, rfl⟩
  have hr : ReadsAll (s.heap.push { cls := .type "tuple", data := .seq #[a, b] }) (#[a, b] : Array Value).toList [x, y] _ := ReadsAll.cons (Reads.keeps k0 ra) (ReadsAll.cons (Reads.keeps k0 rb) ReadsAll.nil)
  refine call_min_twoH (iter_tupleW (s := { s with heap := s.heap.push { cls := .type "tuple", data := .seq #[a, b] } }) (A := A.in1) hh hl fun s₂ e W st hfp hw hk => ?_)
  refine ⟨_, _, _, _, _, _, _, (s.heap.push { cls := .type "tuple", data := .seq #[a, b] }), _, rfl, W, st, hfp, by simp, hw, hk, PySem.W.cmpIn_lt (s := { s with heap := s.heap.push { cls := .type "tuple", data := .seq #[a, b] } }) (A := A.in1) hr ha (by show A.units + 1 + _ < _; exact hu), fun v s' hP m => ?_⟩
  obtain ⟨h', tk, rfl, hk'⟩ := moved_old e rfl m
  have hv : v = if dataLt y x = true then b else a := by
    have hP' : (#[a, b] : Array Value)[if dataLt y x = true then 1 else 0]? = some v := hP
    by_cases c : dataLt y x = true
    · rw [if_pos c] at hP' ⊢
      exact (Option.some.inj hP').symm
    · rw [if_neg c] at hP' ⊢
      exact (Option.some.inj hP').symm
  rw [hv]
  exact h h' tk fun c o e => hk' c o (k0 c o e)
theorem max_two_data {a b : Value} {x y : PyData} {as bs : List Addr} {Q : Value → Shared → Prop} (hh : A.handled = none) (ra : Reads s.heap a x as) (rb : Reads s.heap b y bs) (ha : PySem.W.AlikeAll [x, y]) (hu : A.units + 1 + PyData.depthAll [x, y] < cLine)
    (h : ∀ h' tk, (∀ c o, s.heap.get? c = some o → h'.get? c = some o) → Q (if dataLt x y = true then b else a) { s with heap := h', toks := tk }) :
    wpAny (model prog w) A (call (.builtin "max") [a, b]) Q E s := by
  have k0 : ∀ c o, s.heap.get? c = some o → (s.heap.push { cls := .type "tuple", data := .seq #[a, b] }).get? c = some o := fun c o e => Heap.get?_push_of_some _ e
  have hl : ({ s with heap := s.heap.push { cls := .type "tuple", data := .seq #[a, b] } } : Shared).heap.IsTuple s.heap.objs.size #[a, b] := ⟨_, Heap.get?_push_size _ rfl, rfl, 0, rfl⟩
  have hr : ReadsAll (s.heap.push { cls := .type "tuple", data := .seq #[a, b] }) (#[a, b] : Array Value).toList [x, y] _ := ReadsAll.cons (Reads.keeps k0 ra) (ReadsAll.cons (Reads.keeps k0 rb) ReadsAll.nil)
  refine call_max_twoH (iter_tupleW (s := { s with heap := s.heap.push { cls := .type "tuple", data := .seq #[a, b] } }) (A := A.in1) hh hl fun s₂ e W st hfp hw hk => ?_)
  refine ⟨_, _, _, _, _, _, _, (s.heap.push { cls := .type "tuple", data := .seq #[a, b] }), _, rfl, W, st, hfp, by simp, hw, hk, PySem.W.cmpIn_gt (s := { s with heap := s.heap.push { cls := .type "tuple", data := .seq #[a, b] } }) (A := A.in1) hr ha (by show A.units + 1 + _ < _; exact hu), fun v s' hP m => ?_⟩
  obtain ⟨h', tk, rfl, hk'⟩ := moved_old e rfl m
  have hv : v = if dataLt x y = true then b else a := by
    have hP' : (#[a, b] : Array Value)[if dataLt x y = true then 1 else 0]? = some v := hP
    by_cases c : dataLt x y = true
    · rw [if_pos c] at hP' ⊢
      exact (Option.some.inj hP').symm
    · rw [if_neg c] at hP' ⊢
      exact (Option.some.inj hP').symm
  rw [hv]
  exact h h' tk fun c o e => hk' c o (k0 c o e)
end
def rMinD (K : PySem.W.Frag) : List V → Hp → VK → Prop := fun xs H Q => ∃ (u v : V) (d e : PyData), xs = [u, v] ∧ Dp K H u d ∧ Dp K H v e ∧ AlikeAll [d, e] ∧ PyData.depthAll [d, e] ≤ 60 ∧ Q (if dataLt e d = true then v else u) H
def rMaxD2 (K : PySem.W.Frag) : List V → Hp → VK → Prop := fun xs H Q => ∃ (u v : V) (d e : PyData), xs = [u, v] ∧ Dp K H u d ∧ Dp K H v e ∧ AlikeAll [d, e] ∧ PyData.depthAll [d, e] ≤ 60 ∧ Q (if dataLt d e = true then v else u) H
section
variable {X : Cx}
theorem call_minD (hc : X.calm = true) (hu : X.A.units + 65 < cLine) : CallR X (.builtin "min") (rMinD X.K) := by
  intro pins s σ H xs us Q I r h
  obtain ⟨u, v, d, e, rfl, hd, he, ha, hz, q⟩ := h
  obtain ⟨u', v', rfl, ru, rv⟩ := vals2 r
  obtain ⟨as, r1⟩ := Dp.reads I d u u' hd ru
  obtain ⟨bs, r2⟩ := Dp.reads I e v v' he rv
  refine min_two_data (I.ok.hd hc) r1 r2 ha (by omega) fun h' tk k => ⟨_, H, I.kept k, ?_, q⟩
  split
  · exact rv
  · exact ru
theorem call_maxD (hc : X.calm = true) (hu : X.A.units + 65 < cLine) : CallR X (.builtin "max") (rMaxD2 X.K) := by
  intro pins s σ H xs us Q I r h
  obtain ⟨u, v, d, e, rfl, hd, he, ha, hz, q⟩ := h
  obtain ⟨u', v', rfl, ru, rv⟩ := vals2 r
  obtain ⟨as, r1⟩ := Dp.reads I d u u' hd ru
  obtain ⟨bs, r2⟩ := Dp.reads I e v v' he rv
  refine max_two_data (I.ok.hd hc) r1 r2 ha (by omega) fun h' tk k => ⟨_, H, I.kept k, ?_, q⟩
  split
  · exact rv
  · exact ru
end
def kf (p : Addr) (x y : Tl.Sg) (z : V) : Int × Int := if z = V.ref p then ((x.1 : Int), (x.2 : Int)) else ((y.1 : Int), (y.2 : Int))
theorem kf_1 {p : Addr} {x y : Tl.Sg} : kf p x y (.ref p) = ((x.1 : Int), (x.2 : Int)) := if_pos rfl
theorem kf_2 {p q : Addr} {x y : Tl.Sg} (h : V.ref q ≠ V.ref p) : kf p x y (.ref q) = ((y.1 : Int), (y.2 : Int)) := if_neg h
theorem perm2 {α : Type} {l : List α} {a b : α} (h : l.Perm [a, b]) : l = [a, b] ∨ l = [b, a] := by
  have hl := h.length_eq
  match l, hl with
  | [c, d], _ =>
    have hc : c ∈ [a, b] := h.mem_iff.mp (List.mem_cons_self ..)
    rcases List.mem_cons.mp hc with rfl | hc
    · have z := (List.perm_cons c).mp h
      have e := List.perm_singleton.mp z
      rw [e]
      exact .inl rfl
    · have e1 := List.mem_singleton.mp hc
      subst e1
      have z := (List.perm_cons c).mp (h.trans (List.Perm.swap c a []))
      have e := List.perm_singleton.mp z
      rw [e]
      exact .inr rfl
theorem sg_alike (x y : Tl.Sg) : AlikeAll [sgD x, sgD y] := by
  refine ⟨fun a ha b hb => ?_, fun a ha => ?_⟩
  · rcases List.mem_cons.mp ha with rfl | ha <;> rcases List.mem_cons.mp hb with rfl | hb
    · rfl
    · rw [List.mem_singleton.mp hb]; rfl
    · rw [List.mem_singleton.mp ha]; rfl
    · rw [List.mem_singleton.mp ha, List.mem_singleton.mp hb]; rfl
  · rcases List.mem_cons.mp ha with rfl | ha
    · exact fun z => nomatch z
    · rw [List.mem_singleton.mp ha]; exact fun z => nomatch z
theorem sg_lt (x y : Tl.Sg) : dataLt (sgD x) (sgD y) = decide (x.1 < y.1 ∨ (x.1 = y.1 ∧ x.2 < y.2)) := by
  rw [show dataLt (sgD x) (sgD y) = _ from dataLt_ii _ _ _ _, Bool.eq_iff_iff, decide_eq_true_iff, decide_eq_true_iff]
  omega
theorem sg_depth (x y : Tl.Sg) : PyData.depthAll [sgD x, sgD y] ≤ 60 := by simp [sgD, PyData.depth, PyData.depthAll]
section
variable {K : PySem.W.Frag} {H : Hp} {Q : VK} {u v : V} {x y : Tl.Sg}
theorem r_par {i j : Nat} {ta : TA} {σ : L2.St} {H : Hp} {D : Ends} (h : ta σ H fun vs H1 => ∃ v w, vs = [v, w] ∧ D.nx ((σ.set i (some v)).set j (some w)) H1) : tPar i j ta D σ H := h
/-- min of two signs of one chunk -/
theorem r_minSg (h : x.1 = y.1) (su : SgV H u x) (sv : SgV H v y) (q : Q (if y.2 < x.2 then v else u) H) : rMinD K [u, v] H Q := by
  refine ⟨u, v, _, _, rfl, su.dp, sv.dp, sg_alike x y, sg_depth x y, ?_⟩
  have e : (if dataLt (sgD y) (sgD x) = true then v else u) = if y.2 < x.2 then v else u := by
    by_cases c : y.2 < x.2
    · rw [if_pos c, if_pos (by rw [sg_lt, decide_eq_true_iff]; exact .inr ⟨h.symm, c⟩)]
    · rw [if_neg c, if_neg (by rw [sg_lt, decide_eq_true_iff]; omega)]
  rw [e]
  exact q
theorem r_maxSg (h : x.1 = y.1) (su : SgV H u x) (sv : SgV H v y) (q : Q (if x.2 < y.2 then v else u) H) : rMaxD2 K [u, v] H Q := by
  refine ⟨u, v, _, _, rfl, su.dp, sv.dp, sg_alike x y, sg_depth x y, ?_⟩
  have e : (if dataLt (sgD x) (sgD y) = true then v else u) = if x.2 < y.2 then v else u := by
    by_cases c : x.2 < y.2
    · rw [if_pos c, if_pos (by rw [sg_lt, decide_eq_true_iff]; exact .inr ⟨h, c⟩)]
    · rw [if_neg c, if_neg (by rw [sg_lt, decide_eq_true_iff]; omega)]
  rw [e]
  exact q
/-- sorted([one, other]), the chunks differ -/
theorem r_sortSg {p : Addr} (h : x.1 ≠ y.1) (hp : SqL K H p [u, v]) (su : SgV H u x) (sv : SgV H v y) (q : ∀ l, H l = none → Q (.ref l) (upd H l (.lst (if x.1 < y.1 then [u, v] else [v, u])))) : rSortedPO K [.ref p] H Q := by
  obtain ⟨p1, rfl, h1⟩ := su
  obtain ⟨p2, rfl, h2⟩ := sv
  have ne : V.ref p2 ≠ V.ref p1 := fun z => by
    rw [V.ref.inj z, h1] at h2
    injection h2 with h2
    injection h2 with h2
    injection h2 with h3
    have := V.int.inj h3
    omega
  refine ⟨p, _, kf p1 x y, rfl, hp, fun z hz => ?_, fun ys l hs hb hl => ?_⟩
  · rcases List.mem_cons.mp hz with rfl | hz
    · exact ⟨p1, rfl, by rw [kf_1]; exact h1⟩
    · rw [List.mem_singleton.mp hz]
      exact ⟨p2, rfl, by rw [kf_2 ne]; exact h2⟩
  · rcases perm2 hb.perm with rfl | rfl
    · have z := (List.pairwise_cons.mp hs).1 _ (List.mem_singleton.mpr rfl)
      have z' : SrtO.lexB (kf p1 x y (.ref p2)) (kf p1 x y (.ref p1)) = false := z
      rw [kf_1, kf_2 ne] at z'
      have z2 := SrtO.lexB_no.mp z'
      have c : x.1 < y.1 := by
        have : ¬ ((y.1 : Int) < x.1) := fun k => by
          have := (SrtO.lexB_iff (p := ((y.1 : Int), (y.2 : Int))) (q := ((x.1 : Int), (x.2 : Int)))).mpr (.inl k)
          rw [this] at z'
          cases z'
        omega
      have k := q l hl
      rw [if_pos c] at k
      exact k
    · have z := (List.pairwise_cons.mp hs).1 _ (List.mem_singleton.mpr rfl)
      have z' : SrtO.lexB (kf p1 x y (.ref p1)) (kf p1 x y (.ref p2)) = false := z
      rw [kf_1, kf_2 ne] at z'
      have c : ¬ x.1 < y.1 := fun k => by
        have := (SrtO.lexB_iff (p := ((x.1 : Int), (x.2 : Int))) (q := ((y.1 : Int), (y.2 : Int)))).mpr (.inl (by show (x.1 : Int) < y.1; omega))
        rw [this] at z'
        cases z'
      have k := q l hl
      rw [if_neg c] at k
      exact k
end
end Dk
/-! immutable data: kept as long as tuples are kept -/
namespace Dk
open PySem PySem.Spec PyProof.Rows L2
def Tk (H H' : Hp) : Prop := ∀ p xs, H p = some (.tup xs) → H' p = some (.tup xs)
section
variable {H H' H1 H2 : Hp} {b h p l : Addr} {xs ys : List V} {o : HO}
theorem Tk.refl (H : Hp) : Tk H H := fun _ _ e => e
theorem Tk.trans (x : Tk H H1) (y : Tk H1 H2) : Tk H H2 := fun p xs e => y p xs (x p xs e)
theorem Tk.ex (e : Ex H H') : Tk H H' := fun p xs h => e _ _ h
theorem Tk.put (e : H l = some (.lst xs)) : Tk H (upd H l o) := fun p ys h => by
  have n : p ≠ l := fun z => by rw [z, e] at h; cases h
  rw [upd_ne n]
  exact h
theorem Tk.new (e : H p = none) : Tk H (upd H p o) := .ex (Same.new (Same.refl H) e)
theorem Bx.tk (s : Bx H b h) (d : Dr2 b h H H') : Tk H H' := fun p xs e => by
  obtain ⟨_, z, ns, h1, _, _, h2, _⟩ := s
  exact d.hh p _ (fun q => by rw [q, h1] at e; cases e) (fun q => by rw [q, h2] at e; cases e) e
end
/-- a relation between values and data that tuples alone bear -/
class Imm {α : Type} (R : Hp → V → α → Prop) : Prop where
  tk : ∀ {H H' : Hp} {v : V} {x : α}, Tk H H' → R H v x → R H' v x
theorem imm {α : Type} {R : Hp → V → α → Prop} [i : Imm R] {H H' : Hp} {v : V} {x : α} (t : Tk H H') (r : R H v x) : R H' v x := i.tk t r
def IntV (H : Hp) (v : V) (n : Nat) : Prop := v = .int (n : Nat)
def StrV (H : Hp) (v : V) (z : Str) : Prop := v = .str z
def PairV {α β : Type} (R : Hp → V → α → Prop) (S : Hp → V → β → Prop) (H : Hp) (v : V) (x : α × β) : Prop := ∃ (p : Addr) (a b : V), v = .ref p ∧ H p = some (.tup [a, b]) ∧ R H a x.1 ∧ S H b x.2
def TupV {α : Type} (R : Hp → V → α → Prop) (H : Hp) (v : V) (l : List α) : Prop := ∃ (p : Addr) (xs : List V), v = .ref p ∧ H p = some (.tup xs) ∧ P2 (R H) xs l
instance : Imm IntV := ⟨fun _ h => h⟩
instance : Imm StrV := ⟨fun _ h => h⟩
instance : Imm SgV := ⟨fun t h => h.imp fun p z => ⟨z.1, t _ _ z.2⟩⟩
instance {α β : Type} {R : Hp → V → α → Prop} {S : Hp → V → β → Prop} [Imm R] [Imm S] : Imm (PairV R S) := ⟨fun t h => by
  obtain ⟨p, a, b, h1, h2, h3, h4⟩ := h
  exact ⟨p, a, b, h1, t _ _ h2, imm t h3, imm t h4⟩⟩
theorem p2_imm {α : Type} {R : Hp → V → α → Prop} [Imm R] {H H' : Hp} {xs : List V} {l : List α} (t : Tk H H') (h : P2 (R H) xs l) : P2 (R H') xs l := h.imp fun _ _ z => imm t z
instance {α : Type} {R : Hp → V → α → Prop} [Imm R] : Imm (TupV R) := ⟨fun t h => by
  obtain ⟨p, xs, h1, h2, h3⟩ := h
  exact ⟨p, xs, h1, t _ _ h2, p2_imm t h3⟩⟩
section
variable {α β : Type} {R : Hp → V → α → Prop} {S : Hp → V → β → Prop} {K : PySem.W.Frag} {σ : L2.St} {H H' : Hp} {Q : VK} {v u a b : V} {x : α} {y : β} {l m : List α} {xs : List V} {N : L2.St → Hp → Prop}
theorem TupV.ref (h : TupV R H v l) : ∃ p xs, v = .ref p ∧ H p = some (.tup xs) ∧ P2 (R H) xs l := h
theorem r_ixTV {i : Nat} (h : TupV R H v l) (hx : l[i]? = some x) (q : ∀ u, R H u x → Q u H) : rIx K v (.int (i : Nat)) H Q := by
  obtain ⟨p, xs, rfl, hp, hl⟩ := h
  obtain ⟨u, hu, hr⟩ := hl.get' hx
  exact r_ixT (sqT hp) (atI_nat hu) (q u hr)
theorem r_ixTm (h : TupV R H v (l ++ [x])) (q : ∀ u, R H u x → Q u H) : rIx K v (.int (-1)) H Q := by
  obtain ⟨p, xs, rfl, hp, hl⟩ := h
  have hlen := hl.len
  obtain ⟨u, hu, hr⟩ := hl.get' (i := l.length) (b := x) (by simp)
  rw [List.length_append, List.length_singleton] at hlen
  have e : xs = xs.dropLast ++ [u] := by
    have hne : xs ≠ [] := fun z => by rw [z] at hlen; simp at hlen
    have h1 := (List.dropLast_concat_getLast hne).symm
    have h2 : xs.getLast hne = u := by
      have h3 : xs[xs.length - 1]? = some (xs.getLast hne) := by rw [← List.getLast?_eq_getElem?]; exact List.getLast?_eq_some_getLast hne
      rw [hlen, Nat.add_sub_cancel, hu] at h3
      exact (Option.some.inj h3).symm
    rw [h2] at h1
    exact h1
  rw [e] at hp
  exact r_ixT (sqT hp) (atI_last _ _) (q u hr)
theorem r_ixP0 {z : α × β} (h : PairV R S H v z) (q : ∀ u, R H u z.1 → Q u H) : rIx K v (.int 0) H Q := by
  obtain ⟨p, a, b, rfl, hp, ha, hb⟩ := h
  exact r_ixT (sqT hp) (atI_nat (j := 0) rfl) (q a ha)
theorem r_ixP1 {z : α × β} (h : PairV R S H v z) (q : ∀ u, S H u z.2 → Q u H) : rIx K v (.int 1) H Q := by
  obtain ⟨p, a, b, rfl, hp, ha, hb⟩ := h
  exact r_ixT (sqT hp) (atI_nat (j := 1) rfl) (q b hb)
theorem r_ixS0 {z : Tl.Sg} (h : SgV H v z) (q : Q (.int (z.1 : Nat)) H) : rIx K v (.int 0) H Q := by
  obtain ⟨p, rfl, hp⟩ := h
  exact r_ixT (sqT hp) (atI_nat (j := 0) rfl) q
theorem r_ixS1 {z : Tl.Sg} (h : SgV H v z) (q : Q (.int (z.2 : Nat)) H) : rIx K v (.int 1) H Q := by
  obtain ⟨p, rfl, hp⟩ := h
  exact r_ixT (sqT hp) (atI_nat (j := 1) rfl) q
theorem r_lenTV (h : TupV R H v l) (q : Q (.int (l.length : Nat)) H) : rLenU K [v] H Q := by
  obtain ⟨p, xs, rfl, hp, hl⟩ := h
  refine r_lenT (sqT hp) ?_
  rw [hl.len]
  exact q
theorem r_gP {t : TGs} {z : α × β} (h : PairV R S H v z) (k : ∀ a b, R H a z.1 → S H b z.2 → t [a, b] σ H N) : gTup K 2 t v σ H N := by
  obtain ⟨p, a, b, rfl, hp, ha, hb⟩ := h
  exact r_gtup (sqT hp) rfl (k a b ha hb)
theorem r_mkP [Imm R] [Imm S] (ha : R H a x) (hb : S H b y) (q : ∀ p H', H p = none → Ex H H' → PairV R S H' (.ref p) (x, y) → Q (.ref p) H') : [a, b].length ≤ sizeLine ∧ ∀ p, H p = none → Q (.ref p) (upd H p (.tup [a, b])) :=
  r_small nsz fun p hp => q p _ hp (Same.new (Same.refl H) hp) ⟨p, a, b, rfl, upd_same, imm (.new hp) ha, imm (.new hp) hb⟩
theorem r_mkS {i j : Nat} (q : ∀ p H', H p = none → Ex H H' → SgV H' (.ref p) (i, j) → Q (.ref p) H') : [V.int (i : Nat), V.int (j : Nat)].length ≤ sizeLine ∧ ∀ p, H p = none → Q (.ref p) (upd H p (.tup [V.int (i : Nat), V.int (j : Nat)])) :=
  r_small nsz fun p hp => q p _ hp (Same.new (Same.refl H) hp) ⟨p, rfl, upd_same⟩
theorem r_mkT [Imm R] (h : P2 (R H) xs l) (hl : l.length ≤ 1000) (q : ∀ p H', H p = none → Ex H H' → TupV R H' (.ref p) l → Q (.ref p) H') : xs.length ≤ sizeLine ∧ ∀ p, H p = none → Q (.ref p) (upd H p (.tup xs)) :=
  r_small (by rw [h.len]; exact hl) fun p hp => q p _ hp (Same.new (Same.refl H) hp) ⟨p, xs, rfl, upd_same, p2_imm (.new hp) h⟩
theorem r_catTV [Imm R] (h1 : TupV R H v l) (h2 : TupV R H u m) (hz : l.length + m.length ≤ 1000) (q : ∀ w H', Ex H H' → TupV R H' w (l ++ m) → Q w H') : rAddU K v u H Q := by
  obtain ⟨p, xs, rfl, hp, hl⟩ := h1
  obtain ⟨p2, ys, rfl, hp2, hm⟩ := h2
  refine .inr (.inr (.inr ⟨p, p2, xs, ys, rfl, rfl, sqT hp, sqT hp2, Nat.le_of_lt (small1000 (by rw [hl.len, hm.len]; exact hz)), fun z => ?_, fun _ z => ?_, fun _ _ p3 hp3 => ?_⟩))
  · subst z
    cases hl
    exact q _ H (Same.refl H) ⟨p2, ys, rfl, hp2, hm⟩
  · subst z
    cases hm
    rw [List.append_nil] at q
    exact q _ H (Same.refl H) ⟨p, xs, rfl, hp, hl⟩
  · exact q _ _ (Same.new (Same.refl H) hp3) ⟨p3, _, rfl, upd_same, p2_imm (.new hp3) (hl.app hm)⟩
theorem P2.all {l' : List V} {m' : List α} {P : V → α → Prop} (h : P2 P l' m') (lo hi : Option Int) : P2 P (cutV l' lo hi) ((m'.drop (HT.sIx m'.length 0 lo)).take (HT.sIx m'.length m'.length hi - HT.sIx m'.length 0 lo)) := by
  unfold cutV
  rw [h.len]
  exact (h.drop _).take _
theorem r_slTV [Imm R] {lo hi : Option Int} (h : TupV R H v l) (q : ∀ w H', Ex H H' → TupV R H' w ((l.drop (HT.sIx l.length 0 lo)).take (HT.sIx l.length l.length hi - HT.sIx l.length 0 lo)) → Q w H') : rSlU K v lo hi H Q := by
  obtain ⟨p, xs, rfl, hp, hl⟩ := h
  refine .inr (.inr ⟨p, xs, rfl, sqT hp, fun z => ?_, fun _ p2 hp2 => ?_⟩)
  · have e : ((l.drop (HT.sIx l.length 0 lo)).take (HT.sIx l.length l.length hi - HT.sIx l.length 0 lo)) = l := by
      rw [hl.len] at z
      rw [z.1, z.2, List.drop_zero, Nat.sub_zero, List.take_length]
    rw [e] at q
    exact q _ H (Same.refl H) ⟨p, xs, rfl, hp, hl⟩
  · exact q _ _ (Same.new (Same.refl H) hp2) ⟨p2, _, rfl, upd_same, p2_imm (.new hp2) (hl.all lo hi)⟩
theorem cut_to {l : List α} {k : Nat} : (l.drop (HT.sIx l.length 0 none)).take (HT.sIx l.length l.length (some (k : Int)) - HT.sIx l.length 0 none) = l.take k := by
  rw [HT.sIx_nat, HT.sIx_none, List.drop_zero, Nat.sub_zero]
  by_cases h : k ≤ l.length
  · rw [Nat.min_eq_left h]
  · rw [Nat.min_eq_right (by omega), List.take_length, List.take_of_length_le (by omega)]
theorem cut_from {l : List α} {k : Nat} : (l.drop (HT.sIx l.length 0 (some (k : Int)))).take (HT.sIx l.length l.length none - HT.sIx l.length 0 (some (k : Int))) = l.drop k := by
  rw [HT.sIx_nat, HT.sIx_none]
  by_cases h : k ≤ l.length
  · rw [Nat.min_eq_left h, List.take_of_length_le (by rw [List.length_drop]; omega)]
  · rw [Nat.min_eq_right (by omega), Nat.sub_self, List.take_zero, List.drop_eq_nil_of_le (by omega)]
theorem r_slTo [Imm R] {k : Nat} (h : TupV R H v l) (q : ∀ w H', Ex H H' → TupV R H' w (l.take k) → Q w H') : rSlU K v none (some (k : Int)) H Q := r_slTV h (by rw [cut_to]; exact q)
theorem r_slFrom [Imm R] {k : Nat} (h : TupV R H v l) (q : ∀ w H', Ex H H' → TupV R H' w (l.drop k) → Q w H') : rSlU K v (some (k : Int)) none H Q := r_slTV h (by rw [cut_from]; exact q)
/-- tuple(list) -/
theorem r_tupLV [Imm R] {p : Addr} (hp : H p = some (.lst xs)) (h : P2 (R H) xs l) (q : ∀ p H', H p = none → Ex H H' → TupV R H' (.ref p) l → Q (.ref p) H') : rTupU K [.ref p] H Q :=
  r_tupL (sqL hp) fun p2 hp2 => q p2 _ hp2 (Same.new (Same.refl H) hp2) ⟨p2, xs, rfl, upd_same, p2_imm (.new hp2) h⟩
/-- an item of a list -/
theorem r_ixLV {p : Addr} {i : Nat} (hp : H p = some (.lst xs)) (h : P2 (R H) xs l) (hx : l[i]? = some x) (q : ∀ u, R H u x → Q u H) : rIx K (.ref p) (.int (i : Nat)) H Q := by
  obtain ⟨u, hu, hr⟩ := h.get' hx
  exact r_ixL (sqL hp) (atI_nat hu) (q u hr)
theorem r_ixLm {p : Addr} (hp : H p = some (.lst xs)) (h : P2 (R H) xs (l ++ [x])) (q : ∀ u, R H u x → Q u H) : rIx K (.ref p) (.int (-1)) H Q := by
  have hlen := h.len
  obtain ⟨u, hu, hr⟩ := h.get' (i := l.length) (b := x) (by simp)
  rw [List.length_append, List.length_singleton] at hlen
  have e : xs = xs.dropLast ++ [u] := by
    have hne : xs ≠ [] := fun z => by rw [z] at hlen; simp at hlen
    have h1 := (List.dropLast_concat_getLast hne).symm
    have h2 : xs.getLast hne = u := by
      have h3 : xs[xs.length - 1]? = some (xs.getLast hne) := by rw [← List.getLast?_eq_getElem?]; exact List.getLast?_eq_some_getLast hne
      rw [hlen, Nat.add_sub_cancel, hu] at h3
      exact (Option.some.inj h3).symm
    rw [h2] at h1
    exact h1
  rw [e] at hp
  exact r_ixL (sqL hp) (atI_last _ _) (q u hr)
end
/-! equality of pairs of signs -/
abbrev SpV := PairV SgV SgV
abbrev spD (x : Tl.Sg × Tl.Sg) : PyData := .tuple [sgD x.1, sgD x.2]
theorem SpV.dp {K : PySem.W.Frag} {G : Hp} {v : V} {x : Tl.Sg × Tl.Sg} (h : SpV G v x) : Dp K G v (spD x) := by
  obtain ⟨p, a, b, rfl, hp, ha, hb⟩ := h
  exact .tup (sqT hp) (.cons ha.dp (.cons hb.dp .nil))
theorem sp_shaped (x : Tl.Sg × Tl.Sg) : SeqAt.shaped (spD x) = true := by rfl
theorem sp_eqv (x y : Tl.Sg × Tl.Sg) : PyData.eqv (spD x) (spD y) = decide (x = y) := by
  obtain ⟨a, b⟩ := x
  obtain ⟨c, d⟩ := y
  show (PyData.eqv (sgD a) (sgD c) && (PyData.eqv (sgD b) (sgD d) && true)) = _
  rw [sg_eqv, sg_eqv, Bool.and_true, Bool.eq_iff_iff]
  simp
theorem r_eqSp {K : PySem.W.Frag} {H : Hp} {Q : VK} {v w : V} {x y : Tl.Sg × Tl.Sg} (h1 : SpV H v x) (h2 : SpV H w y) (q : Q (.bl (decide (x = y))) H) : rEqU K v w H Q :=
  .inr ⟨_, _, h1.dp, h2.dp, sp_shaped x, sp_shaped y, by rw [sp_eqv]; exact q⟩
theorem r_neSp {K : PySem.W.Frag} {H : Hp} {Q : VK} {v w : V} {x y : Tl.Sg × Tl.Sg} (h1 : SpV H v x) (h2 : SpV H w y) (q : Q (.bl (!decide (x = y))) H) : rNeU K v w H Q :=
  .inr ⟨_, _, h1.dp, h2.dp, sp_shaped x, sp_shaped y, by rw [sp_eqv]; exact q⟩
theorem sps_shaped (m : List (Tl.Sg × Tl.Sg)) : SeqAt.shaped (.list (m.map spD)) = true := by
  have key : PyData.canLayAll0 (m.map spD) = true ∧ PyData.depthAll (m.map spD) ≤ 3 := by
    induction m with
    | nil => exact ⟨rfl, by decide⟩
    | cons x r ih =>
      refine ⟨?_, ?_⟩
      · show ((spD x).canLay0 && PyData.canLayAll0 (r.map spD)) = true
        rw [ih.1]
        rfl
      · show max (spD x).depth (PyData.depthAll (r.map spD)) ≤ 3
        have e : (spD x).depth ≤ 3 := by simp [spD, sgD, PyData.depth, PyData.depthAll]
        omega
  show (PyData.canLayAll0 (m.map spD) && decide (_ ≤ 64)) = true
  rw [key.1]
  have e : (PyData.list (m.map spD)).depth = PyData.depthAll (m.map spD) + 1 := by first | rfl | exact Nat.add_comm _ _
  show decide (_ ≤ 64) = true
  rw [decide_eq_true_iff, e]
  omega
theorem sps_dps {K : PySem.W.Frag} {H : Hp} {xs : List V} {m : List (Tl.Sg × Tl.Sg)} (h : P2 (SpV H) xs m) : DpAll K H xs (m.map spD) := by
  induction h with
  | nil => exact .nil
  | cons h t ih => exact .cons (SpV.dp h) ih
/-- pair not in a list of pairs -/
theorem r_niSp {K : PySem.W.Frag} {H : Hp} {Q : VK} {v : V} {p : Addr} {xs : List V} {x : Tl.Sg × Tl.Sg} {m : List (Tl.Sg × Tl.Sg)} (h1 : SpV H v x) (hp : H p = some (.lst xs)) (h2 : P2 (SpV H) xs m) (q : Q (.bl (!decide (x ∈ m))) H) : rNotInD K v (.ref p) H Q := by
  exact ⟨_, _, h1.dp, .lst (sqL hp) (sps_dps h2), sp_shaped x, sps_shaped m, by
    have e : ((m.map spD).any fun z => PyData.eqv z (spD x)) = decide (x ∈ m) := by
      rw [List.any_map, Bool.eq_iff_iff, List.any_eq_true, decide_eq_true_iff]
      constructor
      · rintro ⟨y, hy, e⟩
        rw [Function.comp_apply, sp_eqv, decide_eq_true_iff] at e
        rw [← e]
        exact hy
      · intro h
        exact ⟨x, h, by rw [Function.comp_apply, sp_eqv]; exact decide_eq_true rfl⟩
    rw [e]
    exact q⟩
end Dk
/-! rules of our own, further -/
namespace Dk
open PySem PySem.Spec PyProof.Rows L2
/-! text * number -/
def rRepS : R2 := fun x y H Q => ∃ (z : Str) (n : Nat), x = .str z ∧ y = .int (n : Nat) ∧ z.length ≤ 100 ∧ n ≤ 8000 ∧ Q (.str (Txt.mul z n)) H
theorem op_repS {X : Cx} : OpR X (binaryOp .Mult) rRepS := by
  intro pins s σ H x y v u Q I rx ry h
  obtain ⟨z, n, rfl, rfl, hz, hn, q⟩ := h
  obtain ⟨t, rfl⟩ := rx
  obtain ⟨t', rfl⟩ := ry
  refine SB.mul ⟨?_, fun h1 h2 => ?_, fun h1 h2 => ?_⟩ fun t' k => ⟨.str (Txt.mul z n), H, I.tok _, ⟨_, rfl⟩, q⟩
  · simp
    omega
  · have e : (z.length : Int) * n ≤ 2 ^ 63 - 1 := by
      have : (z.length : Int) * n ≤ 100 * 8000 := Int.mul_le_mul (by omega) (by omega) (by omega) (by omega)
      omega
    have p : (0 : Int) < n := by omega
    have := (Int.le_ediv_iff_mul_le p).mpr e
    omega
  · have e : z.length * n ≤ 100 * 8000 := Nat.mul_le_mul hz hn
    rw [Int.toNat_natCast]
    show decide (z.length * n > sizeLine) = false
    rw [decide_eq_false_iff_not, sizeLine_eq]
    omega
theorem r_repS {H : Hp} {Q : VK} {z : Str} {n : Nat} (hz : z.length ≤ 100) (hn : n ≤ 8000) (q : Q (.str (Txt.mul z n)) H) : rRepS (.str z) (.int (n : Nat)) H Q := ⟨z, n, rfl, rfl, hz, hn, q⟩
theorem cs_mul (z : Str) (n : Nat) : cs (Txt.mul z n) = (List.replicate n (cs z)).flatten := by
  unfold Txt.mul
  by_cases h1 : (n : Int) < 1
  · have e : n = 0 := by omega
    subst e
    rw [if_pos h1]
    rfl
  · rw [if_neg h1]
    by_cases h2 : ((n : Int) == 1 || z.length == 0) = true
    · rw [if_pos h2]
      rw [Bool.or_eq_true, beq_iff_eq, beq_iff_eq] at h2
      rcases h2 with h2 | h2
      · have e : n = 1 := by omega
        subst e
        simp
      · have e : cs z = [] := List.length_eq_zero_iff.mp (by rw [cs_len]; exact h2)
        rw [e]
        simp
    · rw [if_neg h2, Int.toNat_natCast]
      have key : ∀ (m : Nat) (a : Array Nat), ((List.replicate m z.cps).foldl (fun x y => x ++ y) a).toList = a.toList ++ (List.replicate m (cs z)).flatten := by
        intro m
        induction m with
        | zero => intro a; simp
        | succ m ih =>
          intro a
          rw [List.replicate_succ, List.foldl_cons, ih, List.replicate_succ, List.flatten_cons, Array.toList_append, List.append_assoc]
      have q := key n #[]
      simpa using q
theorem len_mul (z : Str) (n : Nat) : (Txt.mul z n).length = n * z.length := by
  rw [← cs_len, cs_mul, List.length_flatten, List.map_replicate, List.sum_replicate_nat, cs_len]
/-! reversed(a tuple) -/
theorem r_forRvo {K : PySem.W.Frag} {te : TE} {g : TG} {tb : TS} {D : Ends} {σ : L2.St} {H : Hp} (h : te σ H fun v H1 => ∃ (a : Addr) (xs : List V), v = .ref a ∧ ((SqL K H1 a xs ∧ LoopW (Itv K a xs.length) g tb D σ H1) ∨ (SqT K H1 a xs ∧ LoopW (RT.ItvT K a xs.length) g tb D σ H1))) : tFor (RT.iRevA K te) g tb D σ H := h
theorem r_mkSi {H : Hp} {Q : VK} {a b : Int} {i j : Nat} (ea : a = (i : Nat)) (eb : b = (j : Nat)) (q : ∀ p H', H p = none → Ex H H' → SgV H' (.ref p) (i, j) → Q (.ref p) H') : [V.int a, V.int b].length ≤ sizeLine ∧ ∀ p, H p = none → Q (.ref p) (upd H p (.tup [V.int a, V.int b])) := by
  subst ea eb
  exact r_mkS q
section
variable {α β : Type} {R : Hp → V → α → Prop} {S : Hp → V → β → Prop} {H : Hp} {p : Addr} {u v : V} {x : α} {y : β} {l : List α} {xs : List V}
theorem nP [Imm R] [Imm S] (hp : H p = none) (ha : R H u x) (hb : S H v y) : ∃ H', H' = upd H p (.tup [u, v]) ∧ Ex H H' ∧ PairV R S H' (.ref p) (x, y) :=
  ⟨_, rfl, Same.new (Same.refl H) hp, p, u, v, rfl, upd_same, imm (.new hp) ha, imm (.new hp) hb⟩
theorem nS {a b : Int} {i j : Nat} (hp : H p = none) (ea : a = (i : Nat)) (eb : b = (j : Nat)) : ∃ H', H' = upd H p (.tup [V.int a, V.int b]) ∧ Ex H H' ∧ SgV H' (.ref p) (i, j) := by
  subst ea eb
  exact ⟨_, rfl, Same.new (Same.refl H) hp, p, rfl, upd_same⟩
theorem nT [Imm R] (hp : H p = none) (h : P2 (R H) xs l) : ∃ H', H' = upd H p (.tup xs) ∧ Ex H H' ∧ TupV R H' (.ref p) l :=
  ⟨_, rfl, Same.new (Same.refl H) hp, p, xs, rfl, upd_same, p2_imm (.new hp) h⟩
theorem nL (o : HO) (hp : H p = none) : ∃ H', H' = upd H p o ∧ Ex H H' ∧ H' p = some o := ⟨_, rfl, Same.new (Same.refl H) hp, upd_same⟩
end
/-! within a comprehension -/
theorem k_eqU {X : Cx} {K : PySem.W.Frag} (h : X.K = K) (hu : X.A.units + 64 < cLine) : OpR X (compareOp .Eq) (rEqU K) := h ▸ op_eqU hu
theorem k_neU {X : Cx} {K : PySem.W.Frag} (h : X.K = K) (hu : X.A.units + 64 < cLine) : OpR X (compareOp .NotEq) (rNeU K) := h ▸ op_neU hu
/-! ints in lists -/
section
variable {K : PySem.W.Frag} {H : Hp} {Q : VK} {p : Addr} {ns : List Int} {i : Int}
theorem flat_ints : (ns.map V.int).all flatV = true := by
  rw [List.all_map, List.all_eq_true]
  intro x _
  rfl
theorem inV_ints : inV (.int i) (ns.map V.int) = decide (i ∈ ns) := by
  unfold inV
  rw [List.any_map, Bool.eq_iff_iff, List.any_eq_true, decide_eq_true_iff]
  constructor
  · rintro ⟨y, hy, e⟩
    have z : y = i := by
      have := e
      simp [eqV] at this
      omega
    rw [← z]
    exact hy
  · intro h
    exact ⟨i, h, by simp [eqV]⟩
theorem r_inI (hp : SqL K H p (ns.map V.int)) (q : Q (.bl (decide (i ∈ ns))) H) : rInU K (.int i) (.ref p) H Q :=
  .inr ⟨p, _, rfl, .inl hp, rfl, flat_ints, by
    show Q (.bl (inV (.int i) (ns.map V.int))) H
    rw [inV_ints]
    exact q⟩
theorem dps_ints : DpAll K H (ns.map V.int) (ns.map PyData.int) := by
  induction ns with
  | nil => exact .nil
  | cons x r ih => exact .cons (.int _) ih
theorem ints_shaped : SeqAt.shaped (.list (ns.map PyData.int)) = true := by
  have key : PyData.canLayAll0 (ns.map PyData.int) = true ∧ PyData.depthAll (ns.map PyData.int) ≤ 2 := by
    induction ns with
    | nil => exact ⟨rfl, by decide⟩
    | cons x r ih =>
      refine ⟨?_, ?_⟩
      · show ((PyData.int x).canLay0 && PyData.canLayAll0 (r.map PyData.int)) = true
        rw [ih.1]
        rfl
      · show max (PyData.int x).depth (PyData.depthAll (r.map PyData.int)) ≤ 2
        have e : (PyData.int x).depth ≤ 2 := by simp [PyData.depth]
        omega
  show (PyData.canLayAll0 (ns.map PyData.int) && decide (_ ≤ 64)) = true
  rw [key.1]
  have e : (PyData.list (ns.map PyData.int)).depth = PyData.depthAll (ns.map PyData.int) + 1 := by first | rfl | exact Nat.add_comm _ _
  show decide (_ ≤ 64) = true
  rw [decide_eq_true_iff, e]
  omega
/-- l.index(i), l a list of ints -/
theorem r_indexI {j : Nat} (hp : SqL K H p (ns.map V.int)) (hj : ns[j]? = some i) (hno : ∀ m, m < j → ns[m]? ≠ some i) (q : Q (.int (j : Nat)) H) : rIndexD K (.ref p) [.int i] H Q := by
  refine ⟨p, .int i, .int i, ns.map PyData.int, j, .int i, rfl, rfl, .lst hp dps_ints, .int i, ints_shaped, rfl, by rw [List.getElem?_map, hj]; rfl, ?_, fun m z hm hz => ?_, q⟩
  · show ((i : Int) == i) = true
    exact beq_self_eq_true i
  · rw [List.getElem?_map] at hz
    obtain ⟨y, hy, rfl⟩ := Option.map_eq_some_iff.mp hz
    show ((y : Int) == i) = false
    rw [beq_eq_false_iff_ne]
    intro e
    exact hno m hm (by rw [hy, e])
end
end Dk
/-! places that are led by splices -/
namespace Mv
open Tl
abbrev S3 := Nat × Nat × Nat
def mv (side p : Nat) (s : S3) : Nat := if p < s.1 then p else if s.1 + s.2.1 < p then p - s.2.1 + s.2.2 else s.1 + side * s.2.2
def mvs (side p : Nat) (l : List S3) : Nat := l.foldr (fun s q => mv side q s) p
theorem mv_le {s s' p p' : Nat} (h1 : s ≤ 1) (h : s ≤ s') (hp : p ≤ p') (x : S3) : mv s p x ≤ mv s' p' x := by
  obtain ⟨a, c, m⟩ := x
  have h2 : s * m ≤ s' * m := Nat.mul_le_mul_right m h
  have h3 : s * m ≤ 1 * m := Nat.mul_le_mul_right m h1
  unfold mv
  dsimp only
  split <;> split <;> (try split) <;> (try split) <;> (try omega)
  all_goals (have : 0 ≤ s' * m := Nat.zero_le _; try omega)
  all_goals skip
theorem mvs_le {s s' p p' : Nat} (h1 : s ≤ 1) (h : s ≤ s') (hp : p ≤ p') : ∀ l : List S3, mvs s p l ≤ mvs s' p' l
  | [] => hp
  | x :: r => mv_le h1 h (mvs_le h1 h hp r) x
/-! ### a right round -/
def Rt (n : Nat) : Nat → List S3 → Prop
  | _, [] => True
  | lo, (a, c, m) :: r => lo ≤ a ∧ a + c ≤ n ∧ Rt n (max (a + 1) (a + c)) r
theorem Rt.lo {n lo lo' : Nat} {l : List S3} (h : Rt n lo l) (e : lo' ≤ lo) : Rt n lo' l := by
  cases l with
  | nil => trivial
  | cons x r =>
    obtain ⟨a, c, m⟩ := x
    exact ⟨by have := h.1; omega, h.2⟩
theorem Rt.drop {n : Nat} : ∀ {l : List S3} {lo : Nat}, Rt n lo l → ∀ i, Rt n lo (l.drop i)
  | [], lo, h, i => by rw [List.drop_nil]; trivial
  | x :: r, lo, h, 0 => h
  | (a, c, m) :: r, lo, h, i + 1 => by
    rw [List.drop_succ_cons]
    exact (h.2.2.lo (by have := h.1; omega)).drop i
theorem Rt.at {n lo i : Nat} {l : List S3} {a c m : Nat} (h : Rt n lo l) (hx : l[i]? = some (a, c, m)) : lo ≤ a ∧ a + c ≤ n ∧ Rt n (max (a + 1) (a + c)) (l.drop (i + 1)) := by
  have e : l.drop i = (a, c, m) :: l.drop (i + 1) := by
    have hi := (List.getElem?_eq_some_iff.mp hx).1
    rw [List.drop_eq_getElem_cons hi]
    have := (List.getElem?_eq_some_iff.mp hx).2
    rw [this]
  have z := h.drop i
  rw [e] at z
  exact z
/-- neighbours -/
theorem Rt.next {n lo i : Nat} {l : List S3} {a c m b d k : Nat} (h : Rt n lo l) (hx : l[i]? = some (a, c, m)) (hy : l[i + 1]? = some (b, d, k)) : a < b ∧ a + c ≤ b := by
  have z := (h.at hx).2.2
  have e : l.drop (i + 1) = (b, d, k) :: l.drop (i + 1 + 1) := by
    have hi := (List.getElem?_eq_some_iff.mp hy).1
    rw [List.drop_eq_getElem_cons hi]
    have := (List.getElem?_eq_some_iff.mp hy).2
    rw [this]
  rw [e] at z
  have := z.1
  omega
/-! ### far: the law's own reckoning -/
/-- all splices below k -/
def mvk (side p : Nat) (l : List S3) (k : Nat) : Nat := mvs side p (l.take k)
theorem mvk_succ {side p k : Nat} {l : List S3} {x : S3} (h : l[k]? = some x) : mvk side p l (k + 1) = mvk side (mv side p x) l k := by
  unfold mvk mvs
  rw [List.take_add_one, h, List.foldr_append]
  rfl
/-- where the k-th splice starts, behind the round -/
def stz (l : List S3) (k : Nat) : Int := ((l.take k).map fun s => (s.2.2 : Int) - s.2.1).sum
theorem stz_succ {k : Nat} {l : List S3} {x : S3} (h : l[k]? = some x) : stz l (k + 1) = stz l k + ((x.2.2 : Int) - x.2.1) := by
  unfold stz
  rw [List.take_add_one, h, List.map_append, List.sum_append]
  simp
section
variable {n side p k : Nat} {l : List S3}
/-- beyond the ends of all below k -/
theorem mvk_far (h : Rt n 0 l) : ∀ k p, (∀ a c m, 0 < k → l[k - 1]? = some (a, c, m) → a + c < p) → k ≤ l.length → ((mvk side p l k : Nat) : Int) = p + stz l k
  | 0, p, _, _ => by simp [mvk, mvs, stz]
  | k + 1, p, hp, hk => by
    obtain ⟨x, hx⟩ : ∃ x, l[k]? = some x := ⟨_, List.getElem?_eq_getElem hk⟩
    obtain ⟨a, c, m⟩ := x
    have h1 := hp a c m (Nat.succ_pos k) (by simpa using hx)
    rw [mvk_succ hx, stz_succ hx]
    have e : mv side p (a, c, m) = p - c + m := by
      unfold mv
      dsimp only
      rw [if_neg (by omega), if_pos h1]
    rw [e, mvk_far h k _ (fun a' c' m' hk' hx' => ?_) (by omega)]
    · dsimp only
      omega
    · have e2 : k - 1 + 1 = k := by omega
      have z := h.next (i := k - 1) hx' (by rw [e2]; exact hx)
      omega
/-- from the k-th splice's own place, side 0: the first of those that touch -/
def grp (l : List S3) : Nat → Nat
  | 0 => 0
  | k + 1 => match l[k]?, l[k + 1]? with
    | some (a, c, _), some (b, _, _) => if a + c = b then grp l k else k + 1
    | _, _ => k + 1
theorem grp_step {a c m b d q : Nat} (hx : l[k]? = some (a, c, m)) (hy : l[k + 1]? = some (b, d, q)) : grp l (k + 1) = if a + c = b then grp l k else k + 1 := by
  show (match l[k]?, l[k + 1]? with
    | some (a, c, _), some (b, _, _) => if a + c = b then grp l k else k + 1
    | _, _ => k + 1) = _
  rw [hx, hy]
theorem grp_le : ∀ k, grp l k ≤ k
  | 0 => Nat.le_refl _
  | k + 1 => by
    unfold grp
    split
    · split
      · exact Nat.le_succ_of_le (grp_le k)
      · exact Nat.le_refl _
    · exact Nat.le_refl _
theorem mvk_own (h : Rt n 0 l) : ∀ k a c m, l[k]? = some (a, c, m) → ∃ b d q, l[grp l k]? = some (b, d, q) ∧ ((mvk 0 a l k : Nat) : Int) = b + stz l (grp l k)
  | 0, a, c, m, hx => ⟨a, c, m, hx, by simp [mvk, mvs, stz, grp]⟩
  | k + 1, a, c, m, hx => by
    obtain ⟨y, hy⟩ : ∃ y, l[k]? = some y := ⟨_, List.getElem?_eq_getElem (by have := (List.getElem?_eq_some_iff.mp hx).1; omega)⟩
    obtain ⟨b, d, q⟩ := y
    have z := h.next hy hx
    rw [grp_step hy hx]
    by_cases t : b + d = a
    · rw [if_pos t]
      obtain ⟨b', d', q', h1, h2⟩ := mvk_own h k b d q hy
      refine ⟨b', d', q', h1, ?_⟩
      rw [mvk_succ hy]
      have e : mv 0 a (b, d, q) = b := by
        unfold mv
        dsimp only
        rw [if_neg (by omega), if_neg (by omega)]
        omega
      rw [e]
      exact h2
    · rw [if_neg t]
      refine ⟨a, c, m, hx, ?_⟩
      refine mvk_far h (k + 1) a (fun a' c' m' _ hx' => ?_) (by have := (List.getElem?_eq_some_iff.mp hx).1; omega)
      rw [Nat.add_sub_cancel, hy] at hx'
      cases hx'
      omega
/-- side 1: from behind what the k-th puts -/
theorem mvk_own1 (h : Rt n 0 l) : ∀ k a c m, l[k]? = some (a, c, m) → ((mvk 1 (a + m) l k : Nat) : Int) = a + m + stz l k
  | 0, a, c, m, hx => by simp [mvk, mvs, stz]
  | k + 1, a, c, m, hx => by
    obtain ⟨y, hy⟩ : ∃ y, l[k]? = some y := ⟨_, List.getElem?_eq_getElem (by have := (List.getElem?_eq_some_iff.mp hx).1; omega)⟩
    obtain ⟨b, d, q⟩ := y
    have z := h.next hy hx
    by_cases t : b + d < a + m
    · have w := mvk_far (side := 1) h (k + 1) (a + m) (fun a' c' m' _ hx' => by
        rw [Nat.add_sub_cancel, hy] at hx'
        cases hx'
        omega) (by have := (List.getElem?_eq_some_iff.mp hx).1; omega)
      rw [w]
      omega
    · rw [mvk_succ hy, stz_succ hy]
      have e : mv 1 (a + m) (b, d, q) = b + q := by
        unfold mv
        dsimp only
        rw [if_neg (by omega), if_neg (by omega)]
        omega
      rw [e, mvk_own1 h k b d q hy]
      dsimp only
      omega
end
end Mv
/-! rows of signs under splices: places of anchors -/
namespace Mv
open Tl
section
variable {L R : Nat → Sg} {sz : Nat → Nat} {n m : Nat} {s x : Sg}
theorem head_A (w : Wv L R sz n) : ∀ k, ∀ x : Sg, x.1 < k → Ok sz n x → x ≠ (0, 0) → A L R (0, 0) x := by
  intro k
  induction k with
  | zero => intro x h; omega
  | succ k ih =>
    intro x hk ox hx
    by_cases h : x.1 = 0
    · refine .same h.symm ?_
      by_cases h2 : x.2 = 0
      · exact absurd (Prod.ext h h2) hx
      · show 0 < x.2
        omega
    · have hl := w.l x.1 (by omega) ox.1
      refine (A.l_iff (show (0, 0).1 < x.1 by show 0 < x.1; omega)).mpr ?_
      by_cases e : L x.1 = (0, 0)
      · exact .inl e.symm
      · exact .inr (ih _ (by omega) (w.okL (by omega) ox.1) e)
theorem end_A (w : Wv L R sz n) : ∀ k, ∀ x : Sg, x.1 < k → Ok sz n x → x ≠ (0, 1) → A L R x (0, 1) := by
  intro k
  induction k with
  | zero => intro x h; omega
  | succ k ih =>
    intro x hk ox hx
    by_cases h : x.1 = 0
    · refine .same h ?_
      have h3 := ox.2
      rw [h, w.s0] at h3
      by_cases h2 : x.2 = 1
      · exact absurd (Prod.ext h h2) hx
      · show x.2 < 1
        omega
    · have hl := w.r x.1 (by omega) ox.1
      refine (A.r_iff (show (0, 1).1 < x.1 by show 0 < x.1; omega)).mpr ?_
      by_cases e : R x.1 = (0, 1)
      · exact .inl e
      · exact .inr (ih _ (by omega) (w.okR (by omega) ox.1) e)
theorem ok_head (w : Wv L R sz n) : Ok sz n (0, 0) := ⟨w.n0, by show 0 < sz 0; rw [w.s0]; decide⟩
theorem ok_end (w : Wv L R sz n) : Ok sz n (0, 1) := ⟨w.n0, by show 1 < sz 0; rw [w.s0]; decide⟩
theorem not_head (w : Wv L R sz n) (ox : Ok sz n x) (h : x ≠ (0, 0)) : ¬ E L R x (0, 0) := fun e => by
  rcases e with e | e
  · exact h e
  · exact A.irr (w.toBs.tr (ok_head w).1 ox.1 (ok_head w).1 (head_A w _ x (Nat.lt_succ_self _) ox h) e)
theorem not_end (w : Wv L R sz n) (ox : Ok sz n x) (h : x ≠ (0, 1)) : ¬ E L R (0, 1) x := fun e => by
  rcases e with e | e
  · exact h e.symm
  · exact A.irr (w.toBs.tr ox.1 (ok_end w).1 ox.1 (end_A w _ x (Nat.lt_succ_self _) ox h) e)
/-! ### rows -/
def lft (X : List Sg) : Sg := X.getLast?.getD (0, 0)
def rgt (Y : List Sg) : Sg := Y.head?.getD (0, 1)
def frs (n m : Nat) : List Sg := (List.range m).map fun k => (n, k)
structure Rws (L R : Nat → Sg) (sz : Nat → Nat) (n : Nat) (row : List Sg) : Prop where
  wv : Wv L R sz n
  srt : Srt L R row
  ok : ∀ u ∈ row, Ok sz n u ∧ 0 < u.1
variable {X C Y row : List Sg}
theorem Rws.cut (h : Rws L R sz n (X ++ C ++ Y)) : Rws L R sz n (X ++ Y) := by
  have sub : (X ++ Y).Sublist (X ++ C ++ Y) := by
    rw [List.append_assoc]
    exact List.Sublist.append (List.Sublist.refl X) (List.sublist_append_right C Y)
  exact ⟨h.wv, h.srt.sublist sub, fun u hu => h.ok u (sub.subset hu)⟩
theorem ne_head {u : Sg} (h : 0 < u.1) : u ≠ (0, 0) := fun e => by rw [e] at h; exact absurd h (by decide)
theorem ne_end {u : Sg} (h : 0 < u.1) : u ≠ (0, 1) := fun e => by rw [e] at h; exact absurd h (by decide)
theorem lft_ok (w : Wv L R sz n) (h : ∀ u ∈ X, Ok sz n u ∧ 0 < u.1) : Ok sz n (lft X) := by
  unfold lft
  cases e : X.getLast? with
  | none => exact ok_head w
  | some y => exact (h y (List.mem_of_getLast? e)).1
theorem rgt_ok (w : Wv L R sz n) (h : ∀ u ∈ X, Ok sz n u ∧ 0 < u.1) : Ok sz n (rgt X) := by
  unfold rgt
  cases e : X.head? with
  | none => exact ok_end w
  | some y => exact (h y (List.mem_of_head? e)).1
theorem Rws.lr (h : Rws L R sz n (X ++ Y)) : A L R (lft X) (rgt Y) := by
  have hx := lft_ok h.wv (X := X) fun u hu => h.ok u (List.mem_append_left _ hu)
  have hy := rgt_ok h.wv (X := Y) fun u hu => h.ok u (List.mem_append_right _ hu)
  unfold lft rgt at *
  cases ex : X.getLast? with
  | none =>
    refine head_A h.wv _ _ (Nat.lt_succ_self _) hy ?_
    cases ey : Y.head? with
    | none => decide
    | some y => exact ne_head (h.ok y (List.mem_append_right _ (List.mem_of_head? ey))).2
  | some x =>
    have mx := List.mem_of_getLast? ex
    cases ey : Y.head? with
    | none =>
      rw [ex] at hx
      exact end_A h.wv _ _ (Nat.lt_succ_self _) hx (ne_end (h.ok x (List.mem_append_left _ mx)).2)
    | some y => exact (List.pairwise_append.mp h.srt).2.2 x mx y (List.mem_of_head? ey)
/-- at or ahead of the last one -/
theorem le_lft (w : Wv L R sz n) (h : Srt L R X) (hx : x ∈ X) : E L R x (lft X) := by
  obtain ⟨l, y, rfl⟩ : ∃ l y, X = l ++ [y] := by
    have hne : X ≠ [] := fun z => by rw [z] at hx; cases hx
    exact ⟨_, _, (List.dropLast_concat_getLast hne).symm⟩
  have e : lft (l ++ [y]) = y := by simp [lft]
  rw [e]
  rcases List.mem_append.mp hx with h1 | h1
  · exact .inr ((List.pairwise_append.mp h).2.2 x h1 y (by simp))
  · exact .inl (by simpa using h1)
theorem rgt_le (w : Wv L R sz n) (h : Srt L R Y) (hx : x ∈ Y) : E L R (rgt Y) x := by
  cases Y with
  | nil => cases hx
  | cons y r =>
    have e : rgt (y :: r) = y := by simp [rgt]
    rw [e]
    rcases List.mem_cons.mp hx with h1 | h1
    · exact .inl h1.symm
    · exact .inr ((List.pairwise_cons.mp h).1 x h1)
theorem wideA {l r : Sg} (w : Wv L R sz n) {x y : Sg} (hx : x.1 < n) (hy : y.1 < n) : A (upn L n l) (upn R n r) x y ↔ A L R x y :=
  (A.wide w (fun c hc => (upn_ne hc).symm) (fun c hc => (upn_ne hc).symm) hx hy).symm
theorem wideE {l r : Sg} (w : Wv L R sz n) {x y : Sg} (hx : x.1 < n) (hy : y.1 < n) : E (upn L n l) (upn R n r) x y ↔ E L R x y := or_congr Iff.rfl (wideA w hx hy)
theorem fresh_ahead {l r : Sg} (w : Wv L R sz n) (hr : r.1 < n) (hx : x.1 < n) (i : Nat) : E (upn L n l) (upn R n r) (n, i) x ↔ E L R r x := by
  have hne : (n, i) ≠ x := fun e => by rw [← e] at hx; exact absurd hx (Nat.lt_irrefl n)
  have e1 : E (upn L n l) (upn R n r) (n, i) x ↔ A (upn L n l) (upn R n r) (n, i) x := ⟨fun e => e.resolve_left hne, .inr⟩
  rw [e1, A.r_iff (show x.1 < (n, i).1 from hx)]
  show E _ _ (upn R n r n) x ↔ _
  rw [upd_at]
  exact wideE w hr hx
theorem ahead_fresh {l r : Sg} (w : Wv L R sz n) (hl : l.1 < n) (hx : x.1 < n) (i : Nat) : E (upn L n l) (upn R n r) x (n, i) ↔ E L R x l := by
  have hne : x ≠ (n, i) := fun e => by rw [e] at hx; exact absurd hx (Nat.lt_irrefl n)
  have e1 : E (upn L n l) (upn R n r) x (n, i) ↔ A (upn L n l) (upn R n r) x (n, i) := ⟨fun e => e.resolve_left hne, .inr⟩
  rw [e1, A.l_iff (show x.1 < (n, i).1 from hx)]
  show E _ _ x (upn L n l n) ↔ _
  rw [upd_at]
  exact wideE w hx hl
theorem Rws.born (h : Rws L R sz n (X ++ C ++ Y)) (h0 : 0 < m) : Rws (upn L n (lft X)) (upn R n (rgt Y)) (upn sz n m) (n + 1) (X ++ frs n m ++ Y) := by
  have g := h.cut
  have hx : ∀ u ∈ X, Ok sz n u ∧ 0 < u.1 := fun u hu => g.ok u (List.mem_append_left _ hu)
  have hy : ∀ u ∈ Y, Ok sz n u ∧ 0 < u.1 := fun u hu => g.ok u (List.mem_append_right _ hu)
  have ol := lft_ok g.wv hx
  have or_ := rgt_ok g.wv hy
  obtain ⟨sx, sy, sxy⟩ := List.pairwise_append.mp g.srt
  have w := g.wv
  refine ⟨w.step ol or_ g.lr h0, ?_, fun u hu => ?_⟩
  · unfold Srt
    rw [List.append_assoc, List.pairwise_append, List.pairwise_append]
    refine ⟨sx.imp_of_mem fun ha hb z => (wideA w (hx _ ha).1.1 (hx _ hb).1.1).mpr z, ⟨?_, sy.imp_of_mem fun ha hb z => (wideA w (hy _ ha).1.1 (hy _ hb).1.1).mpr z, fun a ha b hb => ?_⟩, fun a ha b hb => ?_⟩
    · unfold frs
      rw [List.pairwise_map]
      exact List.pairwise_lt_range.imp fun z => .same rfl z
    · obtain ⟨i, hi, rfl⟩ := List.mem_map.mp ha
      have z := (fresh_ahead (l := lft X) (r := rgt Y) w or_.1 (hy b hb).1.1 i).mpr (rgt_le w sy hb)
      exact z.resolve_left fun e => by have q := (hy b hb).1.1; rw [← e] at q; exact absurd q (Nat.lt_irrefl n)
    · rcases List.mem_append.mp hb with hb | hb
      · obtain ⟨i, hi, rfl⟩ := List.mem_map.mp hb
        have z := (ahead_fresh (l := lft X) (r := rgt Y) w ol.1 (hx a ha).1.1 i).mpr (le_lft w sx ha)
        exact z.resolve_left fun e => by have q := (hx a ha).1.1; rw [e] at q; exact absurd q (Nat.lt_irrefl n)
      · exact (wideA w (hx a ha).1.1 (hy b hb).1.1).mpr (sxy a ha b hb)
  · have up : ∀ {u : Sg}, Ok sz n u ∧ 0 < u.1 → Ok (upn sz n m) (n + 1) u ∧ 0 < u.1 := fun {u} z => ⟨⟨Nat.lt_succ_of_lt z.1.1, by rw [upn_ne z.1.1]; exact z.1.2⟩, z.2⟩
    rcases List.mem_append.mp hu with hu | hu
    · rcases List.mem_append.mp hu with hu | hu
      · exact up (hx u hu)
      · obtain ⟨i, hi, rfl⟩ := List.mem_map.mp hu
        exact ⟨⟨Nat.lt_succ_self n, by show i < upn sz n m n; rw [upd_at]; exact List.mem_range.mp hi⟩, w.n0⟩
    · exact up (hy u hu)
end
/-! ### counting -/
def cnt {α : Type} (f : α → Bool) (l : List α) : Nat := (l.filter f).length
section
variable {α : Type} {f : α → Bool} {l X C Y : List α}
theorem cnt_le : cnt f l ≤ l.length := List.length_filter_le ..
theorem cnt_app : cnt f (X ++ Y) = cnt f X + cnt f Y := by unfold cnt; rw [List.filter_append, List.length_append]
theorem cnt_all (h : ∀ x ∈ l, f x = true) : cnt f l = l.length := by unfold cnt; rw [List.filter_eq_self.mpr h]
theorem cnt_none (h : ∀ x ∈ l, f x = false) : cnt f l = 0 := by
  unfold cnt
  rw [List.length_eq_zero_iff, List.filter_eq_nil_iff]
  exact fun x hx e => by rw [h x hx] at e; cases e
theorem cnt_lt (h : cnt f l < l.length) : ∃ x ∈ l, f x = false := by
  refine Classical.byContradiction fun c => ?_
  have := cnt_all (f := f) (l := l) fun x hx => by
    cases e : f x with
    | true => rfl
    | false => exact absurd ⟨x, hx, e⟩ c
  omega
theorem cnt_pos (h : 0 < cnt f l) : ∃ x ∈ l, f x = true := by
  refine Classical.byContradiction fun c => ?_
  have := cnt_none (f := f) (l := l) fun x hx => by
    cases e : f x with
    | true => exact absurd ⟨x, hx, e⟩ c
    | false => rfl
  omega
def Dn (f : α → Bool) (l : List α) : Prop := l.Pairwise fun a b => f b = true → f a = true
theorem down0 {m : Nat} {g : Bool} (h : Dn f (X ++ C ++ Y)) (hg : g = true ↔ ∃ y, Y.head? = some y ∧ f y = true) :
    cnt f X + (if g then m else 0) + cnt f Y = mv 0 (cnt f (X ++ C ++ Y)) (X.length, C.length, m) := by
  obtain ⟨h1, hY, h3⟩ := List.pairwise_append.mp h
  obtain ⟨hX, hC, h2⟩ := List.pairwise_append.mp h1
  rw [cnt_app, cnt_app]
  have lx : cnt f X ≤ X.length := cnt_le
  have lc : cnt f C ≤ C.length := cnt_le
  cases g with
  | true =>
    obtain ⟨y, hy, fy⟩ := hg.mp rfl
    have my := List.mem_of_head? hy
    have ex : cnt f X = X.length := cnt_all fun x hx => h3 x (List.mem_append_left _ hx) y my fy
    have ec : cnt f C = C.length := cnt_all fun x hx => h3 x (List.mem_append_right _ hx) y my fy
    have py : 0 < cnt f Y := List.length_pos_of_mem (List.mem_filter.mpr ⟨my, fy⟩)
    show _ + m + _ = _
    unfold mv
    dsimp only
    rw [if_neg (by omega), if_pos (by omega)]
    omega
  | false =>
    have ey : cnt f Y = 0 := by
      cases Y with
      | nil => rfl
      | cons y r =>
        have fy : f y = false := by
          cases e : f y with
          | false => rfl
          | true => exact absurd (hg.mpr ⟨y, rfl, e⟩) (by decide)
        refine cnt_none fun z hz => ?_
        rcases List.mem_cons.mp hz with rfl | hz
        · exact fy
        · cases e : f z with
          | false => rfl
          | true =>
            have q := (List.pairwise_cons.mp hY).1 z hz e
            rw [fy] at q
            cases q
    show _ + 0 + _ = _
    unfold mv
    dsimp only
    by_cases c : cnt f X < X.length
    · obtain ⟨x, hx, fx⟩ := cnt_lt c
      have ec : cnt f C = 0 := cnt_none fun z hz => by
        cases e : f z with
        | false => rfl
        | true =>
          have q := h2 x hx z hz e
          rw [fx] at q
          cases q
      rw [if_pos (by omega)]
      omega
    · rw [if_neg (by omega), if_neg (by omega)]
      omega
theorem down1 {m : Nat} {g : Bool} (h : Dn f (X ++ C ++ Y)) (hg : g = true ↔ ∀ x, X.getLast? = some x → f x = true) :
    cnt f X + (if g then m else 0) + cnt f Y = mv 1 (cnt f (X ++ C ++ Y)) (X.length, C.length, m) := by
  obtain ⟨h1, hY, h3⟩ := List.pairwise_append.mp h
  obtain ⟨hX, hC, h2⟩ := List.pairwise_append.mp h1
  rw [cnt_app, cnt_app]
  have lx : cnt f X ≤ X.length := cnt_le
  have lc : cnt f C ≤ C.length := cnt_le
  have none_of : ∀ {Z : List α} {x : α}, f x = false → (∀ z ∈ Z, f z = true → f x = true) → cnt f Z = 0 := fun {Z x} fx hz => cnt_none fun z hm => by
    cases e : f z with
    | false => rfl
    | true =>
      have q := hz z hm e
      rw [fx] at q
      cases q
  unfold mv
  dsimp only
  cases g with
  | true =>
    show _ + m + _ = _
    have ex : cnt f X = X.length := by
      cases e : X.getLast? with
      | none => rw [List.getLast?_eq_none_iff.mp e]; rfl
      | some y =>
        have fy := hg.mp rfl y e
        obtain ⟨l, rfl⟩ : ∃ l, X = l ++ [y] := by
          have hne : X ≠ [] := fun z => by rw [z] at e; cases e
          refine ⟨X.dropLast, ?_⟩
          have q := List.getLast?_eq_some_getLast hne
          rw [q] at e
          rw [← Option.some.inj e]
          exact (List.dropLast_concat_getLast hne).symm
        refine cnt_all fun x hx => ?_
        rcases List.mem_append.mp hx with hx | hx
        · exact (List.pairwise_append.mp hX).2.2 x hx y (by simp) fy
        · rw [List.mem_singleton.mp hx]; exact fy
    by_cases c : cnt f C < C.length
    · obtain ⟨x, hx, fx⟩ := cnt_lt c
      have ey := none_of (Z := Y) fx fun z hz => h3 x (List.mem_append_right _ hx) z hz
      rw [if_neg (by omega), if_neg (by omega)]
      omega
    · by_cases d : 0 < cnt f Y
      · rw [if_neg (by omega), if_pos (by omega)]
        omega
      · rw [if_neg (by omega), if_neg (by omega)]
        omega
  | false =>
    show _ + 0 + _ = _
    obtain ⟨x, hx, fx⟩ : ∃ x, X.getLast? = some x ∧ f x = false := by
      refine Classical.byContradiction fun c => ?_
      have : false = true := hg.mpr fun x hx => by
        cases e : f x with
        | true => rfl
        | false => exact absurd ⟨x, hx, e⟩ c
      cases this
    have mx := List.mem_of_getLast? hx
    have ec := none_of (Z := C) fx fun z hz => h2 x mx z hz
    have ey := none_of (Z := Y) fx fun z hz => h3 x (List.mem_append_left _ mx) z hz
    have lt : cnt f X < X.length := by
      refine Nat.lt_of_le_of_ne lx fun e => ?_
      have all := List.filter_eq_self.mp (List.filter_sublist.eq_of_length (l₁ := X.filter f) e)
      have q := all x mx
      rw [fx] at q
      cases q
    rw [if_pos (by omega)]
    omega
end
/-! ### places -/
open Classical in
/-- what counts for a sign's place -/
noncomputable def fsd (L R : Nat → Sg) (s : Sg) (side : Nat) (x : Sg) : Bool := if side = 0 then decide (E L R x s) else !decide (E L R s x)
noncomputable def plc (L R : Nat → Sg) (row : List Sg) (s : Sg) (side : Nat) : Nat := cnt (fsd L R s side) row
section
variable {L R : Nat → Sg} {sz : Nat → Nat} {n m side : Nat} {s : Sg} {X C Y row : List Sg}
open Classical in
theorem dn_row (h : Rws L R sz n row) (os : Ok sz n s) : Dn (fsd L R s side) row := by
  refine h.srt.imp_of_mem fun {a b} ha hb z => ?_
  have oa := (h.ok a ha).1
  have ob := (h.ok b hb).1
  unfold fsd
  by_cases c : side = 0
  · rw [if_pos c, if_pos c, decide_eq_true_iff, decide_eq_true_iff]
    exact fun e => h.wv.toBs.etr oa.1 ob.1 os.1 (.inr z) e
  · rw [if_neg c, if_neg c, Bool.not_eq_true', Bool.not_eq_true', decide_eq_false_iff_not, decide_eq_false_iff_not]
    exact fun e q => e (h.wv.toBs.etr os.1 oa.1 ob.1 q (.inr z))
theorem cnt_congr {α : Type} {f g : α → Bool} {l : List α} (h : ∀ x ∈ l, f x = g x) : cnt f l = cnt g l := by
  unfold cnt
  rw [List.filter_congr h]
/-- a sign that can be asked with a side -/
def Ask (s : Sg) (side : Nat) : Prop := (side = 0 ∧ s ≠ (0, 1)) ∨ (side = 1 ∧ s ≠ (0, 0))
open Classical in
theorem lead (h : Rws L R sz n (X ++ C ++ Y)) (os : Ok sz n s) (ask : Ask s side) (h0 : 0 < m) :
    plc (upn L n (lft X)) (upn R n (rgt Y)) (X ++ frs n m ++ Y) s side = mv side (plc L R (X ++ C ++ Y) s side) (X.length, C.length, m) := by
  have g := h.cut
  have hx : ∀ u ∈ X, Ok sz n u ∧ 0 < u.1 := fun u hu => g.ok u (List.mem_append_left _ hu)
  have hy : ∀ u ∈ Y, Ok sz n u ∧ 0 < u.1 := fun u hu => g.ok u (List.mem_append_right _ hu)
  have ol := lft_ok g.wv hx
  have or_ := rgt_ok g.wv hy
  have w := h.wv
  have old : ∀ u : Sg, u.1 < n → fsd (upn L n (lft X)) (upn R n (rgt Y)) s side u = fsd L R s side u := fun u hu => by
    unfold fsd
    split
    · exact decide_eq_decide.mpr (wideE w hu os.1)
    · rw [decide_eq_decide.mpr (wideE w os.1 hu)]
  have dn := dn_row (side := side) h os
  unfold plc
  rw [cnt_app, cnt_app, cnt_congr (fun u hu => old u (hx u hu).1.1), cnt_congr (l := Y) (fun u hu => old u (hy u hu).1.1)]
  rcases ask with ⟨rfl, hs⟩ | ⟨rfl, hs⟩
  · have hf : ∀ u ∈ frs n m, fsd (upn L n (lft X)) (upn R n (rgt Y)) s 0 u = fsd L R s 0 (rgt Y) := fun u hu => by
      obtain ⟨i, hi, rfl⟩ := List.mem_map.mp hu
      unfold fsd
      rw [if_pos rfl, if_pos rfl]
      exact decide_eq_decide.mpr (fresh_ahead w or_.1 os.1 i)
    have cf : cnt (fsd (upn L n (lft X)) (upn R n (rgt Y)) s 0) (frs n m) = if fsd L R s 0 (rgt Y) = true then m else 0 := by
      split
      · rename_i q
        rw [cnt_all fun u hu => (hf u hu).trans q]
        simp [frs]
      · rename_i q
        rw [cnt_none fun u hu => (hf u hu).trans (by simpa using q)]
    rw [cf]
    refine down0 dn ?_
    unfold rgt
    cases e : Y.head? with
    | none =>
      have q : fsd L R s 0 (0, 1) = false := by
        unfold fsd
        rw [if_pos rfl, decide_eq_false_iff_not]
        exact not_end w os hs
      simp [q]
    | some y => simp
  · have hf : ∀ u ∈ frs n m, fsd (upn L n (lft X)) (upn R n (rgt Y)) s 1 u = fsd L R s 1 (lft X) := fun u hu => by
      obtain ⟨i, hi, rfl⟩ := List.mem_map.mp hu
      unfold fsd
      rw [if_neg (by decide), if_neg (by decide), decide_eq_decide.mpr (ahead_fresh w ol.1 os.1 i)]
    have cf : cnt (fsd (upn L n (lft X)) (upn R n (rgt Y)) s 1) (frs n m) = if fsd L R s 1 (lft X) = true then m else 0 := by
      split
      · rename_i q
        rw [cnt_all fun u hu => (hf u hu).trans q]
        simp [frs]
      · rename_i q
        rw [cnt_none fun u hu => (hf u hu).trans (by simpa using q)]
    rw [cf]
    refine down1 dn ?_
    unfold lft
    cases e : X.getLast? with
    | none =>
      have q : fsd L R s 1 (0, 0) = true := by
        unfold fsd
        rw [if_neg (by decide), Bool.not_eq_true', decide_eq_false_iff_not]
        exact not_head w os hs
      simp [q]
    | some y => simp
open Classical in
theorem lead0 (h : Rws L R sz n (X ++ C ++ Y)) (os : Ok sz n s) (ask : Ask s side) :
    plc L R (X ++ Y) s side = mv side (plc L R (X ++ C ++ Y) s side) (X.length, C.length, 0) := by
  have dn := dn_row (side := side) h os
  unfold plc
  rcases ask with ⟨rfl, hs⟩ | ⟨rfl, hs⟩
  · rw [← down0 (m := 0) (g := decide (∃ y, Y.head? = some y ∧ fsd L R s 0 y = true)) dn decide_eq_true_iff, cnt_app]
    split <;> omega
  · rw [← down1 (m := 0) (g := decide (∀ x, X.getLast? = some x → fsd L R s 1 x = true)) dn decide_eq_true_iff, cnt_app]
    split <;> omega
theorem plc_le : plc L R row s side ≤ row.length := cnt_le
end
end Mv
namespace K16
open PySem PySem.Spec PyProof.Rows L2 Dk
/-- one step of a reading -/
local macro_rules | `(tactic| walk_at "rd1") => `(tactic| first
  | ((with_reducible refine r_var (v := ?rv) ?rh ?_); (case rh => rfl))
  | with_reducible refine r_c ?_
  | with_reducible refine r_seq ?_
  | with_reducible refine r_asg ?_
  | with_reducible refine r_gname ?_
  | with_reducible refine r_op ?_
  | with_reducible refine r_xfo ?_
  | with_reducible refine r_noP ?_
  | with_reducible refine r_part ?_
  | with_reducible refine r_pI ?_
  | with_reducible refine r_gcons ?_
  | with_reducible refine r_gnil ?_
  | with_reducible refine r_mkO ?_
  | with_reducible refine r_un ?_
  | with_reducible refine r_addI ?_
  | with_reducible refine r_I0 ?_
  | with_reducible refine r_U ?_
  | with_reducible refine r_cons ?_
  | with_reducible refine r_nil ?_
  | with_reducible refine r_CB ?_
  | with_reducible refine r_call ?_
  | with_reducible refine r_callS ?_
  | with_reducible refine r_int ?_
  | with_reducible refine r_max ?_
  | with_reducible refine r_min ?_
  | with_reducible refine r_test ?_
  | with_reducible refine r_B ?_
  | with_reducible refine r_blv ?_
  | with_reducible refine r_and ?_
  | with_reducible refine r_or ?_
  | with_reducible refine r_not ?_
  | with_reducible refine r_andV ?_
  | with_reducible refine r_orV ?_
  | with_reducible refine r_notV ?_
  | with_reducible refine r_ifE ?_
  | with_reducible refine r_ifS ?_
  | with_reducible refine r_ret ?_
  | with_reducible refine r_retN ?_
  | with_reducible refine r_drop ?_
  | with_reducible refine r_next ?_
  | with_reducible refine r_sl ?_
  | with_reducible refine r_gsub ?_
  | with_reducible refine r_bm ?_
  | with_reducible refine r_tup ?_
  | with_reducible refine r_lst ?_
  | with_reducible refine r_isN ?_
  | with_reducible refine r_notN ?_
  | with_reducible refine r_itt ?_
  | with_reducible refine r_iff ?_
  | with_reducible refine r_ittN ?_
  | with_reducible refine r_iffN ?_
  | ((with_reducible refine r_ittD ?rh ?_); (case rh => rfl))
  | ((with_reducible refine r_iffD ?rh ?_); (case rh => rfl))
  | ((with_reducible refine r_modP ?rh ?_); (case rh => decide))
  | ((with_reducible refine r_eq ?rh ?_); (case rh => rfl))
  | ((with_reducible refine r_ne ?rh ?_); (case rh => rfl)))
local macro_rules | `(tactic| walk_at "rd") => `(tactic| repeat walk_at "rd1")
local macro_rules | `(tactic| walk_at "isi") => `(tactic| first | refine r_isi (b := true) (by assumption) (by decide +kernel) ?_ | refine r_isi (b := false) (by assumption) (by decide +kernel) ?_)
local macro_rules | `(tactic| walk_at "rs1") => `(tactic| first
  | with_reducible refine r_seq ?_
  | with_reducible refine r_asg ?_
  | with_reducible refine r_gname ?_
  | with_reducible refine r_ret ?_)
local macro_rules | `(tactic| walk_at "rs") => `(tactic| repeat walk_at "rs1")

def topS (i : Nat) : Stmt := PySem.Challenge.pw_deedstand_k16_whole_places_led.main.body.getD i (.Pass ⟨0, 0, 0, 0⟩)
abbrev s_first_strange : Stmt := topS 6
abbrev N_first_strange : List Str := ["text", "at", "sign"]
theorem sc_first_strange : FnScope ["text", "at", "sign"] ["text"] (defScope s_first_strange) := ⟨rfl, rfl, rfl, by decide +kernel, rfl, by decide +kernel, by decide +kernel⟩
abbrev s_is_text : Stmt := topS 7
abbrev N_is_text : List Str := ["thing"]
theorem sc_is_text : FnScope ["thing"] ["thing"] (defScope s_is_text) := ⟨rfl, rfl, rfl, by decide +kernel, rfl, by decide +kernel, by decide +kernel⟩
abbrev s_is_number : Stmt := topS 9
abbrev N_is_number : List Str := ["thing"]
theorem sc_is_number : FnScope ["thing"] ["thing"] (defScope s_is_number) := ⟨rfl, rfl, rfl, by decide +kernel, rfl, by decide +kernel, by decide +kernel⟩
abbrev s_is_splice : Stmt := topS 11
abbrev N_is_splice : List Str := ["thing", "at", "cut", "text"]
theorem sc_is_splice : FnScope ["thing", "at", "cut", "text"] ["thing"] (defScope s_is_splice) := ⟨rfl, rfl, rfl, by decide +kernel, rfl, by decide +kernel, by decide +kernel⟩
abbrev s_follows : Stmt := topS 12
abbrev N_follows : List Str := ["before", "splice"]
theorem sc_follows : FnScope ["before", "splice"] ["before", "splice"] (defScope s_follows) := ⟨rfl, rfl, rfl, by decide +kernel, rfl, by decide +kernel, by decide +kernel⟩
abbrev s_check_round : Stmt := topS 13
abbrev N_check_round : List Str := ["size", "splices", "k", "splice"]
theorem sc_check_round : FnScope ["size", "splices", "k", "splice"] ["size", "splices"] (defScope s_check_round) := ⟨rfl, rfl, rfl, by decide +kernel, rfl, by decide +kernel, by decide +kernel⟩
abbrev s_spliced : Stmt := topS 14
abbrev N_spliced : List Str := ["text", "splices", "parts", "done", "at", "cut", "put"]
theorem sc_spliced : FnScope ["text", "splices", "parts", "done", "at", "cut", "put"] ["text", "splices"] (defScope s_spliced) := ⟨rfl, rfl, rfl, by decide +kernel, rfl, by decide +kernel, by decide +kernel⟩
abbrev s_moved_by : Stmt := topS 15
abbrev N_moved_by : List Str := ["place", "side", "splice", "at", "cut", "put"]
theorem sc_moved_by : FnScope ["place", "side", "splice", "at", "cut", "put"] ["place", "side", "splice"] (defScope s_moved_by) := ⟨rfl, rfl, rfl, by decide +kernel, rfl, by decide +kernel, by decide +kernel⟩
abbrev s_moved_place : Stmt := topS 16
abbrev N_moved_place : List Str := ["place", "side", "splices", "splice"]
theorem sc_moved_place : FnScope ["place", "side", "splices", "splice"] ["place", "side", "splices"] (defScope s_moved_place) := ⟨rfl, rfl, rfl, by decide +kernel, rfl, by decide +kernel, by decide +kernel⟩
abbrev s_led_past : Stmt := topS 17
abbrev N_led_past : List Str := ["first", "second", "at", "cut", "put", "then_at", "then_cut", "then_put"]
theorem sc_led_past : FnScope ["first", "second", "at", "cut", "put", "then_at", "then_cut", "then_put"] ["first", "second"] (defScope s_led_past) := ⟨rfl, rfl, rfl, by decide +kernel, rfl, by decide +kernel, by decide +kernel⟩
abbrev s_law_start : Stmt := topS 19
abbrev N_law_start : List Str := ["_law_script", "_law_mix", "_law_cell"]
theorem sc_law_start : FnScope ["_law_script", "_law_mix", "_law_cell"] ["_law_script"] (defScope s_law_start) := ⟨rfl, rfl, rfl, by decide +kernel, rfl, by decide +kernel, by decide +kernel⟩
abbrev s_law_draw : Stmt := topS 20
abbrev N_law_draw : List Str := ["_law_state", "_law_many"]
theorem sc_law_draw : FnScope ["_law_state", "_law_many"] ["_law_state", "_law_many"] (defScope s_law_draw) := ⟨rfl, rfl, rfl, by decide +kernel, rfl, by decide +kernel, by decide +kernel⟩
abbrev s_law_word : Stmt := topS 21
abbrev N_law_word : List Str := ["_law_state", "_law_size", "_law_signs", "_law_k"]
theorem sc_law_word : FnScope ["_law_state", "_law_size", "_law_signs", "_law_k"] ["_law_state", "_law_size"] (defScope s_law_word) := ⟨rfl, rfl, rfl, by decide +kernel, rfl, by decide +kernel, by decide +kernel⟩
abbrev s_law_round : Stmt := topS 22
abbrev N_law_round : List Str := ["_law_state", "_law_size", "_law_most", "_law_gap", "_law_made", "_law_at", "_law_cut", "_law_put"]
theorem sc_law_round : FnScope ["_law_state", "_law_size", "_law_most", "_law_gap", "_law_made", "_law_at", "_law_cut", "_law_put"] ["_law_state", "_law_size", "_law_most", "_law_gap"] (defScope s_law_round) := ⟨rfl, rfl, rfl, by decide +kernel, rfl, by decide +kernel, by decide +kernel⟩
abbrev s_law_ahead : Stmt := topS 23
abbrev N_law_ahead : List Str := ["_law_births", "_law_one", "_law_other", "_law_left", "_law_right"]
theorem sc_law_ahead : FnScope ["_law_births", "_law_one", "_law_other", "_law_left", "_law_right"] ["_law_births", "_law_one", "_law_other"] (defScope s_law_ahead) := ⟨rfl, rfl, rfl, by decide +kernel, rfl, by decide +kernel, by decide +kernel⟩
abbrev s_law_place : Stmt := topS 24
abbrev N_law_place : List Str := ["_law_births", "_law_row", "_law_sign", "_law_side", "_law_x"]
theorem sc_law_place : FnScope ["_law_births", "_law_row", "_law_sign", "_law_side", "_law_x"] ["_law_births", "_law_row", "_law_sign", "_law_side"] (defScope s_law_place) := ⟨rfl, rfl, rfl, by decide +kernel, rfl, by decide +kernel, by decide +kernel⟩
abbrev s_law_born : Stmt := topS 25
abbrev N_law_born : List Str := ["_law_births", "_law_row", "_law_splice", "_law_at", "_law_cut", "_law_put", "_law_ahead_here", "_law_behind", "_law_fresh", "_law_left", "_law_right", "_law_k"]
theorem sc_law_born : FnScope ["_law_births", "_law_row", "_law_splice", "_law_at", "_law_cut", "_law_put", "_law_ahead_here", "_law_behind", "_law_fresh", "_law_left", "_law_right", "_law_k"] ["_law_births", "_law_row", "_law_splice"] (defScope s_law_born) := ⟨rfl, rfl, rfl, by decide +kernel, rfl, by decide +kernel, by decide +kernel⟩
abbrev s_law_is : Stmt := topS 26
abbrev N_law_is : List Str := ["_law_due", "_law_told"]
theorem sc_law_is : FnScope ["_law_due", "_law_told"] ["_law_due", "_law_told"] (defScope s_law_is) := ⟨rfl, rfl, rfl, by decide +kernel, rfl, by decide +kernel, by decide +kernel⟩
abbrev s_law_anchors : Stmt := topS 27
abbrev N_law_anchors : List Str := ["_law_signs", "_law_made", "_law_sign"]
theorem sc_law_anchors : FnScope ["_law_signs", "_law_made", "_law_sign"] ["_law_signs"] (defScope s_law_anchors) := ⟨rfl, rfl, rfl, by decide +kernel, rfl, by decide +kernel, by decide +kernel⟩
abbrev s_law_rises : Stmt := topS 28
abbrev N_law_rises : List Str := ["_law_size", "_law_row", "_law_below", "_law_place_here", "_law_now"]
theorem sc_law_rises : FnScope ["_law_size", "_law_row", "_law_below", "_law_place_here", "_law_now"] ["_law_size", "_law_row"] (defScope s_law_rises) := ⟨rfl, rfl, rfl, by decide +kernel, rfl, by decide +kernel, by decide +kernel⟩
abbrev s_law_whole : Stmt := topS 29
abbrev N_law_whole : List Str := ["_law_state", "_law_births", "_law_signs", "_law_row", "_law_size", "_law_lap", "_law_splices", "_law_anchors_here", "_law_ahead_here", "_law_k", "_law_many", "_law_splice", "_law_due", "_law_a", "_law_j"]
theorem sc_law_whole : FnScope ["_law_state", "_law_births", "_law_signs", "_law_row", "_law_size", "_law_lap", "_law_splices", "_law_anchors_here", "_law_ahead_here", "_law_k", "_law_many", "_law_splice", "_law_due", "_law_a", "_law_j"] ["_law_state"] (defScope s_law_whole) := ⟨rfl, rfl, rfl, by decide +kernel, rfl, by decide +kernel, by decide +kernel⟩
abbrev s_law_far : Stmt := topS 30
abbrev N_law_far : List Str := ["_law_state", "_law_size", "_law_splices", "_law_starts", "_law_shift", "_law_splice", "_law_lap", "_law_j", "_law_place_here", "_law_low", "_law_high", "_law_k", "_law_at", "_law_cut", "_law_put", "_law_m"]
theorem sc_law_far : FnScope ["_law_state", "_law_size", "_law_splices", "_law_starts", "_law_shift", "_law_splice", "_law_lap", "_law_j", "_law_place_here", "_law_low", "_law_high", "_law_k", "_law_at", "_law_cut", "_law_put", "_law_m"] ["_law_state"] (defScope s_law_far) := ⟨rfl, rfl, rfl, by decide +kernel, rfl, by decide +kernel, by decide +kernel⟩
abbrev s_law_same : Stmt := topS 31
abbrev N_law_same : List Str := ["_law_due", "_law_told", "_law_k"]
theorem sc_law_same : FnScope ["_law_due", "_law_told", "_law_k"] ["_law_due", "_law_told"] (defScope s_law_same) := ⟨rfl, rfl, rfl, by decide +kernel, rfl, by decide +kernel, by decide +kernel⟩
abbrev s_law_led : Stmt := topS 32
abbrev N_law_led : List Str := ["_law_size", "_law_first", "_law_second", "_law_row", "_law_zone", "_law_behind", "_law_fresh", "_law_at", "_law_other", "_law_back", "_law_k"]
theorem sc_law_led : FnScope ["_law_size", "_law_first", "_law_second", "_law_row", "_law_zone", "_law_behind", "_law_fresh", "_law_at", "_law_other", "_law_back", "_law_k"] ["_law_size", "_law_first", "_law_second"] (defScope s_law_led) := ⟨rfl, rfl, rfl, by decide +kernel, rfl, by decide +kernel, by decide +kernel⟩
abbrev s_law_pair : Stmt := topS 33
abbrev N_law_pair : List Str := ["_law_state", "_law_lead", "_law_size", "_law_text", "_law_at", "_law_cut", "_law_first", "_law_behind", "_law_put", "_law_ends", "_law_place_here", "_law_second", "_law_told", "_law_plain"]
theorem sc_law_pair : FnScope ["_law_state", "_law_lead", "_law_size", "_law_text", "_law_at", "_law_cut", "_law_first", "_law_behind", "_law_put", "_law_ends", "_law_place_here", "_law_second", "_law_told", "_law_plain"] ["_law_state"] (defScope s_law_pair) := ⟨rfl, rfl, rfl, by decide +kernel, rfl, by decide +kernel, by decide +kernel⟩
abbrev s_law : Stmt := topS 34
abbrev N_law : List Str := ["_law_script", "_law_state", "_law_lap"]
theorem sc_law : FnScope ["_law_script", "_law_state", "_law_lap"] ["_law_script"] (defScope s_law) := ⟨rfl, rfl, rfl, by decide +kernel, rfl, by decide +kernel, by decide +kernel⟩
abbrev s_init_BadSplice : Stmt := inClass (topS 3) 0
theorem sc_init_BadSplice : FnScope ["self", "at"] ["self", "at"] (defScope s_init_BadSplice) := ⟨rfl, rfl, rfl, by decide +kernel, rfl, by decide +kernel, by decide +kernel⟩
structure Txt (K : PySem.W.Frag) (mg : Str → Option Value) where
  a_first_strange : Addr
  d_first_strange : FuncData
  F_first_strange : Fun K "first_strange" "first_strange" s_first_strange a_first_strange d_first_strange
  b_first_strange : Binds K d_first_strange ["text"] []
  g_first_strange : mg "first_strange" = some (.ref a_first_strange)
  a_is_text : Addr
  d_is_text : FuncData
  F_is_text : Fun K "is_text" "is_text" s_is_text a_is_text d_is_text
  b_is_text : Binds K d_is_text ["thing"] []
  g_is_text : mg "is_text" = some (.ref a_is_text)
  a_is_number : Addr
  d_is_number : FuncData
  F_is_number : Fun K "is_number" "is_number" s_is_number a_is_number d_is_number
  b_is_number : Binds K d_is_number ["thing"] []
  g_is_number : mg "is_number" = some (.ref a_is_number)
  a_is_splice : Addr
  d_is_splice : FuncData
  F_is_splice : Fun K "is_splice" "is_splice" s_is_splice a_is_splice d_is_splice
  b_is_splice : Binds K d_is_splice ["thing"] []
  g_is_splice : mg "is_splice" = some (.ref a_is_splice)
  a_follows : Addr
  d_follows : FuncData
  F_follows : Fun K "follows" "follows" s_follows a_follows d_follows
  b_follows : Binds K d_follows ["before", "splice"] []
  g_follows : mg "follows" = some (.ref a_follows)
  a_check_round : Addr
  d_check_round : FuncData
  F_check_round : Fun K "check_round" "check_round" s_check_round a_check_round d_check_round
  b_check_round : Binds K d_check_round ["size", "splices"] []
  g_check_round : mg "check_round" = some (.ref a_check_round)
  a_spliced : Addr
  d_spliced : FuncData
  F_spliced : Fun K "spliced" "spliced" s_spliced a_spliced d_spliced
  b_spliced : Binds K d_spliced ["text", "splices"] []
  g_spliced : mg "spliced" = some (.ref a_spliced)
  a_moved_by : Addr
  d_moved_by : FuncData
  F_moved_by : Fun K "moved_by" "moved_by" s_moved_by a_moved_by d_moved_by
  b_moved_by : Binds K d_moved_by ["place", "side", "splice"] []
  g_moved_by : mg "moved_by" = some (.ref a_moved_by)
  a_moved_place : Addr
  d_moved_place : FuncData
  F_moved_place : Fun K "moved_place" "moved_place" s_moved_place a_moved_place d_moved_place
  b_moved_place : Binds K d_moved_place ["place", "side", "splices"] []
  g_moved_place : mg "moved_place" = some (.ref a_moved_place)
  a_led_past : Addr
  d_led_past : FuncData
  F_led_past : Fun K "led_past" "led_past" s_led_past a_led_past d_led_past
  b_led_past : Binds K d_led_past ["first", "second"] []
  g_led_past : mg "led_past" = some (.ref a_led_past)
  a_law_start : Addr
  d_law_start : FuncData
  F_law_start : Fun K "_law_start" "_law_start" s_law_start a_law_start d_law_start
  b_law_start : Binds K d_law_start ["_law_script"] []
  g_law_start : mg "_law_start" = some (.ref a_law_start)
  a_law_draw : Addr
  d_law_draw : FuncData
  F_law_draw : Fun K "_law_draw" "_law_draw" s_law_draw a_law_draw d_law_draw
  b_law_draw : Binds K d_law_draw ["_law_state", "_law_many"] []
  g_law_draw : mg "_law_draw" = some (.ref a_law_draw)
  a_law_word : Addr
  d_law_word : FuncData
  F_law_word : Fun K "_law_word" "_law_word" s_law_word a_law_word d_law_word
  b_law_word : Binds K d_law_word ["_law_state", "_law_size"] []
  g_law_word : mg "_law_word" = some (.ref a_law_word)
  a_law_round : Addr
  d_law_round : FuncData
  F_law_round : Fun K "_law_round" "_law_round" s_law_round a_law_round d_law_round
  b_law_round : Binds K d_law_round ["_law_state", "_law_size", "_law_most", "_law_gap"] []
  g_law_round : mg "_law_round" = some (.ref a_law_round)
  a_law_ahead : Addr
  d_law_ahead : FuncData
  F_law_ahead : Fun K "_law_ahead" "_law_ahead" s_law_ahead a_law_ahead d_law_ahead
  b_law_ahead : Binds K d_law_ahead ["_law_births", "_law_one", "_law_other"] []
  g_law_ahead : mg "_law_ahead" = some (.ref a_law_ahead)
  a_law_place : Addr
  d_law_place : FuncData
  F_law_place : Fun K "_law_place" "_law_place" s_law_place a_law_place d_law_place
  b_law_place : Binds K d_law_place ["_law_births", "_law_row", "_law_sign", "_law_side"] []
  g_law_place : mg "_law_place" = some (.ref a_law_place)
  a_law_born : Addr
  d_law_born : FuncData
  F_law_born : Fun K "_law_born" "_law_born" s_law_born a_law_born d_law_born
  b_law_born : Binds K d_law_born ["_law_births", "_law_row", "_law_splice"] []
  g_law_born : mg "_law_born" = some (.ref a_law_born)
  a_law_is : Addr
  d_law_is : FuncData
  F_law_is : Fun K "_law_is" "_law_is" s_law_is a_law_is d_law_is
  b_law_is : Binds K d_law_is ["_law_due", "_law_told"] []
  g_law_is : mg "_law_is" = some (.ref a_law_is)
  a_law_anchors : Addr
  d_law_anchors : FuncData
  F_law_anchors : Fun K "_law_anchors" "_law_anchors" s_law_anchors a_law_anchors d_law_anchors
  b_law_anchors : Binds K d_law_anchors ["_law_signs"] []
  g_law_anchors : mg "_law_anchors" = some (.ref a_law_anchors)
  a_law_rises : Addr
  d_law_rises : FuncData
  F_law_rises : Fun K "_law_rises" "_law_rises" s_law_rises a_law_rises d_law_rises
  b_law_rises : Binds K d_law_rises ["_law_size", "_law_row"] []
  g_law_rises : mg "_law_rises" = some (.ref a_law_rises)
  a_law_whole : Addr
  d_law_whole : FuncData
  F_law_whole : Fun K "_law_whole" "_law_whole" s_law_whole a_law_whole d_law_whole
  b_law_whole : Binds K d_law_whole ["_law_state"] []
  g_law_whole : mg "_law_whole" = some (.ref a_law_whole)
  a_law_far : Addr
  d_law_far : FuncData
  F_law_far : Fun K "_law_far" "_law_far" s_law_far a_law_far d_law_far
  b_law_far : Binds K d_law_far ["_law_state"] []
  g_law_far : mg "_law_far" = some (.ref a_law_far)
  a_law_same : Addr
  d_law_same : FuncData
  F_law_same : Fun K "_law_same" "_law_same" s_law_same a_law_same d_law_same
  b_law_same : Binds K d_law_same ["_law_due", "_law_told"] []
  g_law_same : mg "_law_same" = some (.ref a_law_same)
  a_law_led : Addr
  d_law_led : FuncData
  F_law_led : Fun K "_law_led" "_law_led" s_law_led a_law_led d_law_led
  b_law_led : Binds K d_law_led ["_law_size", "_law_first", "_law_second"] []
  g_law_led : mg "_law_led" = some (.ref a_law_led)
  a_law_pair : Addr
  d_law_pair : FuncData
  F_law_pair : Fun K "_law_pair" "_law_pair" s_law_pair a_law_pair d_law_pair
  b_law_pair : Binds K d_law_pair ["_law_state"] []
  g_law_pair : mg "_law_pair" = some (.ref a_law_pair)
  a_law : Addr
  d_law : FuncData
  F_law : Fun K "law" "law" s_law a_law d_law
  b_law : Binds K d_law ["_law_script"] []
  g_law : mg "law" = some (.ref a_law)
  c_BadSplice : Addr
  ai_BadSplice : Addr
  d_BadSplice : FuncData
  F_BadSplice : Fun K "__init__" "BadSplice.__init__" s_init_BadSplice ai_BadSplice d_BadSplice
  b_BadSplice : Binds K d_BadSplice ["self", "at"] []
  g_BadSplice : mg "BadSplice" = some (.ref c_BadSplice)
  o_BadSplice : OexC K c_BadSplice
  x_BadSplice : XfC K c_BadSplice
  i_BadSplice : PySem.W.findIn K (.ref c_BadSplice) "__init__" = some (some (.ref ai_BadSplice))
  ti_BadSplice : PySem.W.typeIn K (.ref ai_BadSplice) = some (.type "function")
  e_BadSplice : PySem.W.exmOne K (.ref c_BadSplice) (.ref c_BadSplice) = some true
  na_BadSplice_at : PySem.W.findIn K (.ref c_BadSplice) "at" = some none
  t_ALPHABET : Tok
  g_ALPHABET : mg "ALPHABET" = some (.str "\n !\"#$&'()*+,-./0123456789:;<=>?@ABCDEFGHIJKLMNOPQRSTUVWXYZ[\\]^_`abcdefghijklmnopqrstuvwxyz{|}~" t_ALPHABET)
  n_bool : mg "bool" = none
  n_enumerate : mg "enumerate" = none
  n_int : mg "int" = none
  n_isinstance : mg "isinstance" = none
  n_len : mg "len" = none
  n_max : mg "max" = none
  n_min : mg "min" = none
  n_range : mg "range" = none
  n_reversed : mg "reversed" = none
  n_str : mg "str" = none
  n_tuple : mg "tuple" = none
/-! ### values by their kind -/
inductive Ok (G : Hp) : V → String → Prop where
  | non : Ok G .non "NoneType"
  | bl (b : Bool) : Ok G (.bl b) "bool"
  | int (i : Int) : Ok G (.int i) "int"
  | str (z : Str) (h : z.length ≤ 8000) : Ok G (.str z) "str"
  | lst {a : Addr} {xs : List V} (h : G a = some (.lst xs)) : Ok G (.ref a) "list"
  | tup {a : Addr} {xs : List V} (h : G a = some (.tup xs)) : Ok G (.ref a) "tuple"
  | dK {a : Addr} {kvs : List (Key × V)} (h : G a = some (.dK kvs)) : Ok G (.ref a) "dict"
theorem Ok.up {G G' : Hp} {v : V} {n : String} (e : Ex G G') (h : Ok G v n) : Ok G' v n := by
  cases h with
  | non => exact .non
  | bl b => exact .bl b
  | int i => exact .int i
  | str z h => exact .str z h
  | lst h => exact .lst (e _ _ h)
  | tup h => exact .tup (e _ _ h)
  | dK h => exact .dK (e _ _ h)
theorem Ok.ty {K : PySem.W.Frag} {G : Hp} {v : V} {n : String} (h : Ok G v n) : TyX K G v (.type n) := by
  cases h with
  | non => exact .base .non
  | bl b => exact .base (.bl b)
  | int i => exact .base (.int i)
  | str z h => exact .base (.str z)
  | lst h => exact .base (.lst h)
  | tup h => exact .base (.tup h)
  | dK h => exact .base (.dK h)
def Okc (G : Hp) (v : V) : Prop := ∃ n, Ok G v n
theorem Okc.up {G G' : Hp} {v : V} (e : Ex G G') (h : Okc G v) : Okc G' v := h.imp fun _ z => z.up e
/-- a thing: of a known kind; if it is a tuple, so are its items -/
def Thg (G : Hp) (v : V) : Prop := Okc G v ∧ ∀ a xs, v = .ref a → G a = some (.tup xs) → xs.length ≤ 1000 ∧ ∀ x ∈ xs, Okc G x
theorem Thg.up {G G' : Hp} {v : V} (e : Ex G G') (h : Thg G v) : Thg G' v := by
  refine ⟨h.1.up e, fun a xs ev ht => ?_⟩
  obtain ⟨n, o⟩ := h.1
  subst ev
  cases o with
  | lst q => rw [e _ _ q] at ht; cases ht
  | dK q => rw [e _ _ q] at ht; cases ht
  | tup q =>
    have z := e _ _ q
    rw [ht] at z
    cases z
    obtain ⟨h1, h2⟩ := h.2 _ _ rfl q
    exact ⟨h1, fun x hx => (h2 x hx).up e⟩
/-! ### the mirror -/
def isTx (z : Str) : Bool := z.cps.toList.all fun c => decide (c ∈ AL.cps.toList)
def numV : V → Bool
  | .int i => decide (0 ≤ i)
  | _ => false
def txtV : V → Bool
  | .str z => isTx z
  | _ => false
abbrev Spl := Int × Int × Str
def sp3o : Option HO → Option Spl
  | some (.tup [.int a, .int c, .str t]) => if 0 ≤ a ∧ 0 ≤ c ∧ isTx t = true ∧ (0 < c ∨ t ≠ "") then some (a, c, t) else none
  | _ => none
def sp3 (G : Hp) : V → Option Spl
  | .ref p => sp3o (G p)
  | _ => none
theorem sp3_up {G G' : Hp} {v : V} (e : Ex G G') (h : Thg G v) : sp3 G' v = sp3 G v := by
  obtain ⟨⟨n, o⟩, _⟩ := h
  cases o with
  | non => rfl
  | bl b => rfl
  | int i => rfl
  | str z h => rfl
  | lst q => show sp3o (G' _) = sp3o (G _); rw [q, e _ _ q]
  | tup q => show sp3o (G' _) = sp3o (G _); rw [q, e _ _ q]
  | dK q => show sp3o (G' _) = sp3o (G _); rw [q, e _ _ q]
def jd (size : Int) : Int → Int → Nat → List (Option Spl) → Option Int
  | _, _, _, [] => none
  | _, _, k, none :: _ => some k
  | fl, ed, k, some (a, c, _) :: r => if a ≤ fl ∨ a < ed ∨ a + c > size then some k else jd size a (a + c) (k + 1) r
def judge (size : Int) (l : List (Option Spl)) : Option Int := if l.isEmpty then some (-1) else jd size (-1) 0 0 l
section
variable {P : Program} {w : World} {K : PySem.W.Frag} {mg : Str → Option Value} {base : Heap}
/-! ### the program's defs -/
theorem ok_init_BadSplice (T : Txt K mg) : FnOk P w K mg base CX0 1 T.ai_BadSplice T.d_BadSplice ["self", "at"] (spInit1 T.c_BadSplice "at") := by
  refine T.F_BadSplice.ok sc_init_BadSplice (fun vs H Q E h => ?_) (fun cdv A outer s H vs Q E hr h => ?_)
  · obtain ⟨a, v, rfl, _⟩ := h
    rfl
  · obtain ⟨a, v, rfl, ha, q⟩ := h
    refine ⟨_, pss_one (ps_ost (pv 0) (pv 1)), ?_⟩
    exact ⟨v, rfl, .ref a, rfl, a, T.c_BadSplice, rfl, T.o_BadSplice, T.na_BadSplice_at, .inl ⟨ha, fun dx n1 n2 => q dx n1 n2⟩⟩
def sp_first_strange : Sp := fun vs H Q _ => ∃ z : Str, vs = [.str z] ∧ ∀ v H', Ex H H' → (v = .non ↔ isTx z = true) → (v = .non ∨ ∃ i, v = .int i) → Q v H'
theorem ok_first_strange (T : Txt K mg) : FnOk P w K mg base CX0 1 T.a_first_strange T.d_first_strange ["text"] sp_first_strange := by
  refine T.F_first_strange.ok sc_first_strange (fun vs H Q E h => ?_) (fun cdv A outer s H vs Q E hr h => ?_)
  · obtain ⟨z, rfl, _⟩ := h
    rfl
  · obtain ⟨z, rfl, q⟩ := h
    refine ⟨_, (pss_cons (ps_for PassesOwn.never rfl (pi_enumS (by rfl) T.n_enumerate (pa_cons (pv 0) pa_nil)) (pg_tup rfl (pgs_cons (pg_name (i := 1) sc_first_strange.nd rfl (Or.inl rfl)) (pgs_cons (pg_name (i := 2) sc_first_strange.nd rfl (Or.inl rfl)) pgs_nil))) (pss_one (ps_if (pt_cmpR op_notInU (pv 2) (pe_glob (v := .str "\n !\"#$&'()*+,-./0123456789:;<=>?@ABCDEFGHIJKLMNOPQRSTUVWXYZ[\\]^_`abcdefghijklmnopqrstuvwxyz{|}~") rfl T.g_ALPHABET ⟨_, rfl⟩) (by rfl)) (pss_one (ps_ret (pv 1))) pss_nil)))
        (pss_one (ps_ret pe_non))), ?_⟩
    walk_at "rd"
    refine ⟨.str z, rfl, z, rfl, ?_⟩
    refine ⟨fun i m σ H' => ∃ y1 y2, σ = [some (.str z), y1, y2] ∧ Ex H H' ∧ i + m = z.cps.size ∧ ∀ c ∈ z.cps.toList.take i, c ∈ AL.cps.toList, ⟨z.cps.size, none, none, rfl, Same.refl H, by omega, fun c hc => by simp at hc⟩, fun i m σ H' hW => ?_⟩
    obtain ⟨y1, y2, rfl, e, em, ha⟩ := hW
    by_cases hi : i < z.cps.size
    · refine .inr ⟨⟨trivial, hi⟩, fun σ' H2 => ∃ y1 y2, σ' = [some (.str z), y1, y2] ∧ Ex H H2 ∧ ∀ c ∈ z.cps.toList.take (i + 1), c ∈ AL.cps.toList, fun σ' H2 hN => ?_, fun x H2 hy => ?_⟩
      · obtain ⟨y1, y2, h1, h2, h3⟩ := hN
        exact ⟨m - 1, by omega, y1, y2, h1, h2, by omega, h3⟩
      · obtain ⟨p, x', rfl, hp, rfl, c, hc, rfl⟩ := hy
        refine ⟨p, _, rfl, sqT upd_same, rfl, _, _, rfl, _, _, rfl, rfl, ?_⟩
        walk_at "rd"
        have e2 : Ex H (upd H' p (.tup [.int (i : Nat), .str ⟨#[c]⟩])) := e.trans (Gr.new (A := A0) (Same.refl H') hp).same
        have hcz : z.cps.toList[i]? = some c := by rw [Array.getElem?_toList]; exact hc
        refine r_niS ?_
        walk_at "rd"
        refine r_iteN (fun hn => ?_) (fun hm => ?_)
        · walk_at "rd"
          refine q _ _ e2 ⟨(fun z => nomatch z), fun ht => ?_⟩ (.inr ⟨_, rfl⟩)
          exfalso
          have h1 := List.all_eq_true.mp ht c (List.mem_of_getElem? hcz)
          exact hn (of_decide_eq_true h1)
        · walk_at "rd"
          refine ⟨_, _, rfl, e2, fun d hd => ?_⟩
          rw [List.take_add_one, hcz] at hd
          rcases List.mem_append.mp hd with h | h
          · exact ha d h
          · have z' : d = c := by simpa using h
            rw [z']
            exact hm
    · refine .inl ⟨⟨trivial, by omega⟩, ?_⟩
      walk_at "rd"
      refine q _ _ e ⟨fun _ => List.all_eq_true.mpr fun d hd => decide_eq_true (ha d ?_), fun _ => rfl⟩ (.inl rfl)
      rw [List.take_of_length_le (by rw [Array.length_toList]; omega)]
      exact hd
/-- a function of a value whose kind is known -/
def spV (f : V → Bool) : Sp := fun vs H Q _ => ∃ v, vs = [v] ∧ Okc H v ∧ ∀ H', Ex H H' → Q (.bl (f v)) H'
theorem ok_is_number (T : Txt K mg) : FnOk P w K mg base CX0 1 T.a_is_number T.d_is_number ["thing"] (spV numV) := by
  refine T.F_is_number.ok sc_is_number (fun vs H Q E h => ?_) (fun cdv A outer s H vs Q E hr h => ?_)
  · obtain ⟨v, rfl, _⟩ := h
    rfl
  · obtain ⟨v, rfl, ⟨n, o⟩, q⟩ := h
    refine ⟨_, (pss_one (ps_ret (pe_and (pe_callB call_isi (by rfl) T.n_isinstance (by decide +kernel) (pa_cons (pv 0) (pa_cons (pe_bltn (v := .ty "int") (by rfl) T.n_int (by decide +kernel) rfl) pa_nil))) (pe_and (pe_not (pe_callB call_isi (by rfl) T.n_isinstance (by decide +kernel) (pa_cons (pv 0) (pa_cons (pe_bltn (v := .ty "bool") (by rfl) T.n_bool (by decide +kernel) rfl) pa_nil)))) (pe_one (pe_cmpR op_ge (pv 0) pe_int (nomark _))))))), ?_⟩
    have ty := o.ty (K := K)
    cases o <;> (walk_at "rd"; walk_at "isi"; walk_at "rd"; try (walk_at "isi"; walk_at "rd")) <;> exact q H (Same.refl H)
theorem ok_is_text (T : Txt K mg) : FnOk P w K mg base CX0 2 T.a_is_text T.d_is_text ["thing"] (spV txtV) := by
  refine T.F_is_text.ok sc_is_text (fun vs H Q E h => ?_) (fun cdv A outer s H vs Q E hr h => ?_)
  · obtain ⟨v, rfl, _⟩ := h
    rfl
  · obtain ⟨v, rfl, ⟨n, o⟩, q⟩ := h
    refine ⟨_, (pss_one (ps_ret (pe_and (pe_callB call_isi (by rfl) T.n_isinstance (by decide +kernel) (pa_cons (pv 0) (pa_cons (pe_bltn (v := .ty "str") (by rfl) T.n_str (by decide +kernel) rfl) pa_nil))) (pe_one (pe_cmpR op_isU (pe_call (ok_first_strange T) hr (by rfl) T.g_first_strange T.F_first_strange.kp T.b_first_strange .nil pass0 (pa_cons (pv 0) pa_nil)) pe_non (nomark _)))))), ?_⟩
    have ty := o.ty (K := K)
    cases o <;> (walk_at "rd"; walk_at "isi"; walk_at "rd")
    case str z h =>
      refine ⟨z, rfl, fun v H' e hv hk => ?_⟩
      walk_at "rd"
      have e2 : decide (v = .non) = txtV (.str z) := by
        show _ = isTx z
        rw [Bool.eq_iff_iff, decide_eq_true_iff]
        exact hv
      rw [e2]
      exact q _ e
    all_goals exact q H (Same.refl H)
def spFol : Sp := fun vs H Q _ => ∃ (p q : Addr) (a c b : Int) (x y z : V), vs = [.ref p, .ref q] ∧ H p = some (.tup [.int a, .int c, x]) ∧ H q = some (.tup [.int b, y, z]) ∧ Q (.bl (decide (a < b) && decide (a + c ≤ b))) H
theorem ok_follows (T : Txt K mg) : FnOk P w K mg base CX0 1 T.a_follows T.d_follows ["before", "splice"] spFol := by
  refine T.F_follows.ok sc_follows (fun vs H Q E h => ?_) (fun cdv A outer s H vs Q E hr h => ?_)
  · obtain ⟨p, q, a, c, b, x, y, z, rfl, _⟩ := h
    rfl
  · obtain ⟨p, q, a, c, b, x, y, z, rfl, hp, hq, k⟩ := h
    refine ⟨_, (pss_one (ps_ret (pe_and (pe_cmpR op_gt (pe_ix ix_seq (pv 1) pe_int (fun _ _ => rfl)) (pe_ix ix_seq (pv 0) pe_int (fun _ _ => rfl)) (nomark _)) (pe_one (pe_cmpR op_ge (pe_ix ix_seq (pv 1) pe_int (fun _ _ => rfl)) (pe_op op_addU (pe_ix ix_seq (pv 0) pe_int (fun _ _ => rfl)) (pe_ix ix_seq (pv 0) pe_int (fun _ _ => rfl))) (nomark _)))))), ?_⟩
    walk_at "rd"
    refine r_ixT (sqT hq) (atI_nat (j := 0) rfl) ?_
    walk_at "rd"
    refine r_ixT (sqT hp) (atI_nat (j := 0) rfl) ?_
    walk_at "rd"
    refine r_ite (fun h1 => ?_) (fun h1 => ?_)
    · walk_at "rd"
      refine r_ixT (sqT hq) (atI_nat (j := 0) rfl) ?_
      walk_at "rd"
      refine r_ixT (sqT hp) (atI_nat (j := 0) rfl) ?_
      walk_at "rd"
      refine r_ixT (sqT hp) (atI_nat (j := 1) rfl) ?_
      walk_at "rd"
      rw [decide_eq_true h1] at k
      exact k
    · rw [decide_eq_false h1] at k
      exact k
def gtV : V → V → Bool
  | .int c, .str t => decide (0 < c) || !decide (V.str t = V.str "")
  | _, _ => false
theorem sp3_tup {G : Hp} {p : Addr} {x y z : V} (h : G p = some (.tup [x, y, z])) : (sp3 G (.ref p)).isSome = (numV x && (numV y && (txtV z && gtV y z))) := by
  show (sp3o (G p)).isSome = _
  rw [h]
  cases x <;> cases y <;> cases z <;> (try rfl) <;> (try (simp [sp3o, numV, txtV, gtV]; done))
  simp only [sp3o, numV, txtV, gtV]
  split
  · rename_i hh
    obtain ⟨h1, h2, h3, h4⟩ := hh
    simp [h1, h2, h3]
    exact h4
  · rename_i hh
    simp only [Option.isSome_none]
    symm
    rw [Bool.eq_false_iff]
    intro hc
    simp at hc
    exact hh ⟨hc.1, hc.2.1, hc.2.2.1, hc.2.2.2⟩
theorem sp3_tupn {G : Hp} {p : Addr} {xs : List V} (h : G p = some (.tup xs)) (hl : xs.length ≠ 3) : sp3 G (.ref p) = none := by
  show sp3o (G p) = none
  rw [h]
  unfold sp3o
  split
  · rename_i h1
    cases h1
    exact absurd rfl hl
  · rfl
def spS : Sp := fun vs H Q _ => ∃ v, vs = [v] ∧ Thg H v ∧ ∀ H', Ex H H' → Q (.bl (sp3 H v).isSome) H'
theorem ok_is_splice (T : Txt K mg) : FnOk P w K mg base CX0 3 T.a_is_splice T.d_is_splice ["thing"] spS := by
  refine T.F_is_splice.ok sc_is_splice (fun vs H Q E h => ?_) (fun cdv A outer s H vs Q E hr h => ?_)
  · obtain ⟨v, rfl, _⟩ := h
    rfl
  · obtain ⟨v, rfl, ⟨⟨n, o⟩, hx⟩, q⟩ := h
    refine ⟨_, (pss_cons (ps_if (PW.pt (pw_or (pt_not (pt_val (pe_callB call_isi (by rfl) T.n_isinstance (by decide +kernel) (pa_cons (pv 0) (pa_cons (pe_bltn (v := .ty "tuple") (by rfl) T.n_tuple (by decide +kernel) rfl) pa_nil))))) (pw_or1 (pt_cmpR (op_neU hr.units) (pe_callB call_lenU (by rfl) T.n_len (by decide +kernel) (pa_cons (pv 0) pa_nil)) pe_int (nomark _))))) (pss_one (ps_ret pe_bl)) pss_nil)
        (pss_cons (ps_asg (pv 0) (pg_tup rfl (pgs_cons (pg_name (i := 1) sc_is_splice.nd rfl (Or.inl rfl)) (pgs_cons (pg_name (i := 2) sc_is_splice.nd rfl (Or.inl rfl)) (pgs_cons (pg_name (i := 3) sc_is_splice.nd rfl (Or.inl rfl)) pgs_nil)))))
        (pss_one (ps_ret (pe_and (pe_call (ok_is_number T) (hr.mono (by decide)) (by rfl) T.g_is_number T.F_is_number.kp T.b_is_number .nil pass0 (pa_cons (pv 1) pa_nil)) (pe_and (pe_call (ok_is_number T) (hr.mono (by decide)) (by rfl) T.g_is_number T.F_is_number.kp T.b_is_number .nil pass0 (pa_cons (pv 2) pa_nil)) (pe_and (pe_call (ok_is_text T) hr (by rfl) T.g_is_text T.F_is_text.kp T.b_is_text .nil pass0 (pa_cons (pv 3) pa_nil)) (pe_one (pe_or (pe_cmpR op_gt (pv 2) pe_int (nomark _)) (pe_one (pe_cmpR (op_neU hr.units) (pv 3) pe_str (nomark _)))))))))))), ?_⟩
    have ty := o.ty (K := K)
    cases o <;> (walk_at "rd"; walk_at "isi"; walk_at "rd")
    case tup a xs h =>
      refine r_lenT (sqT h) ?_
      walk_at "rd"
      refine r_iteN (fun h3 => ?_) (fun h3 => ?_)
      · walk_at "rd"
        have q1 := q H (Same.refl H)
        rw [sp3_tupn h (fun z => h3 (by rw [z]; rfl))] at q1
        exact q1
      · have hl : xs.length = 3 := by
          have z := V.int.inj h3
          omega
        match xs, hl, h, hx with
        | [x, y, z], _, h, hx =>
          obtain ⟨_, hx⟩ := hx _ _ rfl h
          have key := sp3_tup h
          walk_at "rd"
          refine r_gtup (sqT h) rfl ?_
          walk_at "rd"
          refine ⟨x, rfl, hx x (by simp), fun H1 e1 => ?_⟩
          walk_at "rd"
          refine r_iteB (fun b1 => ?_) (fun b1 => ?_)
          · walk_at "rd"
            refine ⟨y, rfl, (hx y (by simp)).up e1, fun H2 e2 => ?_⟩
            walk_at "rd"
            refine r_iteB (fun b2 => ?_) (fun b2 => ?_)
            · walk_at "rd"
              refine ⟨z, rfl, ((hx z (by simp)).up e1).up e2, fun H3 e3 => ?_⟩
              have e : Ex H H3 := (e1.trans e2).trans e3
              walk_at "rd"
              refine r_iteB (fun b3 => ?_) (fun b3 => ?_)
              · rw [b1, b2, b3, Bool.true_and, Bool.true_and, Bool.true_and] at key
                cases y <;> try (cases b2; done)
                cases z <;> try (cases b3; done)
                walk_at "rd"
                refine r_ite (fun hc => ?_) (fun hc => ?_)
                · have q1 := q _ e
                  rw [key] at q1
                  simp only [gtV, decide_eq_true hc, Bool.true_or] at q1
                  exact q1
                · walk_at "rd"
                  have q1 := q _ e
                  rw [key] at q1
                  simp only [gtV, decide_eq_false hc, Bool.false_or] at q1
                  exact q1
              · have q1 := q _ e
                rw [key, b1, b2, b3] at q1
                exact q1
            · have q1 := q _ (e1.trans e2)
              rw [key, b1, b2] at q1
              exact q1
          · have q1 := q _ e1
            rw [key, b1] at q1
            exact q1
    all_goals
      have q1 := q H (Same.refl H)
    case lst a xs h =>
      have e0 : sp3 H (.ref a) = none := by
        show sp3o (H a) = none
        rw [h] <;> rfl
      rw [e0] at q1
      exact q1
    case dK a xs h =>
      have e0 : sp3 H (.ref a) = none := by
        show sp3o (H a) = none
        rw [h] <;> rfl
      rw [e0] at q1
      exact q1
    all_goals exact q1
end
end K16
namespace K16
open PySem PySem.Spec PyProof.Rows L2 Dk
/-- one step of a reading -/
local macro_rules | `(tactic| walk_at "rd1") => `(tactic| first
  | ((with_reducible refine r_var (v := ?rv) ?rh ?_); (case rh => rfl))
  | with_reducible refine r_c ?_
  | with_reducible refine r_seq ?_
  | with_reducible refine r_asg ?_
  | with_reducible refine r_gname ?_
  | with_reducible refine r_op ?_
  | with_reducible refine r_xfo ?_
  | with_reducible refine r_noP ?_
  | with_reducible refine r_part ?_
  | with_reducible refine r_pI ?_
  | with_reducible refine r_gcons ?_
  | with_reducible refine r_gnil ?_
  | with_reducible refine r_mkO ?_
  | with_reducible refine r_un ?_
  | with_reducible refine r_addI ?_
  | with_reducible refine r_I0 ?_
  | with_reducible refine r_U ?_
  | with_reducible refine r_cons ?_
  | with_reducible refine r_nil ?_
  | with_reducible refine r_CB ?_
  | with_reducible refine r_call ?_
  | with_reducible refine r_callS ?_
  | with_reducible refine r_int ?_
  | with_reducible refine r_max ?_
  | with_reducible refine r_min ?_
  | with_reducible refine r_test ?_
  | with_reducible refine r_B ?_
  | with_reducible refine r_blv ?_
  | with_reducible refine r_and ?_
  | with_reducible refine r_or ?_
  | with_reducible refine r_not ?_
  | with_reducible refine r_andV ?_
  | with_reducible refine r_orV ?_
  | with_reducible refine r_notV ?_
  | with_reducible refine r_ifE ?_
  | with_reducible refine r_ifS ?_
  | with_reducible refine r_ret ?_
  | with_reducible refine r_retN ?_
  | with_reducible refine r_drop ?_
  | with_reducible refine r_next ?_
  | with_reducible refine r_sl ?_
  | with_reducible refine r_gsub ?_
  | with_reducible refine r_bm ?_
  | with_reducible refine r_tup ?_
  | with_reducible refine r_lst ?_
  | with_reducible refine r_isN ?_
  | with_reducible refine r_notN ?_
  | with_reducible refine r_itt ?_
  | with_reducible refine r_iff ?_
  | with_reducible refine r_ittN ?_
  | with_reducible refine r_iffN ?_
  | ((with_reducible refine r_ittD ?rh ?_); (case rh => rfl))
  | ((with_reducible refine r_iffD ?rh ?_); (case rh => rfl))
  | ((with_reducible refine r_modP ?rh ?_); (case rh => decide))
  | ((with_reducible refine r_eq ?rh ?_); (case rh => rfl))
  | ((with_reducible refine r_ne ?rh ?_); (case rh => rfl)))
local macro_rules | `(tactic| walk_at "rd") => `(tactic| repeat walk_at "rd1")
local macro_rules | `(tactic| walk_at "isi") => `(tactic| first | refine r_isi (b := true) (by assumption) (by decide +kernel) ?_ | refine r_isi (b := false) (by assumption) (by decide +kernel) ?_)
local macro_rules | `(tactic| walk_at "rs1") => `(tactic| first
  | with_reducible refine r_seq ?_
  | with_reducible refine r_asg ?_
  | with_reducible refine r_gname ?_
  | with_reducible refine r_ret ?_)
local macro_rules | `(tactic| walk_at "rs") => `(tactic| repeat walk_at "rs1")

/-! ### rounds -/
/-- the rows of right splices, as numbers and codes -/
theorem jd_next {size fl ed : Int} {k : Nat} {l : List (Option Spl)} {a c : Int} {t : Str} (h : l[k]? = some (some (a, c, t))) (h1 : ¬ (a ≤ fl ∨ a < ed ∨ a + c > size)) :
    jd size fl ed k (l.drop k) = jd size a (a + c) (k + 1) (l.drop (k + 1)) := by
  obtain ⟨hk, e⟩ := List.getElem?_eq_some_iff.mp h
  rw [List.drop_eq_getElem_cons hk, e]
  exact if_neg h1
theorem jd_bad {size fl ed : Int} {k : Nat} {l : List (Option Spl)} {a c : Int} {t : Str} (h : l[k]? = some (some (a, c, t))) (h1 : a ≤ fl ∨ a < ed ∨ a + c > size) :
    jd size fl ed k (l.drop k) = some (k : Int) := by
  obtain ⟨hk, e⟩ := List.getElem?_eq_some_iff.mp h
  rw [List.drop_eq_getElem_cons hk, e]
  exact if_pos h1
theorem jd_none {size fl ed : Int} {k : Nat} {l : List (Option Spl)} (h : l[k]? = some none) : jd size fl ed k (l.drop k) = some (k : Int) := by
  obtain ⟨hk, e⟩ := List.getElem?_eq_some_iff.mp h
  rw [List.drop_eq_getElem_cons hk, e]
  rfl
theorem sp3_shape {G : Hp} {v : V} {a c : Int} {t : Str} (h : sp3 G v = some (a, c, t)) : ∃ p, v = .ref p ∧ G p = some (.tup [.int a, .int c, .str t]) ∧ 0 ≤ a ∧ 0 ≤ c ∧ isTx t = true := by
  cases v <;> try (cases h; done)
  rename_i p
  have h' : sp3o (G p) = some (a, c, t) := h
  unfold sp3o at h'
  split at h'
  · rename_i a' c' t' hg
    split at h'
    · rename_i hh
      cases h'
      exact ⟨p, rfl, hg, hh.1, hh.2.1, hh.2.2.1⟩
    · cases h'
  · cases h'
section
variable {P : Program} {w : World} {K : PySem.W.Frag} {mg : Str → Option Value} {base : Heap}
abbrev xAt (k : Int) : HO := .xd [(("at" : Str), V.int k)]
/-- a row of things at a -/
structure Rw (G : Hp) (xs : List V) : Prop where
  len : xs.length ≤ 1000
  thg : ∀ x ∈ xs, Thg G x
theorem Rw.up {G G' : Hp} {xs : List V} (e : Ex G G') (h : Rw G xs) : Rw G' xs := ⟨h.len, fun x hx => (h.thg x hx).up e⟩
abbrev sps (G : Hp) (xs : List V) : List (Option Spl) := xs.map (sp3 G)
theorem sps_up {G G' : Hp} {xs : List V} (e : Ex G G') (h : Rw G xs) : sps G' xs = sps G xs := List.map_congr_left fun x hx => sp3_up e (h.thg x hx)
def spChk (C : Addr) : Sp := fun vs H Q E => ∃ (n : Int) (a : Addr) (xs : List V), vs = [.int n, .ref a] ∧ H a = some (.tup xs) ∧ Rw H xs ∧
  (judge n (sps H xs) = none → ∀ H', Ex H H' → Q .non H') ∧ ∀ k, judge n (sps H xs) = some k → ∀ H' d, Ex H H' → H d = none → H' d = some (xAt k) → E (.ref C) (some d) H'
theorem ok_check_round (T : Txt K mg) : FnOk P w K mg base (L2.CX P w) 4 T.a_check_round T.d_check_round ["size", "splices"] (spChk T.c_BadSplice) := by
  refine T.F_check_round.okX sc_check_round (fun vs H Q E h => ?_) (fun cdv A outer s H vs Q E hr h => ?_)
  · obtain ⟨n, a, xs, rfl, _⟩ := h
    rfl
  · obtain ⟨n, a, xs, rfl, ha, rw0, q, qE⟩ := h
    refine ⟨_, (pss_cons (ps_if (pt_cmpR (op_eqU hr.units) (pe_callB call_lenU (by rfl) T.n_len (by decide +kernel) (pa_cons (pv 1) pa_nil)) pe_int (nomark _)) (pss_one (ps_raise rfl (takes_of rfl rfl rfl rfl) (pmk_oex T.o_BadSplice T.i_BadSplice T.ti_BadSplice (ok_init_BadSplice T) (hr.mono (by decide)) T.b_BadSplice .nil pass0 (by rfl) T.g_BadSplice (pa_cons (pe_un un_neg pe_int) pa_nil)))) pss_nil)
        (pss_one (ps_for (passes_of rfl) rfl (pi_enumT (by rfl) T.n_enumerate (pa_cons (pv 1) pa_nil)) (pg_tup rfl (pgs_cons (pg_name (i := 2) sc_check_round.nd rfl (Or.inl rfl)) (pgs_cons (pg_name (i := 3) sc_check_round.nd rfl (Or.inl rfl)) pgs_nil))) (pss_cons (ps_if (PW.pt (pw_or (pt_not (pt_val (pe_call (ok_is_splice T) hr (by rfl) T.g_is_splice T.F_is_splice.kp T.b_is_splice .nil pass0 (pa_cons (pv 3) pa_nil)))) (pw_or1 (pt_cmpR op_gt (pe_op op_addU (pe_ix ix_seq (pv 3) pe_int (fun _ _ => rfl)) (pe_ix ix_seq (pv 3) pe_int (fun _ _ => rfl))) (pv 0) (nomark _))))) (pss_one (ps_raise rfl (takes_of rfl rfl rfl rfl) (pmk_oex T.o_BadSplice T.i_BadSplice T.ti_BadSplice (ok_init_BadSplice T) (hr.mono (by decide)) T.b_BadSplice .nil pass0 (by rfl) T.g_BadSplice (pa_cons (pv 2) pa_nil)))) pss_nil)
        (pss_one (ps_if (PW.pt (pw_and (pt_cmpR op_gt (pv 2) pe_int (nomark _)) (pw_and1 (pt_not (pt_val (pe_call (ok_follows T) (hr.mono (by decide)) (by rfl) T.g_follows T.F_follows.kp T.b_follows .nil pass0 (pa_cons (pe_ix ix_seq (pv 1) (pe_op op_sub (pv 2) pe_int) (fun _ _ => rfl)) (pa_cons (pv 3) pa_nil)))))))) (pss_one (ps_raise rfl (takes_of rfl rfl rfl rfl) (pmk_oex T.o_BadSplice T.i_BadSplice T.ti_BadSplice (ok_init_BadSplice T) (hr.mono (by decide)) T.b_BadSplice .nil pass0 (by rfl) T.g_BadSplice (pa_cons (pv 2) pa_nil)))) pss_nil)))))), ?_⟩
    have raise : ∀ (k : Int) (H1 : Hp), judge n (sps H xs) = some k → Ex H H1 → ∀ d, H1 d = none → E (.ref T.c_BadSplice) (some d) (upd H1 d (xAt k)) :=
      fun k H1 hk e d hd => qE k hk _ d (e.trans (Gr.new (A := A0) (Same.refl H1) hd).same) (e.free hd) upd_same
    walk_at "rd"
    refine r_lenT (sqT ha) ?_
    walk_at "rd"
    refine r_ite (fun h0 => ?_) (fun h0 => ?_)
    · have hx : xs = [] := by
        have z := V.int.inj h0
        exact List.length_eq_zero_iff.mp (by omega)
      walk_at "rd"
      refine r_raise1 fun d hd => raise _ _ (by rw [hx]; rfl) (Same.refl H) d hd
    · have hx : xs ≠ [] := fun z => h0 (by rw [z]; rfl)
      have hj : judge n (sps H xs) = jd n (-1) 0 0 (sps H xs) := by
        unfold judge
        rw [if_neg (by simp [sps, hx])]
      walk_at "rd"
      refine r_forETv rfl (sqT ha) (fun i σ H' => ∃ y1 y2 fl ed, σ = [some (.int n), some (.ref a), y1, y2] ∧ Ex H H' ∧ jd n (-1) 0 0 (sps H xs) = jd n fl ed i ((sps H xs).drop i) ∧
        ((i = 0 ∧ fl = -1 ∧ ed = 0) ∨ (0 < i ∧ ∃ (p : Addr) (c : Int) (t : Str), xs[i - 1]? = some (.ref p) ∧ H p = some (.tup [.int fl, .int c, .str t]) ∧ ed = fl + c)))
        ⟨none, none, -1, 0, rfl, Same.refl H, rfl, .inl ⟨rfl, rfl, rfl⟩⟩ (fun i σ H' h => ?_) (fun i x σ H' p hx' hP hp => ?_) (fun σ H' hP => ?_)
      · obtain ⟨_, _, _, _, _, e, _⟩ := h
        exact SqT.up e (sqT ha)
      · obtain ⟨y1, y2, fl, ed, rfl, e, hjd, hfl⟩ := hP
        have hT : Thg H x := rw0.thg x (List.mem_of_getElem? hx')
        have e1 : Ex H' (upd H' p (.tup [.int (i : Nat), x])) := (Gr.new (A := A0) (Same.refl H') hp).same
        have e2 := e.trans e1
        have hs : (sps H xs)[i]? = some (sp3 H x) := by
          rw [List.getElem?_map, hx']
          rfl
        refine r_gtup (sqT upd_same) rfl ?_
        walk_at "rd"
        refine ⟨x, rfl, hT.up e2, fun H2 e3 => ?_⟩
        have e4 := e2.trans e3
        rw [sp3_up e2 hT]
        walk_at "rd"
        cases hsp : sp3 H x with
        | none =>
          rw [hsp] at hs
          walk_at "rd"
          exact r_raise1 fun d hd => raise _ _ (by rw [hj, hjd]; exact jd_none hs) e4 d hd
        | some abc =>
          obtain ⟨b, c, t⟩ := abc
          rw [hsp] at hs
          obtain ⟨p2, rfl, hp2, b0, c0, _⟩ := sp3_shape hsp
          walk_at "rd"
          refine r_ixT (sqT (e4 _ _ hp2)) (atI_nat (j := 0) rfl) ?_
          walk_at "rd"
          refine r_ixT (sqT (e4 _ _ hp2)) (atI_nat (j := 1) rfl) ?_
          walk_at "rd"
          refine r_ite (fun hb => ?_) (fun hb => ?_)
          · walk_at "rd"
            exact r_raise1 fun d hd => raise _ _ (by rw [hj, hjd]; exact jd_bad hs (.inr (.inr hb))) e4 d hd
          · walk_at "rd"
            refine r_ite (fun hi => ?_) (fun hi => ?_)
            · rcases hfl with ⟨z, _, _⟩ | ⟨_, p3, c3, t3, hx3, hp3, rfl⟩
              · omega
              · walk_at "rd"
                refine r_ixT (sqT (e4 _ _ ha)) (at_of (j := i - 1) (by omega) hx3) ?_
                walk_at "rd"
                refine ⟨p3, p2, fl, c3, b, _, _, _, rfl, e4 _ _ hp3, e4 _ _ hp2, ?_⟩
                walk_at "rd"
                refine r_iteB (fun hf => ?_) (fun hf => ?_)
                · walk_at "rd"
                  have hf' : ¬ (fl < b ∧ fl + c3 ≤ b) := by
                    intro z
                    rw [decide_eq_true z.1, decide_eq_true z.2] at hf
                    exact absurd hf (by decide)
                  exact r_raise1 fun d hd => raise _ _ (by rw [hj, hjd]; exact jd_bad hs (by omega)) e4 d hd
                · walk_at "rd"
                  have hf' : fl < b ∧ fl + c3 ≤ b := by
                    have z : (decide (fl < b) && decide (fl + c3 ≤ b)) = true := by
                      cases hq : (decide (fl < b) && decide (fl + c3 ≤ b)) with
                      | true => rfl
                      | false => rw [hq] at hf; exact absurd hf (by decide)
                    simp at z
                    exact z
                  exact ⟨_, _, b, b + c, rfl, e4, hjd.trans (jd_next hs (by omega)), .inr ⟨by omega, p2, c, t, by rw [Nat.add_sub_cancel]; exact hx', hp2, rfl⟩⟩
            · walk_at "rd"
              have h1 : fl = -1 ∧ ed = 0 := by
                rcases hfl with ⟨_, h1, h2⟩ | ⟨z, _⟩
                · exact ⟨h1, h2⟩
                · omega
              exact ⟨_, _, b, b + c, rfl, e4, hjd.trans (jd_next hs (by omega)), .inr ⟨by omega, p2, c, t, by rw [Nat.add_sub_cancel]; exact hx', hp2, rfl⟩⟩
      · obtain ⟨y1, y2, fl, ed, rfl, e, hjd, _⟩ := hP
        walk_at "rd"
        refine q ?_ _ e
        rw [hj, hjd, List.drop_of_length_le (by simp [sps])]
        rfl
end
end K16
namespace K16
open PySem PySem.Spec PyProof.Rows L2 Dk
/-- one step of a reading -/
local macro_rules | `(tactic| walk_at "rd1") => `(tactic| first
  | ((with_reducible refine r_var (v := ?rv) ?rh ?_); (case rh => rfl))
  | with_reducible refine r_c ?_
  | with_reducible refine r_seq ?_
  | with_reducible refine r_asg ?_
  | with_reducible refine r_gname ?_
  | with_reducible refine r_op ?_
  | with_reducible refine r_xfo ?_
  | with_reducible refine r_noP ?_
  | with_reducible refine r_part ?_
  | with_reducible refine r_pI ?_
  | with_reducible refine r_gcons ?_
  | with_reducible refine r_gnil ?_
  | with_reducible refine r_mkO ?_
  | with_reducible refine r_un ?_
  | with_reducible refine r_addI ?_
  | with_reducible refine r_I0 ?_
  | with_reducible refine r_U ?_
  | with_reducible refine r_cons ?_
  | with_reducible refine r_nil ?_
  | with_reducible refine r_CB ?_
  | with_reducible refine r_call ?_
  | with_reducible refine r_callS ?_
  | with_reducible refine r_int ?_
  | with_reducible refine r_max ?_
  | with_reducible refine r_min ?_
  | with_reducible refine r_test ?_
  | with_reducible refine r_B ?_
  | with_reducible refine r_blv ?_
  | with_reducible refine r_and ?_
  | with_reducible refine r_or ?_
  | with_reducible refine r_not ?_
  | with_reducible refine r_andV ?_
  | with_reducible refine r_orV ?_
  | with_reducible refine r_notV ?_
  | with_reducible refine r_ifE ?_
  | with_reducible refine r_ifS ?_
  | with_reducible refine r_ret ?_
  | with_reducible refine r_retN ?_
  | with_reducible refine r_drop ?_
  | with_reducible refine r_next ?_
  | with_reducible refine r_sl ?_
  | with_reducible refine r_gsub ?_
  | with_reducible refine r_bm ?_
  | with_reducible refine r_tup ?_
  | with_reducible refine r_lst ?_
  | with_reducible refine r_isN ?_
  | with_reducible refine r_notN ?_
  | with_reducible refine r_itt ?_
  | with_reducible refine r_iff ?_
  | with_reducible refine r_ittN ?_
  | with_reducible refine r_iffN ?_
  | ((with_reducible refine r_ittD ?rh ?_); (case rh => rfl))
  | ((with_reducible refine r_iffD ?rh ?_); (case rh => rfl))
  | ((with_reducible refine r_modP ?rh ?_); (case rh => decide))
  | ((with_reducible refine r_eq ?rh ?_); (case rh => rfl))
  | ((with_reducible refine r_ne ?rh ?_); (case rh => rfl)))
local macro_rules | `(tactic| walk_at "rd") => `(tactic| repeat walk_at "rd1")
local macro_rules | `(tactic| walk_at "isi") => `(tactic| first | refine r_isi (b := true) (by assumption) (by decide +kernel) ?_ | refine r_isi (b := false) (by assumption) (by decide +kernel) ?_)
local macro_rules | `(tactic| walk_at "rs1") => `(tactic| first
  | with_reducible refine r_seq ?_
  | with_reducible refine r_asg ?_
  | with_reducible refine r_gname ?_
  | with_reducible refine r_ret ?_)
local macro_rules | `(tactic| walk_at "rs") => `(tactic| repeat walk_at "rs1")

/-! ### what splicing gives -/
def ledC (l : List Nat) : Int → List Spl → List Nat
  | d, [] => l.drop d.toNat
  | d, (a, c, t) :: r => (l.drop d.toNat).take (a.toNat - d.toNat) ++ (cs t ++ ledC l (a + c) r)
def doneC (l : List Nat) : List Spl → List Nat
  | [] => l
  | (a, c, t) :: r => (doneC l r).take a.toNat ++ (cs t ++ (doneC l r).drop (a + c).toNat)
/-- the row is right from the floor d on -/
def Rt (n : Nat) : Int → List Spl → Prop
  | d, [] => 0 ≤ d ∧ d ≤ n
  | d, (a, c, _) :: r => 0 ≤ d ∧ d ≤ a ∧ 0 ≤ c ∧ a + c ≤ n ∧ Rt n (a + c) r
theorem Rt.le {n : Nat} {d : Int} {r : List Spl} (h : Rt n d r) : 0 ≤ d ∧ d ≤ n := by
  cases r with
  | nil => exact h
  | cons x r =>
    obtain ⟨a, c, t⟩ := x
    obtain ⟨h1, h2, h3, h4, _⟩ := h
    omega
theorem done_led {l : List Nat} : ∀ (r : List Spl) (d : Int), Rt l.length d r → doneC l r = l.take d.toNat ++ ledC l d r
  | [], d, h => (List.take_append_drop _ _).symm
  | (a, c, t) :: r, d, h => by
    obtain ⟨h1, h2, h3, h4, h5⟩ := h
    have ih := done_led r (a + c) h5
    show (doneC l r).take a.toNat ++ (cs t ++ (doneC l r).drop (a + c).toNat) = l.take d.toNat ++ ((l.drop d.toNat).take (a.toNat - d.toNat) ++ (cs t ++ ledC l (a + c) r))
    have e1 : (doneC l r).take a.toNat = l.take a.toNat := by
      rw [ih, List.take_append_of_le_length (by rw [List.length_take]; omega), List.take_take, Nat.min_eq_left (by omega)]
    have e2 : (doneC l r).drop (a + c).toNat = ledC l (a + c) r := by
      have e3 : (l.take (a + c).toNat).length = (a + c).toNat := by rw [List.length_take]; omega
      rw [ih]
      exact List.drop_left' e3
    have e4 : l.take d.toNat ++ (l.drop d.toNat).take (a.toNat - d.toNat) = l.take a.toNat := by
      have z := List.take_add (l := l) (i := d.toNat) (j := a.toNat - d.toNat)
      rw [show d.toNat + (a.toNat - d.toNat) = a.toNat by omega] at z
      exact z.symm
    rw [e1, e2, ← e4, List.append_assoc]
theorem done_led0 {l : List Nat} {r : List Spl} (h : Rt l.length 0 r) : doneC l r = ledC l 0 r := by
  rw [done_led r 0 h]
  rfl
theorem jd_rt {n : Nat} : ∀ (l : List (Option Spl)) (fl ed : Int) (k : Nat), (∀ a c t, some (a, c, t) ∈ l → 0 ≤ a ∧ 0 ≤ c) → 0 ≤ ed → ed ≤ n → jd n fl ed k l = none → ∃ rs : List Spl, l = rs.map some ∧ Rt n ed rs
  | [], fl, ed, k, _, h0, h1, _ => ⟨[], rfl, h0, h1⟩
  | none :: r, fl, ed, k, _, _, _, h => by cases h
  | some (a, c, t) :: r, fl, ed, k, hp, h0, h1, h => by
    obtain ⟨ha, hc⟩ := hp a c t (by simp)
    unfold jd at h
    split at h
    · cases h
    · rename_i hn
      obtain ⟨rs, e, hr⟩ := jd_rt r a (a + c) (k + 1) (fun a c t hm => hp a c t (List.mem_cons_of_mem _ hm)) (by omega) (by omega) h
      exact ⟨(a, c, t) :: rs, by rw [e]; rfl, h0, by omega, hc, by omega, hr⟩
theorem judge_rt {G : Hp} {n : Nat} {xs : List V} (h : judge n (sps G xs) = none) : ∃ rs : List Spl, sps G xs = rs.map some ∧ Rt n 0 rs := by
  unfold judge at h
  split at h
  · cases h
  · refine jd_rt _ _ _ _ (fun a c t hm => ?_) (by omega) (by omega) h
    obtain ⟨v, hv, e⟩ := List.mem_map.mp hm
    obtain ⟨p, _, _, h1, h2, _⟩ := sp3_shape e
    exact ⟨h1, h2⟩
theorem sps_at {G : Hp} {xs : List V} {rs : List Spl} (h : sps G xs = rs.map some) {i : Nat} {x : V} (hx : xs[i]? = some x) :
    ∃ (p : Addr) (a c : Int) (t : Str), x = .ref p ∧ rs[i]? = some (a, c, t) ∧ G p = some (.tup [.int a, .int c, .str t]) ∧ 0 ≤ a ∧ 0 ≤ c := by
  have h1 : (sps G xs)[i]? = some (sp3 G x) := by rw [List.getElem?_map, hx]; rfl
  rw [h, List.getElem?_map] at h1
  cases hr : rs[i]? with
  | none => rw [hr] at h1; cases h1
  | some r =>
    obtain ⟨a, c, t⟩ := r
    rw [hr] at h1
    have h2 : sp3 G x = some (a, c, t) := (Option.some.inj h1).symm
    obtain ⟨p, e, hg, h3, h4, _⟩ := sp3_shape h2
    exact ⟨p, a, c, t, e, rfl, hg, h3, h4⟩
theorem put_len {G : Hp} {xs : List V} (h : Rw G xs) {p : Addr} {a c : V} {t : Str} (hm : V.ref p ∈ xs) (hp : G p = some (.tup [a, c, .str t])) : t.length ≤ 8000 := by
  obtain ⟨_, h2⟩ := (h.thg _ hm).2 _ _ rfl hp
  obtain ⟨n, o⟩ := h2 (.str t) (by simp)
  cases o with
  | str z hz => exact hz
theorem led_drop {l : List Nat} {rs : List Spl} {i : Nat} {a c : Int} {t : Str} (d : Int) (h : rs[i]? = some (a, c, t)) :
    ledC l d (rs.drop i) = (l.drop d.toNat).take (a.toNat - d.toNat) ++ (cs t ++ ledC l (a + c) (rs.drop (i + 1))) := by
  obtain ⟨hi, e⟩ := List.getElem?_eq_some_iff.mp h
  rw [List.drop_eq_getElem_cons hi, e]
  rfl
theorem sum_le {B : Nat} : ∀ {ps : List Str}, (∀ y ∈ ps, y.length ≤ B) → (ps.map (·.length)).sum ≤ ps.length * B
  | [], _ => Nat.zero_le _
  | y :: r, h => by
    have ih := sum_le (ps := r) fun z hz => h z (List.mem_cons_of_mem _ hz)
    have h1 := h y (by simp)
    rw [List.map_cons, List.sum_cons, List.length_cons, Nat.add_mul]
    omega
/-- the parts so far -/
structure Pts (l : List Nat) (rs : List Spl) (ps : List Str) (i : Nat) (d : Int) : Prop where
  led : (ps.map cs).flatten ++ ledC l d (rs.drop i) = ledC l 0 rs
  len : ps.length = 2 * i
  each : ∀ y ∈ ps, y.length ≤ 8000
  d0 : 0 ≤ d
theorem Pts.next {l : List Nat} {rs : List Spl} {ps : List Str} {i : Nat} {d a c : Int} {t x : Str} (h : Pts l rs ps i d) (hr : rs[i]? = some (a, c, t)) (ha : 0 ≤ a) (hc : 0 ≤ c)
    (hx : cs x = (l.drop d.toNat).take (a.toNat - d.toNat)) (hxl : x.length ≤ 8000) (ht : t.length ≤ 8000) : Pts l rs (ps ++ [x, t]) (i + 1) (a + c) where
  led := by
    have z := h.led
    rw [led_drop d hr] at z
    rw [← z, List.map_append, List.flatten_append, List.append_assoc]
    simp [hx]
  len := by
    rw [List.length_append, h.len]
    simp
    omega
  each := fun y hy => by
    rcases List.mem_append.mp hy with h1 | h1
    · exact h.each y h1
    · rcases List.mem_cons.mp h1 with h2 | h2
      · rw [h2]
        exact hxl
      · rw [List.mem_singleton.mp h2]
        exact ht
  d0 := by omega
theorem Pts.last {l : List Nat} {rs : List Spl} {ps : List Str} {d : Int} {x : Str} (h : Pts l rs ps rs.length d) (hx : cs x = l.drop d.toNat) : cs (Txt.join "" (ps ++ [x])) = ledC l 0 rs := by
  have z := h.led
  rw [List.drop_length] at z
  rw [cs_join, List.map_append, List.flatten_append, ← z]
  simp [hx, ledC]
theorem cs_cutI (z : Str) {a b : Int} (ha : 0 ≤ a) (hb : 0 ≤ b) : cs (cutS z (some a) (some b)) = ((cs z).drop a.toNat).take (b.toNat - a.toNat) := by
  rw [int_nat ha, int_nat hb]
  exact cs_cut z _ _
theorem cs_fromI (z : Str) {a : Int} (ha : 0 ≤ a) : cs (cutS z (some a) none) = (cs z).drop a.toNat := by
  rw [int_nat ha]
  exact cs_from z _
theorem small8 {z : Str} (h : z.length ≤ 8000) : z.length ≤ sizeLine := Nat.le_trans h (by decide)
section
variable {P : Program} {w : World} {K : PySem.W.Frag} {mg : Str → Option Value} {base : Heap}
def spSpl (C : Addr) : Sp := fun vs H Q E => ∃ (z : Str) (a : Addr) (xs : List V), vs = [.str z, .ref a] ∧ z.length ≤ 8000 ∧ H a = some (.tup xs) ∧ Rw H xs ∧
  (∀ rs, sps H xs = rs.map some → judge z.length (sps H xs) = none → ∀ H' o, Ex H H' → cs o = ledC (cs z) 0 rs → Q (.str o) H') ∧
  ∀ k, judge z.length (sps H xs) = some k → ∀ H' d, Ex H H' → H d = none → H' d = some (xAt k) → E (.ref C) (some d) H'
theorem ok_spliced (T : Txt K mg) : FnOk P w K mg base (L2.CX P w) 5 T.a_spliced T.d_spliced ["text", "splices"] (spSpl T.c_BadSplice) := by
  refine T.F_spliced.okX sc_spliced (fun vs H Q E h => ?_) (fun cdv A outer s H vs Q E hr h => ?_)
  · obtain ⟨z, a, xs, rfl, _⟩ := h
    rfl
  · obtain ⟨z, a, xs, rfl, hz, ha, rw0, q, qE⟩ := h
    refine ⟨_, (pss_cons (ps_expr (pe_call (ok_check_round T) hr (by rfl) T.g_check_round T.F_check_round.kp T.b_check_round .nil (passes_call (takes_of rfl rfl rfl rfl) (fun _ _ _ _ h => h)) (pa_cons (pe_callB call_lenU (by rfl) T.n_len (by decide +kernel) (pa_cons (pv 0) pa_nil)) (pa_cons (pv 1) pa_nil))))
        (pss_cons (ps_set (i := 2) sc_spliced.nd rfl (Or.inl rfl) (pe_lst pa_nil))
        (pss_cons (ps_set (i := 3) sc_spliced.nd rfl (Or.inl rfl) pe_int)
        (pss_cons (ps_for (passes_of rfl) rfl (pi_tup (pv 1)) (pg_tup rfl (pgs_cons (pg_name (i := 4) sc_spliced.nd rfl (Or.inl rfl)) (pgs_cons (pg_name (i := 5) sc_spliced.nd rfl (Or.inl rfl)) (pgs_cons (pg_name (i := 6) sc_spliced.nd rfl (Or.inl rfl)) pgs_nil)))) (pss_cons (ps_expr (pe_bm PySem.F.plainAttrs_list PySem.F.slot_list_append PySem.F.type_list_append mt_append (pv 2) (pa_cons (pe_slice sl_U (pv 0) (po_some (pv 3)) (po_some (pv 4))) pa_nil)))
        (pss_cons (ps_expr (pe_bm PySem.F.plainAttrs_list PySem.F.slot_list_append PySem.F.type_list_append mt_append (pv 2) (pa_cons (pv 6) pa_nil)))
        (pss_one (ps_set (i := 3) sc_spliced.nd rfl (Or.inl rfl) (pe_op op_addU (pv 4) (pv 5)))))))
        (pss_cons (ps_expr (pe_bm PySem.F.plainAttrs_list PySem.F.slot_list_append PySem.F.type_list_append mt_append (pv 2) (pa_cons (pe_slice sl_U (pv 0) (po_some (pv 3)) po_none) pa_nil)))
        (pss_one (ps_ret (pe_join pe_str (pv 2))))))))), ?_⟩
    walk_at "rd"
    refine r_lenS (small8 hz) ?_
    walk_at "rd"
    refine ⟨_, a, xs, rfl, ha, rw0, fun hj H1 e1 => ?_, fun k hk H1 d e h1 h2 => qE k hk H1 d e h1 h2⟩
    obtain ⟨rs, hrs, hrt⟩ := judge_rt hj
    have hlen : xs.length = rs.length := by
      have z := congrArg List.length hrs
      simpa [sps] using z
    walk_at "rd"
    refine r_small (by decide) fun m hm => ?_
    walk_at "rd"
    have n0 : H m = none := e1.free hm
    refine r_forTv rfl (SqT.up (Same.new e1 hm) (sqT ha)) (fun i σ H' => ∃ y1 y2 y3 d ps, σ = [some (.str z), some (.ref a), some (.ref m), some (.int d), y1, y2, y3] ∧ Ex H H' ∧ H' m = some (.lst (ps.map V.str)) ∧ Pts (cs z) rs ps i d)
      ⟨none, none, none, 0, [], rfl, Same.new e1 hm, upd_same, ⟨rfl, rfl, fun _ h => by simp at h, by omega⟩⟩ (fun i σ H' h => ?_) (fun i x σ H' hx hP => ?_) (fun σ H' hP => ?_)
    · obtain ⟨_, _, _, _, _, _, e, _⟩ := h
      exact SqT.up e (sqT ha)
    · obtain ⟨y1, y2, y3, d, ps, rfl, e, hpm, hP⟩ := hP
      obtain ⟨p, b, c, t, rfl, hr, hp, hb, hc⟩ := sps_at hrs hx
      have ht := put_len rw0 (List.mem_of_getElem? hx) hp
      have hps : ps.length < 5000 := by
        have h1 := (List.getElem?_eq_some_iff.mp hx).1
        have h2 := rw0.len
        have h3 := hP.len
        omega
      refine r_gtup (SqT.up e (sqT hp)) rfl ?_
      walk_at "rd"
      refine r_tyL (sqL hpm) ?_
      walk_at "rd"
      refine r_slS (small8 hz) ?_
      walk_at "rd"
      refine r_app hpm (by rw [List.length_map]; exact Nat.lt_trans hps (by decide)) ?_
      walk_at "rd"
      refine r_tyL (sqL upd_same) ?_
      walk_at "rd"
      refine r_app upd_same (by rw [List.length_append, List.length_map]; exact Nat.lt_trans (show ps.length + 1 < 6000 by omega) (by decide)) ?_
      walk_at "rd"
      have hN := hP.next hr hb hc (x := cutS z (some d) (some b)) (cs_cutI z hP.d0 hb) (Nat.le_trans (cut_len _ _ _) hz) ht
      refine ⟨_, _, _, b + c, ps ++ [cutS z (some d) (some b), t], rfl, Same.mut (Same.mut e n0) n0, ?_, hN⟩
      rw [upd_same]
      simp
    · obtain ⟨y1, y2, y3, d, ps, rfl, e, hpm, hP⟩ := hP
      have hps : ps.length < 5000 := by
        have h2 := rw0.len
        have h3 := hP.len
        omega
      walk_at "rd"
      refine r_tyL (sqL hpm) ?_
      walk_at "rd"
      refine r_slS (small8 hz) ?_
      walk_at "rd"
      refine r_app hpm (by rw [List.length_map]; exact Nat.lt_trans hps (by decide)) ?_
      walk_at "rd"
      have e' : ps.map V.str ++ [.str (cutS z (some d) none)] = (ps ++ [cutS z (some d) none]).map V.str := by simp
      rw [e']
      have hsum := sum_le (B := 8000) (ps := ps ++ [cutS z (some d) none]) fun y hy => by
        rcases List.mem_append.mp hy with h1 | h1
        · exact hP.each y h1
        · rw [List.mem_singleton.mp h1]
          exact Nat.le_trans (cut_len _ _ _) hz
      rw [hlen] at hP
      refine ⟨⟨_, rfl⟩, _, rfl, "", m, ps ++ [cutS z (some d) none], rfl, rfl, .inl (sqL upd_same), ?_, q rs hrs hj _ _ (Same.mut e n0) (hP.last (cs_fromI z hP.d0))⟩
      have h3 := hP.len
      have h4 := rw0.len
      rw [List.length_append] at hsum
      have h5 : ("" : Str).length = 0 := rfl
      rw [h5, Nat.mul_zero, Nat.add_zero]
      refine Nat.le_trans hsum ?_
      have h6 : ps.length + [cutS z (some d) none].length ≤ 2001 := by
        simp
        omega
      refine Nat.le_trans (Nat.mul_le_mul_right _ h6) (by decide)
end
end K16
namespace K16
open PySem PySem.Spec PyProof.Rows L2 Dk
/-- one step of a reading -/
local macro_rules | `(tactic| walk_at "rd1") => `(tactic| first
  | ((with_reducible refine r_var (v := ?rv) ?rh ?_); (case rh => rfl))
  | with_reducible refine r_c ?_
  | with_reducible refine r_seq ?_
  | with_reducible refine r_asg ?_
  | with_reducible refine r_par ?_
  | with_reducible refine r_gname ?_
  | with_reducible refine r_op ?_
  | with_reducible refine r_forLo ?_
  | with_reducible refine r_forTo ?_
  | with_reducible refine r_forSo ?_
  | with_reducible refine r_forRo ?_
  | with_reducible refine r_forRvo ?_
  | with_reducible refine r_lcRo ?_
  | with_reducible refine r_lcLo ?_
  | with_reducible refine r_yes ?_
  | with_reducible refine r_callK0 ?_
  | with_reducible refine r_break ?_
  | with_reducible refine r_forR2o ?_
  | with_reducible refine r_forEo ?_
  | with_reducible refine r_forESo ?_
  | with_reducible refine r_xfo ?_
  | with_reducible refine r_noP ?_
  | with_reducible refine r_part ?_
  | with_reducible refine r_pI ?_
  | with_reducible refine r_gcons ?_
  | with_reducible refine r_gnil ?_
  | with_reducible refine r_mkO ?_
  | with_reducible refine r_un ?_
  | with_reducible refine r_addI ?_
  | with_reducible refine r_I0 ?_
  | with_reducible refine r_U ?_
  | with_reducible refine r_cons ?_
  | with_reducible refine r_nil ?_
  | with_reducible refine r_CB ?_
  | with_reducible refine r_call ?_
  | with_reducible refine r_callS ?_
  | with_reducible refine r_int ?_
  | with_reducible refine r_max ?_
  | with_reducible refine r_min ?_
  | with_reducible refine r_test ?_
  | with_reducible refine r_B ?_
  | with_reducible refine r_blv ?_
  | with_reducible refine r_and ?_
  | with_reducible refine r_or ?_
  | with_reducible refine r_not ?_
  | with_reducible refine r_andV ?_
  | with_reducible refine r_orV ?_
  | with_reducible refine r_notV ?_
  | with_reducible refine r_ifE ?_
  | with_reducible refine r_ifS ?_
  | with_reducible refine r_ret ?_
  | with_reducible refine r_retN ?_
  | with_reducible refine r_drop ?_
  | with_reducible refine r_next ?_
  | with_reducible refine r_sl ?_
  | with_reducible refine r_gsub ?_
  | with_reducible refine r_bm ?_
  | with_reducible refine r_tup ?_
  | with_reducible refine r_lst ?_
  | with_reducible refine r_isN ?_
  | with_reducible refine r_notN ?_
  | with_reducible refine r_itt ?_
  | with_reducible refine r_iff ?_
  | with_reducible refine r_ittN ?_
  | with_reducible refine r_iffN ?_
  | ((with_reducible refine r_ittD ?rh ?_); (case rh => rfl))
  | ((with_reducible refine r_iffD ?rh ?_); (case rh => rfl))
  | ((with_reducible refine r_modP ?rh ?_); (case rh => decide))
  | ((with_reducible refine r_eq ?rh ?_); (case rh => rfl))
  | ((with_reducible refine r_eqP ?rh ?_); (case rh => rfl))
  | ((with_reducible refine r_ne ?rh ?_); (case rh => rfl)))
local macro_rules | `(tactic| walk_at "rd") => `(tactic| repeat walk_at "rd1")
local macro_rules | `(tactic| walk_at "isi") => `(tactic| first | refine r_isi (b := true) (by assumption) (by decide +kernel) ?_ | refine r_isi (b := false) (by assumption) (by decide +kernel) ?_)
local macro_rules | `(tactic| walk_at "rs1") => `(tactic| first
  | with_reducible refine r_seq ?_
  | with_reducible refine r_asg ?_
  | with_reducible refine r_gname ?_
  | with_reducible refine r_ret ?_)
local macro_rules | `(tactic| walk_at "rs") => `(tactic| repeat walk_at "rs1")

/-! ### splices as data -/
abbrev Spc := Nat × Nat × Str
def SpcV (H : Hp) (v : V) (x : Spc) : Prop := ∃ q, v = .ref q ∧ H q = some (.tup [.int (x.1 : Nat), .int (x.2.1 : Nat), .str x.2.2])
instance : Imm SpcV := ⟨fun t h => h.imp fun p z => ⟨z.1, t _ _ z.2⟩⟩
def tri (x : Spc) : Mv.S3 := (x.1, x.2.1, x.2.2.length)
structure Gsp (x : Spc) : Prop where
  ne : 0 < x.2.1 ∨ x.2.2 ≠ ""
  tl : x.2.2.length ≤ 3
  tA : InAL x.2.2
structure Rnd (n m : Nat) (l : List Spc) : Prop where
  ne : l ≠ []
  len : l.length ≤ m
  rt : Mv.Rt n 0 (l.map tri)
  good : ∀ x ∈ l, Gsp x
theorem rt_snoc {n b c k : Nat} : ∀ {l : List Mv.S3} {lo : Nat}, Mv.Rt n lo l → (∀ s, l.getLast? = some s → s.1 + 1 ≤ b ∧ s.1 + s.2.1 ≤ b) → (l = [] → lo ≤ b) → b + c ≤ n → Mv.Rt n lo (l ++ [(b, c, k)])
  | [], lo, _, _, h0, hn => ⟨h0 rfl, hn, trivial⟩
  | (a, d, e) :: r, lo, h, hl, _, hn => by
    refine ⟨h.1, h.2.1, rt_snoc h.2.2 (fun s hs => hl s ?_) (fun hr => ?_) hn⟩
    · rw [List.getLast?_cons, hs]
      rfl
    · subst hr
      have := hl (a, d, e) rfl
      dsimp only at this
      omega
theorem stt_tk {a : Addr} {H H' : Hp} (s : Stt H a) (d : Dr a H H') : Tk H H' := fun p xs e => by
  obtain ⟨z, h, _⟩ := s
  exact d.hh p _ (fun q => by rw [q, h] at e; cases e) e
section
variable {P : Program} {w : World} {K : PySem.W.Frag} {mg : Str → Option Value} {base : Heap}
/-! ### the law's draws -/
theorem ok_law_start (T : Txt K mg) : FnOk P w K mg base CX0 1 T.a_law_start T.d_law_start ["_law_script"] (spStart K) := by
  refine T.F_law_start.ok sc_law_start (fun vs H Q E h => ?_) (fun cdv A outer s H vs Q E hr h => ?_)
  · obtain ⟨a, ns, rfl, _⟩ := h
    rfl
  · obtain ⟨a, ns, rfl, hS, q⟩ := h
    refine ⟨_, (pss_cons (ps_set (i := 1) sc_law_start.nd rfl (Or.inl rfl) pe_int)
        (pss_cons (ps_for PassesOwn.never rfl (pi_list (pv 0)) (pg_name (i := 2) sc_law_start.nd rfl (Or.inl rfl)) (pss_one (ps_set (i := 1) sc_law_start.nd rfl (Or.inl rfl) (pe_op op_modP (pe_op op_addU (pe_op op_addU (pe_op op_mulWW (pv 1) pe_int) (pe_op op_modP (pe_callTy call_intU (by rfl) T.n_int (by decide +kernel) (pa_cons (pv 2) pa_nil)) pe_int)) pe_int) pe_int))))
        (pss_one (ps_ret (pe_lst (pa_cons (pv 1) pa_nil)))))), ?_⟩
    walk_at "rd"
    refine l_L hS (fun i σ H' => ∃ z y, σ = [some (.ref a), some (.int z), y] ∧ 0 ≤ z ∧ z < M61 ∧ H' = H) ⟨_, none, rfl, by decide, by decide, rfl⟩ (fun i σ H' h => ?_) (fun i x σ H' hx hP => ?_) (fun σ H' hP => ?_)
    · obtain ⟨_, _, _, _, _, rfl⟩ := h
      exact hS
    · obtain ⟨z, y, rfl, h0, h1, rfl⟩ := hP
      obtain ⟨c, hc, rfl⟩ : ∃ c, ns[i]? = some c ∧ x = V.int c := by
        rw [List.getElem?_map] at hx
        cases e : ns[i]? with
        | none => rw [e] at hx; cases hx
        | some c => rw [e] at hx; exact ⟨c, rfl, (Option.some.inj hx).symm⟩
      walk_at "rd"
      refine r_mulW (wide_mul (a := 61) (b := 33) (nat61 h0 h1) (by decide) (by decide) (by decide) (by decide)) ?_
      walk_at "rd"
      exact ⟨_, _, rfl, (mix_next (z := z) _).1, (mix_next (z := z) _).2, rfl⟩
    · obtain ⟨z, y, rfl, h0, h1, rfl⟩ := hP
      walk_at "rd"
      exact r_small (Nat.le_of_ble_eq_true rfl) fun p hp => q p _ (Same.new (Same.refl _) hp) hp ⟨z, upd_same, h0, h1⟩
theorem ok_law_draw (T : Txt K mg) : FnOk P w K mg base CX0 1 T.a_law_draw T.d_law_draw ["_law_state", "_law_many"] spDraw := by
  refine T.F_law_draw.ok sc_law_draw (fun vs H Q E h => ?_) (fun cdv A outer s H vs Q E hr h => ?_)
  · obtain ⟨a, n, rfl, _⟩ := h
    rfl
  · obtain ⟨a, n, rfl, ⟨z, hz, z0, z1⟩, hn, q⟩ := h
    refine ⟨_, (pss_cons (ps_asg (pe_op op_modP (pe_op op_addU (pe_op op_mulWW (pe_callTy call_intU (by rfl) T.n_int (by decide +kernel) (pa_cons (pe_ix ix_seq (pv 0) pe_int (fun _ _ => rfl)) pa_nil)) pe_int) pe_int) pe_int) (pg_sub (pv 0) pe_int set_list))
        (pss_one (ps_ret (pe_op op_modP (pe_op op_divW (pe_callTy call_intU (by rfl) T.n_int (by decide +kernel) (pa_cons (pe_ix ix_seq (pv 0) pe_int (fun _ _ => rfl)) pa_nil)) pe_int) (pv 1))))), ?_⟩
    walk_at "rd"
    refine r_ixL (sqL hz) (atI_nat (j := 0) rfl) ?_
    walk_at "rd"
    refine r_mulW (wide_mul (a := 61) (b := 40) (nat61 z0 z1) (by decide) (by decide) (by decide) (by decide)) ?_
    walk_at "rd"
    refine r_setL hz (n := 0) rfl ?_
    walk_at "rd"
    refine r_ixL (sqL upd_same) (atI_nat (j := 0) rfl) ?_
    walk_at "rd"
    refine r_divW (wide_div (b := 19) (by decide) (by decide) (by decide) (by decide)) ?_
    walk_at "rd"
    refine r_modP hn ?_
    exact q _ _ (Int.emod_nonneg _ (by omega)) (Int.emod_lt_of_pos _ hn) (Dr.set (mix_next (z := z) _).1 (mix_next (z := z) _).2)
theorem len1 (c : Nat) : (⟨#[c]⟩ : Str).length = 1 := rfl
def W9 : Str := "ab\n (z\"Q7"
theorem w9_at {i : Int} (h0 : 0 ≤ i) (h : i < 9) : ∃ c, atI W9.cps.toList i = some c ∧ c ∈ cs AL := by
  have hl : (cs W9).length = 9 := by decide +kernel
  have hi : i.toNat < (cs W9).length := by omega
  have all : ∀ c ∈ cs W9, c ∈ cs AL := by decide +kernel
  exact ⟨(cs W9)[i.toNat], at_g (by omega) (List.getElem?_eq_getElem hi), all _ (List.getElem_mem _)⟩
theorem join_len {ps : List Str} (h : ∀ y ∈ ps, y.length = 1) : (Txt.join "" ps).length = ps.length := by
  rw [← cs_len, cs_join, List.length_flatten, List.map_map, ← sum_ones ps]
  congr 1
  exact List.map_congr_left fun y hy => by
    show (cs y).length = 1
    rw [cs_len]
    exact h y hy
theorem sum_len {ps : List Str} (h : ∀ y ∈ ps, y.length = 1) : (ps.map (·.length)).sum = ps.length := by
  rw [← sum_ones ps, List.map_congr_left h]
theorem join_al {ps : List Str} (h : ∀ y ∈ ps, InAL y) : InAL (Txt.join "" ps) := fun c hc => by
  rw [cs_join, List.mem_flatten] at hc
  obtain ⟨l, hl, hcl⟩ := hc
  obtain ⟨y, hy, rfl⟩ := List.mem_map.mp hl
  exact h y hy c hcl
theorem ok_law_word (T : Txt K mg) : FnOk P w K mg base CX0 2 T.a_law_word T.d_law_word ["_law_state", "_law_size"] spText := by
  refine T.F_law_word.ok sc_law_word (fun vs H Q E h => ?_) (fun cdv A outer s H vs Q E hr h => ?_)
  · obtain ⟨a, n, rfl, _⟩ := h
    rfl
  · obtain ⟨a, n, rfl, hs, n0, n1, q⟩ := h
    refine ⟨_, (pss_cons (ps_set (i := 2) sc_law_word.nd rfl (Or.inr rfl) pe_str)
        (pss_one (ps_ret (pe_join pe_str (pe_lc (own := [("_law_k", 3)]) (g := gName 3) rfl sc_law_word.nd (pi_range1 (by rfl) T.n_range (pa_cons (pv 1) pa_nil)) (blkOk_by (N := N_law_word) (sc := defScope s_law_word) (by decide +kernel)) (fun _ _ _ _ _ => pg_name (i := 3) sc_law_word.nd rfl (Or.inl rfl)) (fun _ _ _ _ _ => pts_nil) (fun _ _ _ _ _ => (pe_ix (k_ix (K := K) rfl) (pv 2) (pe_call (ok_law_draw T) hr (by rfl) T.g_law_draw T.F_law_draw.kp T.b_law_draw .nil pass0 (pa_cons (pv 0) (pa_cons pe_int pa_nil))) (fun _ _ => rfl)))))))), ?_⟩
    walk_at "rd"
    refine ⟨⟨_, rfl⟩, ?_⟩
    walk_at "rd"
    refine l_lcR (by omega) (by omega) (fun f i H' => ∃ ps : List Str, Dr a H H' ∧ H' f = some (.lst (ps.map V.str)) ∧ ps.length = i ∧ (∀ y ∈ ps, y.length = 1) ∧ ∀ y ∈ ps, InAL y) (fun f hf => ⟨[], (Dr.refl hs).new hf, upd_same, rfl, by simp, by simp⟩) (fun f i H' hf hi hP => ?_) (fun f H' hf hP => ?_)
    · obtain ⟨ps, D, gf, hl, h1, hA⟩ := hP
      have hfa : f ≠ a := hs.ne hf
      walk_at "rd"
      refine ⟨rfl, ?_⟩
      walk_at "rd"
      refine ⟨a, 9, rfl, D.st, by decide, fun d H2 d0 d1 D2 => ?_⟩
      walk_at "rd"
      obtain ⟨c, hc, hcA⟩ := w9_at d0 d1
      refine r_ixS (z := W9) (by decide) hc ?_
      refine ⟨ps.map V.str, D2.hh _ _ hfa gf, by rw [List.length_map]; exact Nat.lt_of_le_of_lt (show ps.length ≤ 8000 by omega) (by decide), ps ++ [⟨#[c]⟩], (D.trans D2).mut hf hfa, by rw [upd_same, List.map_append]; rfl, by rw [List.length_append, hl]; rfl, fun y hy => ?_, fun y hy => ?_⟩
      · rcases List.mem_append.mp hy with h | h
        · exact h1 y h
        · rw [List.mem_singleton.mp h]; rfl
      · rcases List.mem_append.mp hy with h | h
        · exact hA y h
        · rw [List.mem_singleton.mp h]
          intro e he
          have z : e = c := by simpa [cs] using he
          rw [z]
          exact hcA
    · obtain ⟨ps, D, gf, hl, h1, hA⟩ := hP
      refine ⟨"", f, ps, rfl, rfl, .inl (sqL gf), ?_, q _ H' D ?_ (join_al hA)⟩
      · rw [sum_len h1]
        have e0 : ("" : Str).length = 0 := rfl
        rw [e0]
        omega
      · rw [join_len h1, hl]
        omega
def spRound : Sp := fun vs H Q _ => ∃ (a : Addr) (n m gp : Nat), vs = [.ref a, .int (n : Nat), .int (m : Nat), .int (gp : Nat)] ∧ Stt H a ∧ n ≤ 4000 ∧ 1 ≤ m ∧ m ≤ 200 ∧ 1 ≤ gp ∧
  ∀ p H' xs l, Dr a H H' → H p = none → H' p = some (.lst xs) → P2 (SpcV H') xs l → Rnd n m l → Q (.ref p) H'
theorem ok_law_round (T : Txt K mg) : FnOk P w K mg base CX0 3 T.a_law_round T.d_law_round ["_law_state", "_law_size", "_law_most", "_law_gap"] spRound := by
  refine T.F_law_round.ok sc_law_round (fun vs H Q E h => ?_) (fun cdv A outer s H vs Q E hr h => ?_)
  · obtain ⟨a, n, m, gp, rfl, _⟩ := h
    rfl
  · obtain ⟨a, n, mo, gp, rfl, st, n1, m0, m1, gp1, q⟩ := h
    refine ⟨_, (pss_cons (ps_set (i := 4) sc_law_round.nd rfl (Or.inl rfl) (pe_lst pa_nil))
        (pss_cons (ps_set (i := 5) sc_law_round.nd rfl (Or.inl rfl) (pe_call (ok_law_draw T) (hr.mono (by decide)) (by rfl) T.g_law_draw T.F_law_draw.kp T.b_law_draw .nil pass0 (pa_cons (pv 0) (pa_cons (pe_callB (call_minU rfl) (by rfl) T.n_min (by decide +kernel) (pa_cons pe_int (pa_cons (pe_op op_addU (pv 1) pe_int) pa_nil))) pa_nil))))
        (pss_cons (ps_while PassesOwn.never (PW.pt (pw_and (pt_cmpR op_le (pv 5) (pv 1) (nomark _)) (pw_and1 (pt_cmpR op_lt (pe_callB call_lenU (by rfl) T.n_len (by decide +kernel) (pa_cons (pv 4) pa_nil)) (pv 2) (nomark _))))) (pss_cons (ps_set (i := 6) sc_law_round.nd rfl (Or.inl rfl) (pe_callB (call_minU rfl) (by rfl) T.n_min (by decide +kernel) (pa_cons (pe_call (ok_law_draw T) (hr.mono (by decide)) (by rfl) T.g_law_draw T.F_law_draw.kp T.b_law_draw .nil pass0 (pa_cons (pv 0) (pa_cons pe_int pa_nil))) (pa_cons (pe_op op_sub (pv 1) (pv 5)) pa_nil))))
        (pss_cons (ps_set (i := 7) sc_law_round.nd rfl (Or.inl rfl) (pe_call (ok_law_word T) hr (by rfl) T.g_law_word T.F_law_word.kp T.b_law_word .nil pass0 (pa_cons (pv 0) (pa_cons (pe_callB (call_maxU rfl) (by rfl) T.n_max (by decide +kernel) (pa_cons pe_int (pa_cons (pe_op op_sub (pe_call (ok_law_draw T) (hr.mono (by decide)) (by rfl) T.g_law_draw T.F_law_draw.kp T.b_law_draw .nil pass0 (pa_cons (pv 0) (pa_cons pe_int pa_nil))) pe_int) pa_nil))) pa_nil))))
        (Evl.pss_cut (ps_if (PW.pt (pw_and (pt_cmpR (op_eqU hr.units) (pv 6) pe_int (nomark _)) (pw_and1 (pt_cmpR (op_eqU hr.units) (pv 7) pe_str (nomark _))))) (pss_one (ps_set (i := 7) sc_law_round.nd rfl (Or.inl rfl) pe_str)) pss_nil)
        (pss_cons (ps_expr (pe_bm PySem.F.plainAttrs_list PySem.F.slot_list_append PySem.F.type_list_append mt_append (pv 4) (pa_cons (pe_tup (pa_cons (pv 5) (pa_cons (pv 6) (pa_cons (pv 7) pa_nil)))) pa_nil)))
        (pss_one (ps_set (i := 5) sc_law_round.nd rfl (Or.inl rfl) (pe_callB (call_maxU rfl) (by rfl) T.n_max (by decide +kernel) (pa_cons (pe_op op_addU (pv 5) pe_int) (pa_cons (pe_op op_addU (pe_op op_addU (pv 5) (pv 6)) (pe_callB (call_maxU rfl) (by rfl) T.n_max (by decide +kernel) (pa_cons pe_int (pa_cons (pe_op op_sub (pe_call (ok_law_draw T) (hr.mono (by decide)) (by rfl) T.g_law_draw T.F_law_draw.kp T.b_law_draw .nil pass0 (pa_cons (pv 0) (pa_cons (pv 3) pa_nil))) pe_int) pa_nil)))) pa_nil))))))))))
        (pss_one (ps_ret (pv 4)))))), ?_⟩
    walk_at "rd"
    refine r_small nsz fun p hp => ?_
    have hpa : p ≠ a := st.ne hp
    have D0 := (Dr.refl st).new (o := .lst []) hp
    walk_at "rd"
    refine ⟨a, min 3 (n + 1), rfl, D0.st, by omega, fun b H1 b0 b1 D1 => ?_⟩
    obtain ⟨b, rfl⟩ : ∃ z : Nat, b = (z : Nat) := ⟨b.toNat, by omega⟩
    walk_at "rd"
    refine ⟨fun m σ H' => ∃ (y1 y2 : Option V) (b : Nat) (xs : List V) (l : List Spc), σ = [some (.ref a), some (.int (n : Nat)), some (.int (mo : Nat)), some (.int (gp : Nat)), some (.ref p), some (.int (b : Nat)), y1, y2] ∧ Dr a H H' ∧ H' p = some (.lst xs) ∧ P2 (SpcV H') xs l ∧ Mv.Rt n 0 (l.map tri) ∧
      (∀ s, (l.map tri).getLast? = some s → s.1 + 1 ≤ b ∧ s.1 + s.2.1 ≤ b) ∧ (∀ x ∈ l, Gsp x) ∧ (l = [] → b ≤ n) ∧ m = n + 1 - b ∧ l.length ≤ mo, ⟨_, none, none, b, [], [], rfl, D0.trans D1, D1.hh _ _ hpa upd_same, .nil, trivial, fun s hs => by simp at hs, fun x hx => by simp at hx, fun _ => by omega, rfl, by simp⟩, fun m σ H' hW => ?_⟩
    obtain ⟨y1, y2, b, xs, l, rfl, D, hpx, hP, rt, hl, good, hb, rfl, ll⟩ := hW
    have fin : l ≠ [] → Q (.ref p) H' := fun hne => q p H' xs l D hp hpx hP ⟨hne, ll, rt, good⟩
    have hlen := hP.len
    walk_at "rd"
    refine r_ite (fun h1 => ?_) (fun h1 => ?_)
    · walk_at "rd"
      refine r_lenL (sqL hpx) ?_
      walk_at "rd"
      refine r_ite (fun h2 => ?_) (fun h2 => ?_)
      · refine ⟨_, fun _ _ h => h, ?_⟩
        walk_at "rd"
        refine ⟨a, 4, rfl, D.st, by decide, fun d1 H2 d0 d4 D2 => ?_⟩
        obtain ⟨d1, rfl⟩ : ∃ z : Nat, d1 = (z : Nat) := ⟨d1.toNat, by omega⟩
        walk_at "rd"
        have ec : min (d1 : Int) ((n : Int) - b) = ((min d1 (n - b) : Nat) : Int) := by omega
        rw [ec]
        refine ⟨a, 5, rfl, D2.st, by decide, fun d2 H3 e0 e4 D3 => ?_⟩
        walk_at "rd"
        refine ⟨a, max 0 (d2 - 1), rfl, D3.st, by omega, by omega, fun o H4 D4 ho hA => ?_⟩
        have D24 := (D2.trans D3).trans D4
        have t4 := stt_tk D.st D24
        walk_at "rd"
        refine ⟨fun σ H' => ∃ u : Str, σ = [some (.ref a), some (.int (n : Nat)), some (.int (mo : Nat)), some (.int (gp : Nat)), some (.ref p), some (.int (b : Nat)), some (.int ((min d1 (n - b) : Nat) : Int)), some (.str u)] ∧ H4 = H' ∧ u.length ≤ 3 ∧ InAL u ∧ (0 < min d1 (n - b) ∨ u ≠ ""), ?_, ?_⟩
        · walk_at "rd"
          refine r_ite (fun hc => ?_) (fun hc => ?_)
          · walk_at "rd"
            refine r_ite (fun hu => ?_) (fun hu => ?_)
            · walk_at "rd"
              exact ⟨_, rfl, rfl, by decide, by unfold InAL; decide +kernel, .inr (by decide)⟩
            · walk_at "rd"
              exact ⟨o, rfl, rfl, by omega, hA, .inr fun z => hu (by rw [z])⟩
          · walk_at "rd"
            exact ⟨o, rfl, rfl, by omega, hA, .inl (Nat.pos_of_ne_zero fun z => hc (by rw [z]; rfl))⟩
        rintro σ _ ⟨u, rfl, rfl, ul, uA, hne⟩
        have hp4 := D24.hh _ _ hpa hpx
        walk_at "rd"
        refine r_tyL (sqL hp4) ?_
        walk_at "rd"
        refine r_small nsz fun q2 hq => ?_
        have t5 := t4.trans (Tk.new (o := .tup [.int (b : Nat), .int ((min d1 (n - b) : Nat) : Int), .str u]) hq)
        have hp5 : (upd H4 q2 (.tup [.int (b : Nat), .int ((min d1 (n - b) : Nat) : Int), .str u])) p = some (.lst xs) := by
          rw [upd_ne (ne_of_none hp4 hq)]
          exact hp4
        have D5 := (D.trans D24).new (o := .tup [.int (b : Nat), .int ((min d1 (n - b) : Nat) : Int), .str u]) hq
        walk_at "rd"
        refine r_app hp5 (Nat.lt_of_le_of_lt (show xs.length ≤ 300 by omega) (by decide)) ?_
        walk_at "rd"
        have t6 := t5.trans (Tk.put (o := .lst (xs ++ [.ref q2])) hp5)
        have D6 := D5.mut (o := .lst (xs ++ [.ref q2])) hp hpa
        refine ⟨a, gp, rfl, D6.st, by omega, fun d5 H6 f0 f4 D7 => ?_⟩
        obtain ⟨d5, rfl⟩ : ∃ z : Nat, d5 = (z : Nat) := ⟨d5.toNat, by omega⟩
        walk_at "rd"
        have t7 := t6.trans (stt_tk D6.st D7)
        have eb : max ((b : Int) + 1) ((b : Int) + ((min d1 (n - b) : Nat) : Int) + max 0 ((d5 : Int) - 1)) = ((max (b + 1) (b + min d1 (n - b) + (d5 - 1)) : Nat) : Int) := by omega
        rw [eb]
        refine ⟨n + 1 - max (b + 1) (b + min d1 (n - b) + (d5 - 1)), by omega, _, _, _, xs ++ [.ref q2], l ++ [(b, min d1 (n - b), u)], rfl, D6.trans D7, D7.hh _ _ hpa upd_same, (p2_imm t7 hP).snoc ⟨q2, rfl, D7.hh _ _ ?_ ?_⟩, ?_, ?_, ?_, fun z => by simp at z, rfl, by rw [List.length_append]; simp; omega⟩
        · exact (D.trans D24).st.ne hq
        · rw [upd_ne (ne_of_none hp4 hq).symm, upd_same]
        · rw [List.map_append]
          exact rt_snoc rt hl (fun _ => Nat.zero_le _) (by show b + min d1 (n - b) ≤ n; omega)
        · intro s hs
          rw [List.map_append, List.map_singleton, List.getLast?_concat] at hs
          rw [← Option.some.inj hs]
          show b + 1 ≤ _ ∧ b + min d1 (n - b) ≤ _
          omega
        · intro x hx
          rcases List.mem_append.mp hx with h | h
          · exact good x h
          · rw [List.mem_singleton.mp h]
            exact ⟨hne, ul, uA⟩
      · walk_at "rd"
        exact fin fun z => h2 (by rw [hlen, z]; simp; omega)
    · walk_at "rd"
      exact fin fun z => h1 (by have := hb z; omega)
end
end K16
namespace K16
open PySem PySem.Spec PyProof.Rows L2 Dk
/-- one step of a reading -/
local macro_rules | `(tactic| walk_at "rd1") => `(tactic| first
  | ((with_reducible refine r_var (v := ?rv) ?rh ?_); (case rh => rfl))
  | with_reducible refine r_c ?_
  | with_reducible refine r_seq ?_
  | with_reducible refine r_asg ?_
  | with_reducible refine r_par ?_
  | with_reducible refine r_gname ?_
  | with_reducible refine r_op ?_
  | with_reducible refine r_forLo ?_
  | with_reducible refine r_forTo ?_
  | with_reducible refine r_forSo ?_
  | with_reducible refine r_forRo ?_
  | with_reducible refine r_forRvo ?_
  | with_reducible refine r_lcRo ?_
  | with_reducible refine r_lcLo ?_
  | with_reducible refine r_yes ?_
  | with_reducible refine r_callK0 ?_
  | with_reducible refine r_break ?_
  | with_reducible refine r_forR2o ?_
  | with_reducible refine r_forEo ?_
  | with_reducible refine r_forESo ?_
  | with_reducible refine r_xfo ?_
  | with_reducible refine r_noP ?_
  | with_reducible refine r_part ?_
  | with_reducible refine r_pI ?_
  | with_reducible refine r_gcons ?_
  | with_reducible refine r_gnil ?_
  | with_reducible refine r_mkO ?_
  | with_reducible refine r_un ?_
  | with_reducible refine r_addI ?_
  | with_reducible refine r_I0 ?_
  | with_reducible refine r_U ?_
  | with_reducible refine r_cons ?_
  | with_reducible refine r_nil ?_
  | with_reducible refine r_CB ?_
  | with_reducible refine r_call ?_
  | with_reducible refine r_callS ?_
  | with_reducible refine r_int ?_
  | with_reducible refine r_max ?_
  | with_reducible refine r_min ?_
  | with_reducible refine r_test ?_
  | with_reducible refine r_B ?_
  | with_reducible refine r_blv ?_
  | with_reducible refine r_and ?_
  | with_reducible refine r_or ?_
  | with_reducible refine r_not ?_
  | with_reducible refine r_andV ?_
  | with_reducible refine r_orV ?_
  | with_reducible refine r_notV ?_
  | with_reducible refine r_ifE ?_
  | with_reducible refine r_ifS ?_
  | with_reducible refine r_ret ?_
  | with_reducible refine r_retN ?_
  | with_reducible refine r_drop ?_
  | with_reducible refine r_next ?_
  | with_reducible refine r_sl ?_
  | with_reducible refine r_gsub ?_
  | with_reducible refine r_bm ?_
  | with_reducible refine r_tup ?_
  | with_reducible refine r_lst ?_
  | with_reducible refine r_isN ?_
  | with_reducible refine r_notN ?_
  | with_reducible refine r_itt ?_
  | with_reducible refine r_iff ?_
  | with_reducible refine r_ittN ?_
  | with_reducible refine r_iffN ?_
  | ((with_reducible refine r_ittD ?rh ?_); (case rh => rfl))
  | ((with_reducible refine r_iffD ?rh ?_); (case rh => rfl))
  | ((with_reducible refine r_modP ?rh ?_); (case rh => decide))
  | ((with_reducible refine r_eq ?rh ?_); (case rh => rfl))
  | ((with_reducible refine r_eqP ?rh ?_); (case rh => rfl))
  | ((with_reducible refine r_ne ?rh ?_); (case rh => rfl)))
local macro_rules | `(tactic| walk_at "rd") => `(tactic| repeat walk_at "rd1")
local macro_rules | `(tactic| walk_at "isi") => `(tactic| first | refine r_isi (b := true) (by assumption) (by decide +kernel) ?_ | refine r_isi (b := false) (by assumption) (by decide +kernel) ?_)
local macro_rules | `(tactic| walk_at "rs1") => `(tactic| first
  | with_reducible refine r_seq ?_
  | with_reducible refine r_asg ?_
  | with_reducible refine r_gname ?_
  | with_reducible refine r_ret ?_)
local macro_rules | `(tactic| walk_at "rs") => `(tactic| repeat walk_at "rs1")

section
variable {P : Program} {w : World} {K : PySem.W.Frag} {mg : Str → Option Value} {base : Heap}
open Tl (Sg)
/-! ### births as pairs -/
def BirL (H : Hp) (fb : Addr) (L R : Nat → Sg) (n : Nat) : Prop := ∃ bs, H fb = some (.lst bs) ∧ bs.length = n ∧ ∀ c v, bs[c]? = some v → SpV H v (L c, R c)
theorem BirL.mono {H H' : Hp} {fb : Addr} {L R : Nat → Sg} {n : Nat} (h : BirL H fb L R n) (t : Tk H H') (e : ∀ o, H fb = some o → H' fb = some o) : BirL H' fb L R n := by
  obtain ⟨bs, h1, h2, h3⟩ := h
  exact ⟨bs, e _ h1, h2, fun c v hv => imm t (h3 c v hv)⟩
theorem BirL.ex {H H' : Hp} {fb : Addr} {L R : Nat → Sg} {n : Nat} (h : BirL H fb L R n) (e : Ex H H') : BirL H' fb L R n := h.mono (.ex e) fun o => e _ o
theorem BirL.at {H : Hp} {fb : Addr} {L R : Nat → Sg} {n c : Nat} (h : BirL H fb L R n) (hc : c < n) : ∃ bs v, H fb = some (.lst bs) ∧ bs.length = n ∧ bs[c]? = some v ∧ SpV H v (L c, R c) := by
  obtain ⟨bs, h1, h2, h3⟩ := h
  exact ⟨bs, _, h1, h2, List.getElem?_eq_getElem (by omega), h3 c _ (List.getElem?_eq_getElem (by omega))⟩
def spAhead (d : Nat) : Sp := fun vs H Q _ => ∃ (fb : Addr) (v u : V) (L R : Nat → Sg) (n : Nat) (x y : Sg), vs = [.ref fb, v, u] ∧ BirL H fb L R n ∧ SgV H v x ∧ SgV H u y ∧ Tl.Bs L R n ∧ x.1 < n ∧ y.1 < n ∧ x.1 + y.1 < d ∧
  ∀ c, (c = true ↔ Tl.A L R x y) → Q (.bl c) H
theorem ok_ahead (T : Txt K mg) : ∀ d, FnOk P w K mg base CX0 d T.a_law_ahead T.d_law_ahead ["_law_births", "_law_one", "_law_other"] (spAhead d) := by
  intro d
  induction d with
  | zero => exact ⟨fun vs H Q E h => by
      obtain ⟨_, _, _, _, _, _, _, _, _, _, _, _, _, _, _, h, _⟩ := h
      exact absurd h (Nat.not_lt_zero _), fun A outer s H args us vs Q E _ _ _ _ h => by
      obtain ⟨_, _, _, _, _, _, _, _, _, _, _, _, _, _, _, h, _⟩ := h
      exact absurd h (Nat.not_lt_zero _)⟩
  | succ d ih =>
    have ok_law_ahead : Txt K mg → FnOk P w K mg base CX0 d T.a_law_ahead T.d_law_ahead ["_law_births", "_law_one", "_law_other"] (spAhead d) := fun _ => ih
    refine T.F_law_ahead.ok sc_law_ahead (fun vs H Q E h => ?_) (fun cdv A outer s H vs Q E hr h => ?_)
    · obtain ⟨fb, v, u, L, R, n, x, y, rfl, _⟩ := h
      rfl
    · obtain ⟨fb, v, u, L, R, n, x, y, rfl, hb, hv, hu, bs, hx, hy, hd, q⟩ := h
      have hr1 := hr
      refine ⟨_, (pss_cons (ps_if (pt_cmpR (op_eqU hr.units) (pe_ix ix_seq (pv 1) pe_int (fun _ _ => rfl)) (pe_ix ix_seq (pv 2) pe_int (fun _ _ => rfl)) (nomark _)) (pss_one (ps_ret (pe_cmpR op_lt (pe_ix ix_seq (pv 1) pe_int (fun _ _ => rfl)) (pe_ix ix_seq (pv 2) pe_int (fun _ _ => rfl)) (nomark _)))) pss_nil)
        (pss_cons (ps_if (pt_cmpR op_lt (pe_ix ix_seq (pv 1) pe_int (fun _ _ => rfl)) (pe_ix ix_seq (pv 2) pe_int (fun _ _ => rfl)) (nomark _)) (pss_cons (ps_set (i := 3) sc_law_ahead.nd rfl (Or.inl rfl) (pe_ix ix_seq (pe_ix ix_seq (pv 0) (pe_ix ix_seq (pv 2) pe_int (fun _ _ => rfl)) (fun _ _ => rfl)) pe_int (fun _ _ => rfl)))
        (pss_one (ps_ret (pe_or (pe_cmpR (op_eqU hr.units) (pv 1) (pv 3) (nomark _)) (pe_one (pe_call (ok_law_ahead T) hr1 (by rfl) T.g_law_ahead T.F_law_ahead.kp T.b_law_ahead .nil pass0 (pa_cons (pv 0) (pa_cons (pv 1) (pa_cons (pv 3) pa_nil))))))))) pss_nil)
        (pss_cons (ps_set (i := 4) sc_law_ahead.nd rfl (Or.inl rfl) (pe_ix ix_seq (pe_ix ix_seq (pv 0) (pe_ix ix_seq (pv 1) pe_int (fun _ _ => rfl)) (fun _ _ => rfl)) pe_int (fun _ _ => rfl)))
        (pss_one (ps_ret (pe_or (pe_cmpR (op_eqU hr.units) (pv 2) (pv 4) (nomark _)) (pe_one (pe_call (ok_law_ahead T) hr1 (by rfl) T.g_law_ahead T.F_law_ahead.kp T.b_law_ahead .nil pass0 (pa_cons (pv 0) (pa_cons (pv 4) (pa_cons (pv 2) pa_nil))))))))))), ?_⟩
      walk_at "rd"
      refine r_ixS0 hv ?_
      walk_at "rd"
      refine r_ixS0 hu ?_
      walk_at "rd"
      refine r_ite (fun he => ?_) (fun hne => ?_)
      · have he' : x.1 = y.1 := Int.ofNat.inj (V.int.inj he)
        walk_at "rd"
        refine r_ixS1 hv ?_
        walk_at "rd"
        refine r_ixS1 hu ?_
        walk_at "rd"
        refine q _ ?_
        rw [decide_eq_true_iff, Tl.A.same_iff he']
        omega
      · have hne' : x.1 ≠ y.1 := fun z => hne (by rw [z])
        walk_at "rd"
        refine r_ixS0 hv ?_
        walk_at "rd"
        refine r_ixS0 hu ?_
        walk_at "rd"
        refine r_ite (fun hlt => ?_) (fun hlt => ?_)
        · have hlt' : x.1 < y.1 := by omega
          obtain ⟨bl, b, hbl, _, hbb, sb⟩ := hb.at hy
          walk_at "rd"
          refine r_ixS0 hu ?_
          walk_at "rd"
          refine r_ixL (sqL hbl) (atI_nat hbb) ?_
          walk_at "rd"
          refine r_ixP0 sb fun l hl => ?_
          walk_at "rd"
          refine r_eqSg hv hl ?_
          walk_at "rd"
          refine r_ite (fun e1 => ?_) (fun e1 => ?_)
          · exact q _ ⟨fun _ => (Tl.A.l_iff hlt').mpr (.inl e1), fun _ => rfl⟩
          · walk_at "rd"
            refine ⟨fb, v, l, L, R, n, x, L y.1, rfl, hb, hv, hl, bs, hx, Nat.lt_trans (bs.l _ (by omega) hy) hy, by have := bs.l y.1 (by omega) hy; omega, fun c hc => q c ?_⟩
            rw [hc, Tl.A.l_iff hlt']
            exact ⟨.inr, fun z => z.resolve_left e1⟩
        · have hlt' : y.1 < x.1 := by omega
          obtain ⟨bl, b, hbl, _, hbb, sb⟩ := hb.at hx
          walk_at "rd"
          refine r_ixS0 hv ?_
          walk_at "rd"
          refine r_ixL (sqL hbl) (atI_nat hbb) ?_
          walk_at "rd"
          refine r_ixP1 sb fun l hl => ?_
          walk_at "rd"
          refine r_eqSg hu hl ?_
          walk_at "rd"
          refine r_ite (fun e1 => ?_) (fun e1 => ?_)
          · exact q _ ⟨fun _ => (Tl.A.r_iff hlt').mpr (.inl e1.symm), fun _ => rfl⟩
          · walk_at "rd"
            refine ⟨fb, l, u, L, R, n, R x.1, y, rfl, hb, hl, hu, bs, Nat.lt_trans (bs.r _ (by omega) hx) hx, hy, by have := bs.r x.1 (by omega) hx; omega, fun c hc => q c ?_⟩
            rw [hc, Tl.A.r_iff hlt']
            exact ⟨.inr, fun z => z.resolve_left fun e => e1 e.symm⟩
theorem ok_law_ahead (T : Txt K mg) : FnOk P w K mg base CX0 30 T.a_law_ahead T.d_law_ahead ["_law_births", "_law_one", "_law_other"] (spAhead 30) := ok_ahead T 30
theorem cnt_take {α : Type} {f : α → Bool} {l : List α} {i : Nat} {x : α} (h : l[i]? = some x) : Mv.cnt f (l.take (i + 1)) = Mv.cnt f (l.take i) + if f x then 1 else 0 := by
  rw [List.take_add_one, h, Mv.cnt_app]
  unfold Mv.cnt
  cases e : f x <;> simp [e]
def spPlace : Sp := fun vs H Q _ => ∃ (fb p : Addr) (v : V) (L R : Nat → Sg) (n side : Nat) (xs : List V) (row : List Sg) (s : Sg), vs = [.ref fb, .ref p, v, .int (side : Nat)] ∧ BirL H fb L R n ∧ H p = some (.lst xs) ∧ P2 (SgV H) xs row ∧ SgV H v s ∧ Tl.Bs L R n ∧
  (∀ u ∈ row, u.1 < n) ∧ s.1 < n ∧ n ≤ 15 ∧ row.length ≤ 1000 ∧ side ≤ 1 ∧ ∀ H', Ex H H' → Q (.int (Mv.plc L R row s side : Nat)) H'
open Classical in
theorem ok_law_place (T : Txt K mg) : FnOk P w K mg base CX0 31 T.a_law_place T.d_law_place ["_law_births", "_law_row", "_law_sign", "_law_side"] spPlace := by
  refine T.F_law_place.ok sc_law_place (fun vs H Q E h => ?_) (fun cdv A outer s H vs Q E hr h => ?_)
  · obtain ⟨fb, p, v, L, R, n, side, xs, row, s, rfl, _⟩ := h
    rfl
  · obtain ⟨fb, p, v, L, R, n, side, xs, row, s, rfl, hb, hp, hP, hv, bs, hrow, hs, hn, hl, side1, q⟩ := h
    refine ⟨_, (pss_cons (ps_if (pt_cmpR (op_eqU hr.units) (pv 3) pe_int (nomark _)) (pss_one (ps_ret (pe_callB call_lenU (by rfl) T.n_len (by decide +kernel) (pa_cons (pe_lc (own := [("_law_x", 4)]) (g := gName 4) rfl sc_law_place.nd (pi_list (pv 1)) (blkOk_by (N := N_law_place) (sc := defScope s_law_place) (by decide +kernel)) (fun _ _ _ _ _ => pg_name (i := 4) sc_law_place.nd rfl (Or.inl rfl)) (fun _ _ _ _ _ => (pts_one (PW.pt (pw_or (pt_cmpR (k_eqU (K := K) rfl hr.units) (pv 4) (pv 2) (nomark _)) (pw_or1 (pt_val (pe_call (ok_law_ahead T) hr (by rfl) T.g_law_ahead T.F_law_ahead.kp T.b_law_ahead .nil pass0 (pa_cons (pv 0) (pa_cons (pv 4) (pa_cons (pv 2) pa_nil)))))))))) (fun _ _ _ _ _ => (pv 4))) pa_nil)))) pss_nil)
        (pss_one (ps_ret (pe_op op_sub (pe_callB call_lenU (by rfl) T.n_len (by decide +kernel) (pa_cons (pv 1) pa_nil)) (pe_callB call_lenU (by rfl) T.n_len (by decide +kernel) (pa_cons (pe_lc (own := [("_law_x", 4)]) (g := gName 4) rfl sc_law_place.nd (pi_list (pv 1)) (blkOk_by (N := N_law_place) (sc := defScope s_law_place) (by decide +kernel)) (fun _ _ _ _ _ => pg_name (i := 4) sc_law_place.nd rfl (Or.inl rfl)) (fun _ _ _ _ _ => (pts_one (PW.pt (pw_or (pt_cmpR (k_eqU (K := K) rfl hr.units) (pv 4) (pv 2) (nomark _)) (pw_or1 (pt_val (pe_call (ok_law_ahead T) hr (by rfl) T.g_law_ahead T.F_law_ahead.kp T.b_law_ahead .nil pass0 (pa_cons (pv 0) (pa_cons (pv 2) (pa_cons (pv 4) pa_nil)))))))))) (fun _ _ _ _ _ => (pv 4))) pa_nil)))))), ?_⟩
    walk_at "rd"
    refine r_ite (fun h0 => ?_) (fun h0 => ?_)
    · have s0 : side = 0 := by have := V.int.inj h0; omega
      subst s0
      walk_at "rd"
      refine l_lcL (sqL hp) (fun D i H' => ∃ acc, Ex H H' ∧ H' D = some (.lst acc) ∧ acc.length = Mv.cnt (Mv.fsd L R s 0) (row.take i) ∧ acc.length ≤ i) (fun D hD => ⟨[], Same.new (Same.refl H) hD, upd_same, by simp [Mv.cnt], by simp⟩) (fun D i H' hW => ?_) (fun D i x H' hD hx hW => ?_) (fun D H' hD hW => ?_)
      · obtain ⟨_, e, _⟩ := hW
        exact sqL (e _ _ hp)
      · obtain ⟨acc, e, hacc, hc, hi⟩ := hW
        obtain ⟨z, hz, sz⟩ := hP.get hx
        have zi := (List.getElem?_eq_some_iff.mp hz).1
        have step : ∀ b : Bool, (b = true ↔ Tl.E L R z s) → Mv.cnt (Mv.fsd L R s 0) (row.take (i + 1)) = Mv.cnt (Mv.fsd L R s 0) (row.take i) + if b then 1 else 0 := fun b hbz => by
          rw [cnt_take hz]
          have eb : Mv.fsd L R s 0 z = b := by
            unfold Mv.fsd
            rw [if_pos rfl, Bool.eq_iff_iff, decide_eq_true_iff, hbz]
          rw [eb]
        walk_at "rd"
        refine ⟨rfl, ?_⟩
        walk_at "rd"
        refine r_eqSg (sz.up e) (hv.up e) ?_
        walk_at "rd"
        refine r_ite (fun e1 => ?_) (fun e1 => ?_)
        · walk_at "rd"
          refine ⟨acc, hacc, Nat.lt_of_le_of_lt (show acc.length ≤ 1000 by omega) (by decide), acc ++ [x], Same.mut e hD, upd_same, ?_, by rw [List.length_append]; simp; omega⟩
          rw [step true ⟨fun _ => .inl e1, fun _ => rfl⟩, List.length_append, hc]
          rfl
        · walk_at "rd"
          refine ⟨fb, x, v, L, R, n, z, s, rfl, hb.ex e, sz.up e, hv.up e, bs, hrow z (List.mem_of_getElem? hz), hs, by have := hrow z (List.mem_of_getElem? hz); omega, fun c hcA => ?_⟩
          walk_at "rd"
          have st := step c (by rw [hcA]; exact ⟨.inr, fun w => w.resolve_left e1⟩)
          refine r_iteB (fun hct => ?_) (fun hcf => ?_)
          · walk_at "rd"
            refine ⟨acc, hacc, Nat.lt_of_le_of_lt (show acc.length ≤ 1000 by omega) (by decide), acc ++ [x], Same.mut e hD, upd_same, ?_, by rw [List.length_append]; simp; omega⟩
            rw [st, hct, List.length_append, hc]
            rfl
          · refine ⟨acc, e, hacc, ?_, by omega⟩
            rw [st, hcf, hc]
            rfl
      · obtain ⟨acc, e, hacc, hc, hi⟩ := hW
        walk_at "rd"
        refine r_lenL (sqL hacc) ?_
        walk_at "rd"
        rw [hc, hP.len, List.take_length]
        exact q H' e
    · have s1 : side = 1 := by
        have : side ≠ 0 := fun z => h0 (by rw [z]; rfl)
        omega
      subst s1
      walk_at "rd"
      refine r_lenL (sqL hp) ?_
      walk_at "rd"
      refine l_lcL (sqL hp) (fun D i H' => ∃ acc, Ex H H' ∧ H' D = some (.lst acc) ∧ acc.length + Mv.cnt (Mv.fsd L R s 1) (row.take i) = i ∧ acc.length ≤ i) (fun D hD => ⟨[], Same.new (Same.refl H) hD, upd_same, by simp [Mv.cnt], by simp⟩) (fun D i H' hW => ?_) (fun D i x H' hD hx hW => ?_) (fun D H' hD hW => ?_)
      · obtain ⟨_, e, _⟩ := hW
        exact sqL (e _ _ hp)
      · obtain ⟨acc, e, hacc, hc, hi⟩ := hW
        obtain ⟨z, hz, sz⟩ := hP.get hx
        have zi := (List.getElem?_eq_some_iff.mp hz).1
        have step : ∀ b : Bool, (b = true ↔ Tl.E L R s z) → Mv.cnt (Mv.fsd L R s 1) (row.take (i + 1)) = Mv.cnt (Mv.fsd L R s 1) (row.take i) + if b then 0 else 1 := fun b hbz => by
          rw [cnt_take hz]
          have eb : Mv.fsd L R s 1 z = !b := by
            unfold Mv.fsd
            rw [if_neg (by decide)]
            congr 1
            rw [Bool.eq_iff_iff, decide_eq_true_iff, hbz]
          rw [eb]
          cases b <;> rfl
        walk_at "rd"
        refine ⟨rfl, ?_⟩
        walk_at "rd"
        refine r_eqSg (sz.up e) (hv.up e) ?_
        walk_at "rd"
        refine r_ite (fun e1 => ?_) (fun e1 => ?_)
        · walk_at "rd"
          refine ⟨acc, hacc, Nat.lt_of_le_of_lt (show acc.length ≤ 1000 by omega) (by decide), acc ++ [x], Same.mut e hD, upd_same, ?_, by rw [List.length_append]; simp; omega⟩
          rw [step true ⟨fun _ => .inl e1.symm, fun _ => rfl⟩, List.length_append, if_pos rfl]
          simp only [List.length_singleton]
          omega
        · walk_at "rd"
          refine ⟨fb, v, x, L, R, n, s, z, rfl, hb.ex e, hv.up e, sz.up e, bs, hs, hrow z (List.mem_of_getElem? hz), by have := hrow z (List.mem_of_getElem? hz); omega, fun c hcA => ?_⟩
          walk_at "rd"
          have st := step c (by rw [hcA]; exact ⟨.inr, fun w => w.resolve_left fun q => e1 q.symm⟩)
          refine r_iteB (fun hct => ?_) (fun hcf => ?_)
          · walk_at "rd"
            refine ⟨acc, hacc, Nat.lt_of_le_of_lt (show acc.length ≤ 1000 by omega) (by decide), acc ++ [x], Same.mut e hD, upd_same, ?_, by rw [List.length_append]; simp; omega⟩
            rw [st, hct, List.length_append, if_pos rfl]
            simp only [List.length_singleton]
            omega
          · refine ⟨acc, e, hacc, ?_, by omega⟩
            rw [st, hcf]
            simp only [Bool.false_eq_true, if_false]
            omega
      · obtain ⟨acc, e, hacc, hc, hi⟩ := hW
        walk_at "rd"
        refine r_lenL (sqL hacc) ?_
        walk_at "rd"
        rw [hP.len, List.take_length] at hc
        rw [hP.len]
        have ev : ((row.length : Nat) : Int) - ((acc.length : Nat) : Int) = ((Mv.plc L R row s 1 : Nat) : Int) := by
          unfold Mv.plc
          omega
        rw [ev]
        exact q H' e
end
end K16
namespace K16
open PySem PySem.Spec PyProof.Rows L2 Dk
/-- one step of a reading -/
local macro_rules | `(tactic| walk_at "rd1") => `(tactic| first
  | ((with_reducible refine r_var (v := ?rv) ?rh ?_); (case rh => rfl))
  | with_reducible refine r_c ?_
  | with_reducible refine r_seq ?_
  | with_reducible refine r_asg ?_
  | with_reducible refine r_par ?_
  | with_reducible refine r_gname ?_
  | with_reducible refine r_op ?_
  | with_reducible refine r_forLo ?_
  | with_reducible refine r_forTo ?_
  | with_reducible refine r_forSo ?_
  | with_reducible refine r_forRo ?_
  | with_reducible refine r_forRvo ?_
  | with_reducible refine r_lcRo ?_
  | with_reducible refine r_lcLo ?_
  | with_reducible refine r_yes ?_
  | with_reducible refine r_callK0 ?_
  | with_reducible refine r_break ?_
  | with_reducible refine r_forR2o ?_
  | with_reducible refine r_forEo ?_
  | with_reducible refine r_forESo ?_
  | with_reducible refine r_xfo ?_
  | with_reducible refine r_noP ?_
  | with_reducible refine r_part ?_
  | with_reducible refine r_pI ?_
  | with_reducible refine r_gcons ?_
  | with_reducible refine r_gnil ?_
  | with_reducible refine r_mkO ?_
  | with_reducible refine r_un ?_
  | with_reducible refine r_addI ?_
  | with_reducible refine r_I0 ?_
  | with_reducible refine r_U ?_
  | with_reducible refine r_cons ?_
  | with_reducible refine r_nil ?_
  | with_reducible refine r_CB ?_
  | with_reducible refine r_call ?_
  | with_reducible refine r_callS ?_
  | with_reducible refine r_int ?_
  | with_reducible refine r_max ?_
  | with_reducible refine r_min ?_
  | with_reducible refine r_test ?_
  | with_reducible refine r_B ?_
  | with_reducible refine r_blv ?_
  | with_reducible refine r_and ?_
  | with_reducible refine r_or ?_
  | with_reducible refine r_not ?_
  | with_reducible refine r_andV ?_
  | with_reducible refine r_orV ?_
  | with_reducible refine r_notV ?_
  | with_reducible refine r_ifE ?_
  | with_reducible refine r_ifS ?_
  | with_reducible refine r_ret ?_
  | with_reducible refine r_retN ?_
  | with_reducible refine r_drop ?_
  | with_reducible refine r_next ?_
  | with_reducible refine r_sl ?_
  | with_reducible refine r_gsub ?_
  | with_reducible refine r_bm ?_
  | with_reducible refine r_tup ?_
  | with_reducible refine r_lst ?_
  | with_reducible refine r_isN ?_
  | with_reducible refine r_notN ?_
  | with_reducible refine r_itt ?_
  | with_reducible refine r_iff ?_
  | with_reducible refine r_ittN ?_
  | with_reducible refine r_iffN ?_
  | ((with_reducible refine r_ittD ?rh ?_); (case rh => rfl))
  | ((with_reducible refine r_iffD ?rh ?_); (case rh => rfl))
  | ((with_reducible refine r_modP ?rh ?_); (case rh => decide))
  | ((with_reducible refine r_eq ?rh ?_); (case rh => rfl))
  | ((with_reducible refine r_eqP ?rh ?_); (case rh => rfl))
  | ((with_reducible refine r_ne ?rh ?_); (case rh => rfl)))
local macro_rules | `(tactic| walk_at "rd") => `(tactic| repeat walk_at "rd1")
local macro_rules | `(tactic| walk_at "isi") => `(tactic| first | refine r_isi (b := true) (by assumption) (by decide +kernel) ?_ | refine r_isi (b := false) (by assumption) (by decide +kernel) ?_)
local macro_rules | `(tactic| walk_at "rs1") => `(tactic| first
  | with_reducible refine r_seq ?_
  | with_reducible refine r_asg ?_
  | with_reducible refine r_gname ?_
  | with_reducible refine r_ret ?_)
local macro_rules | `(tactic| walk_at "rs") => `(tactic| repeat walk_at "rs1")

section
variable {P : Program} {w : World} {K : PySem.W.Frag} {mg : Str → Option Value} {base : Heap}
open Tl (Sg)
def spMovedBy : Sp := fun vs H Q _ => ∃ (p s : Nat) (v : V) (x : Spc), vs = [.int (p : Nat), .int (s : Nat), v] ∧ SpcV H v x ∧ s ≤ 1 ∧ x.2.2.length ≤ 100 ∧ Q (.int (Mv.mv s p (tri x) : Nat)) H
theorem ok_moved_by (T : Txt K mg) : FnOk P w K mg base CX0 1 T.a_moved_by T.d_moved_by ["place", "side", "splice"] spMovedBy := by
  refine T.F_moved_by.ok sc_moved_by (fun vs H Q E h => ?_) (fun cdv A outer s H vs Q E hr h => ?_)
  · obtain ⟨p, s, v, x, rfl, _⟩ := h
    rfl
  · obtain ⟨p, s, v, ⟨a, c, t⟩, rfl, ⟨q1, rfl, hq⟩, s1, ht, q⟩ := h
    refine ⟨_, (pss_cons (ps_asg (pv 2) (pg_tup rfl (pgs_cons (pg_name (i := 3) sc_moved_by.nd rfl (Or.inl rfl)) (pgs_cons (pg_name (i := 4) sc_moved_by.nd rfl (Or.inl rfl)) (pgs_cons (pg_name (i := 5) sc_moved_by.nd rfl (Or.inl rfl)) pgs_nil)))))
        (pss_cons (ps_if (pt_cmpR op_lt (pv 0) (pv 3) (nomark _)) (pss_one (ps_ret (pv 0))) pss_nil)
        (pss_cons (ps_if (pt_cmpR op_gt (pv 0) (pe_op op_addU (pv 3) (pv 4)) (nomark _)) (pss_one (ps_ret (pe_op op_addU (pe_op op_sub (pv 0) (pv 4)) (pe_callB call_lenU (by rfl) T.n_len (by decide +kernel) (pa_cons (pv 5) pa_nil))))) pss_nil)
        (pss_one (ps_ret (pe_op op_addU (pv 3) (pe_op op_mulWW (pv 1) (pe_callB call_lenU (by rfl) T.n_len (by decide +kernel) (pa_cons (pv 5) pa_nil))))))))), ?_⟩
    dsimp only at hq ht
    have tl : t.length ≤ sizeLine := Nat.le_of_lt (Nat.lt_of_le_of_lt ht (by decide))
    unfold Mv.mv tri at q
    dsimp only at q
    walk_at "rd"
    refine r_gtup (sqT hq) rfl ?_
    walk_at "rd"
    refine r_ite (fun h1 => ?_) (fun h1 => ?_)
    · walk_at "rd"
      rw [if_pos (by omega)] at q
      exact q
    · rw [if_neg (by omega)] at q
      walk_at "rd"
      refine r_ite (fun h2 => ?_) (fun h2 => ?_)
      · rw [if_pos (by omega)] at q
        walk_at "rd"
        refine r_lenS tl ?_
        walk_at "rd"
        have e : (p : Int) - (c : Int) + (t.length : Nat) = ((p - c + t.length : Nat) : Int) := by omega
        rw [e]
        exact q
      · rw [if_neg (by omega)] at q
        walk_at "rd"
        refine r_lenS tl ?_
        walk_at "rd"
        refine r_mulW (wide_mul (a := 2) (b := 8) (by omega) (by omega) (by decide) (by decide) (by decide)) ?_
        walk_at "rd"
        have e : (a : Int) + (s : Int) * (t.length : Nat) = ((a + s * t.length : Nat) : Int) := by push_cast; rfl
        rw [e]
        exact q
def spMoved : Sp := fun vs H Q _ => ∃ (p s : Nat) (v : V) (l : List Spc), vs = [.int (p : Nat), .int (s : Nat), v] ∧ TupV SpcV H v l ∧ s ≤ 1 ∧ (∀ x ∈ l, x.2.2.length ≤ 100) ∧ Q (.int (Mv.mvs s p (l.map tri) : Nat)) H
theorem ok_moved_place (T : Txt K mg) : FnOk P w K mg base CX0 2 T.a_moved_place T.d_moved_place ["place", "side", "splices"] spMoved := by
  refine T.F_moved_place.ok sc_moved_place (fun vs H Q E h => ?_) (fun cdv A outer s H vs Q E hr h => ?_)
  · obtain ⟨p, s, v, l, rfl, _⟩ := h
    rfl
  · obtain ⟨p, s, v, l, rfl, ⟨t, xs, rfl, ht, hP⟩, s1, hl, q⟩ := h
    refine ⟨_, (pss_cons (ps_for PassesOwn.never rfl (RT.pi_revA (by rfl) T.n_reversed (pv 2)) (pg_name (i := 3) sc_moved_place.nd rfl (Or.inl rfl)) (pss_one (ps_set (i := 0) sc_moved_place.nd rfl (Or.inl rfl) (pe_call (ok_moved_by T) hr (by rfl) T.g_moved_by T.F_moved_by.kp T.b_moved_by .nil pass0 (pa_cons (pv 0) (pa_cons (pv 1) (pa_cons (pv 3) pa_nil)))))))
        (pss_one (ps_ret (pv 0)))), ?_⟩
    have hlen := hP.len
    walk_at "rd"
    refine ⟨t, xs, rfl, .inr ⟨sqT ht, ?_⟩⟩
    refine RT.for_ItvT (fun i σ H' => ∃ y3, σ = [some (.int (Mv.mvs s p ((l.drop (l.length - i)).map tri) : Nat)), some (.int (s : Nat)), some (.ref t), y3] ∧ H' = H) ⟨none, by rw [Nat.sub_zero, List.drop_length]; rfl, rfl⟩ (fun i σ H' hW => ?_) (fun i x σ H' hi hx hW => ?_) (fun σ H' hW => ?_)
    · obtain ⟨_, _, rfl⟩ := hW
      exact sqT ht
    · obtain ⟨y3, rfl, rfl⟩ := hW
      obtain ⟨z, hz, sz⟩ := hP.get hx
      walk_at "rd"
      refine ⟨_, s, x, z, rfl, sz, s1, hl z (List.mem_of_getElem? hz), ?_⟩
      walk_at "rd"
      refine ⟨some x, ?_, rfl⟩
      have e : l.drop (l.length - (i + 1)) = z :: l.drop (l.length - i) := by
        have h1 : xs.length - 1 - i < l.length := (List.getElem?_eq_some_iff.mp hz).1
        have h2 := (List.getElem?_eq_some_iff.mp hz).2
        have h3 : l.length - (i + 1) = xs.length - 1 - i := by omega
        rw [h3, List.drop_eq_getElem_cons h1, h2]
        congr 2
        omega
      rw [e]
      rfl
    · obtain ⟨y3, rfl, rfl⟩ := hW
      walk_at "rd"
      rw [hlen, Nat.sub_self, List.drop_zero]
      exact q
def ledp (x y : Spc) : Option (Spc × Spc) :=
  if y.1 + y.2.1 < x.1 then some (y, (x.1 + y.2.2.length - y.2.1, x.2.1, x.2.2))
  else if x.1 + x.2.2.length < y.1 then some ((y.1 - x.2.2.length + x.2.1, y.2.1, y.2.2), x) else none
def OptP (H : Hp) (v : V) : Option (Spc × Spc) → Prop
  | none => v = .non
  | some z => PairV SpcV SpcV H v z
def spLedPast : Sp := fun vs H Q _ => ∃ (v u : V) (x y : Spc), vs = [v, u] ∧ SpcV H v x ∧ SpcV H u y ∧ x.2.2.length ≤ 100 ∧ y.2.2.length ≤ 100 ∧ ∀ w H', Ex H H' → OptP H' w (ledp x y) → Q w H'
theorem ok_led_past (T : Txt K mg) : FnOk P w K mg base CX0 1 T.a_led_past T.d_led_past ["first", "second"] spLedPast := by
  refine T.F_led_past.ok sc_led_past (fun vs H Q E h => ?_) (fun cdv A outer s H vs Q E hr h => ?_)
  · obtain ⟨v, u, x, y, rfl, _⟩ := h
    rfl
  · obtain ⟨v, u, ⟨a, c, t⟩, ⟨b, d, z⟩, rfl, ⟨q1, rfl, h1⟩, ⟨q2, rfl, h2⟩, ht, hz, q⟩ := h
    refine ⟨_, (pss_cons (ps_asg (pv 0) (pg_tup rfl (pgs_cons (pg_name (i := 2) sc_led_past.nd rfl (Or.inl rfl)) (pgs_cons (pg_name (i := 3) sc_led_past.nd rfl (Or.inl rfl)) (pgs_cons (pg_name (i := 4) sc_led_past.nd rfl (Or.inl rfl)) pgs_nil)))))
        (pss_cons (ps_asg (pv 1) (pg_tup rfl (pgs_cons (pg_name (i := 5) sc_led_past.nd rfl (Or.inl rfl)) (pgs_cons (pg_name (i := 6) sc_led_past.nd rfl (Or.inl rfl)) (pgs_cons (pg_name (i := 7) sc_led_past.nd rfl (Or.inl rfl)) pgs_nil)))))
        (pss_cons (ps_if (pt_cmpR op_lt (pe_op op_addU (pv 5) (pv 6)) (pv 2) (nomark _)) (pss_one (ps_ret (pe_tup (pa_cons (pv 1) (pa_cons (pe_tup (pa_cons (pe_op op_sub (pe_op op_addU (pv 2) (pe_callB call_lenU (by rfl) T.n_len (by decide +kernel) (pa_cons (pv 7) pa_nil))) (pv 6)) (pa_cons (pv 3) (pa_cons (pv 4) pa_nil)))) pa_nil))))) pss_nil)
        (pss_cons (ps_if (pt_cmpR op_gt (pv 5) (pe_op op_addU (pv 2) (pe_callB call_lenU (by rfl) T.n_len (by decide +kernel) (pa_cons (pv 4) pa_nil))) (nomark _)) (pss_one (ps_ret (pe_tup (pa_cons (pe_tup (pa_cons (pe_op op_addU (pe_op op_sub (pv 5) (pe_callB call_lenU (by rfl) T.n_len (by decide +kernel) (pa_cons (pv 4) pa_nil))) (pv 3)) (pa_cons (pv 6) (pa_cons (pv 7) pa_nil)))) (pa_cons (pv 0) pa_nil))))) pss_nil)
        (pss_one (ps_ret pe_non)))))), ?_⟩
    dsimp only at h1 h2 ht hz
    have tl : t.length ≤ sizeLine := Nat.le_of_lt (Nat.lt_of_le_of_lt ht (by decide))
    have zl : z.length ≤ sizeLine := Nat.le_of_lt (Nat.lt_of_le_of_lt hz (by decide))
    unfold ledp at q
    dsimp only at q
    walk_at "rd"
    refine r_gtup (sqT h1) rfl ?_
    walk_at "rd"
    refine r_gtup (sqT h2) rfl ?_
    walk_at "rd"
    refine r_ite (fun c1 => ?_) (fun c1 => ?_)
    · rw [if_pos (by omega)] at q
      walk_at "rd"
      refine r_lenS zl ?_
      walk_at "rd"
      refine r_small nsz fun p3 n3 => ?_
      have e1 := Same.new (o := .tup [.int ((a : Int) + (z.length : Nat) - d), .int (c : Nat), .str t]) (Same.refl H) n3
      walk_at "rd"
      refine r_mkP (R := SpcV) (S := SpcV) (x := (b, d, z)) (y := (a + z.length - d, c, t)) ⟨q2, rfl, e1 _ _ h2⟩ ⟨p3, rfl, ?_⟩ fun p H' hp e2 hP => q _ H' (e1.trans e2) hP
      rw [upd_same]
      have e : (a : Int) + (z.length : Nat) - d = ((a + z.length - d : Nat) : Int) := by omega
      rw [e]
    · rw [if_neg (by omega)] at q
      walk_at "rd"
      refine r_lenS tl ?_
      walk_at "rd"
      refine r_ite (fun c2 => ?_) (fun c2 => ?_)
      · rw [if_pos (by omega)] at q
        walk_at "rd"
        refine r_lenS tl ?_
        walk_at "rd"
        refine r_small nsz fun p3 n3 => ?_
        have e1 := Same.new (o := .tup [.int ((b : Int) - (t.length : Nat) + c), .int (d : Nat), .str z]) (Same.refl H) n3
        walk_at "rd"
        refine r_mkP (R := SpcV) (S := SpcV) (x := (b - t.length + c, d, z)) (y := (a, c, t)) ⟨p3, rfl, ?_⟩ ⟨q1, rfl, e1 _ _ h1⟩ fun p H' hp e2 hP => q _ H' (e1.trans e2) hP
        rw [upd_same]
        have e : (b : Int) - (t.length : Nat) + c = ((b - t.length + c : Nat) : Int) := by omega
        rw [e]
      · rw [if_neg (by omega)] at q
        walk_at "rd"
        exact q _ H (Same.refl H) rfl
def spIs : Sp := fun vs H Q _ => ∃ i : Int, vs = [.int i, .int i] ∧ Q (.bl true) H
theorem ok_law_is (T : Txt K mg) : FnOk P w K mg base CX0 1 T.a_law_is T.d_law_is ["_law_due", "_law_told"] spIs := by
  refine T.F_law_is.ok sc_law_is (fun vs H Q E h => ?_) (fun cdv A outer s H vs Q E hr h => ?_)
  · obtain ⟨i, rfl, _⟩ := h
    rfl
  · obtain ⟨i, rfl, q⟩ := h
    refine ⟨_, (pss_one (ps_ret (pe_and (pe_callB call_isi (by rfl) T.n_isinstance (by decide +kernel) (pa_cons (pv 1) (pa_cons (pe_bltn (v := .ty "int") (by rfl) T.n_int (by decide +kernel) rfl) pa_nil))) (pe_and (pe_not (pe_callB call_isi (by rfl) T.n_isinstance (by decide +kernel) (pa_cons (pv 1) (pa_cons (pe_bltn (v := .ty "bool") (by rfl) T.n_bool (by decide +kernel) rfl) pa_nil)))) (pe_one (pe_cmpR (op_eqU hr.units) (pv 1) (pv 0) (nomark _))))))), ?_⟩
    have ty : TyX K H (.int i) (.type "int") := .base (.int i)
    walk_at "rd"
    walk_at "isi"
    walk_at "rd"
    walk_at "isi"
    walk_at "rd"
    have e : decide (V.int i = V.int i) = true := decide_eq_true rfl
    rw [e]
    exact q
def spRises : Sp := fun vs H Q _ => ∃ (n : Nat) (v : V) (l : List Spc), vs = [.int (n : Nat), v] ∧ TupV SpcV H v l ∧ n ≤ 4000 ∧ (∀ x ∈ l, x.2.2.length ≤ 100) ∧ ∀ H', Ex H H' → Q (.bl true) H'
theorem ok_law_rises (T : Txt K mg) : FnOk P w K mg base CX0 3 T.a_law_rises T.d_law_rises ["_law_size", "_law_row"] spRises := by
  refine T.F_law_rises.ok sc_law_rises (fun vs H Q E h => ?_) (fun cdv A outer s H vs Q E hr h => ?_)
  · obtain ⟨n, v, l, rfl, _⟩ := h
    rfl
  · obtain ⟨n, v, l, rfl, hv, n1, hl, q⟩ := h
    refine ⟨_, (pss_cons (ps_set (i := 2) sc_law_rises.nd rfl (Or.inl rfl) (pe_lst (pa_cons pe_int (pa_cons pe_int pa_nil))))
        (pss_cons (ps_for PassesOwn.never rfl (pi_range1 (by rfl) T.n_range (pa_cons (pe_op op_addU (pv 0) pe_int) pa_nil)) (pg_name (i := 3) sc_law_rises.nd rfl (Or.inl rfl)) (pss_cons (ps_set (i := 4) sc_law_rises.nd rfl (Or.inl rfl) (pe_lst (pa_cons (pe_call (ok_moved_place T) hr (by rfl) T.g_moved_place T.F_moved_place.kp T.b_moved_place .nil pass0 (pa_cons (pv 3) (pa_cons pe_int (pa_cons (pv 1) pa_nil)))) (pa_cons (pe_call (ok_moved_place T) hr (by rfl) T.g_moved_place T.F_moved_place.kp T.b_moved_place .nil pass0 (pa_cons (pv 3) (pa_cons pe_int (pa_cons (pv 1) pa_nil)))) pa_nil))))
        (pss_cons (ps_if (PW.pt (pw_or (pt_cmpR op_lt (pe_ix ix_seq (pv 4) pe_int (fun _ _ => rfl)) (pe_ix ix_seq (pv 2) pe_int (fun _ _ => rfl)) (nomark _)) (pw_or (pt_cmpR op_lt (pe_ix ix_seq (pv 4) pe_int (fun _ _ => rfl)) (pe_ix ix_seq (pv 2) pe_int (fun _ _ => rfl)) (nomark _)) (pw_or1 (pt_cmpR op_lt (pe_ix ix_seq (pv 4) pe_int (fun _ _ => rfl)) (pe_ix ix_seq (pv 4) pe_int (fun _ _ => rfl)) (nomark _)))))) (pss_one (ps_ret pe_bl)) pss_nil)
        (pss_one (ps_set (i := 2) sc_law_rises.nd rfl (Or.inl rfl) (pv 4))))))
        (pss_one (ps_ret pe_bl)))), ?_⟩
    walk_at "rd"
    refine r_small nsz fun p hp => ?_
    walk_at "rd"
    refine l_R (by omega) (by omega) (fun i σ H' => ∃ y3 y4 p b0 b1, σ = [some (.int (n : Nat)), some v, some (.ref p), y3, y4] ∧ Ex H H' ∧ H' p = some (.lst [.int (b0 : Nat), .int (b1 : Nat)]) ∧ (∀ m, i ≤ m → b0 ≤ Mv.mvs 0 m (l.map tri) ∧ b1 ≤ Mv.mvs 1 m (l.map tri))) ⟨none, none, p, 0, 0, rfl, Same.new (Same.refl H) hp, upd_same, fun m _ => ⟨Nat.zero_le _, Nat.zero_le _⟩⟩ (fun i σ H' hi hW => ?_) (fun σ H' hW => ?_)
    · obtain ⟨y3, y4, p, b0, b1, rfl, e, hp, hb⟩ := hW
      have hv' := imm (.ex e) hv
      have b := hb i (Nat.le_refl i)
      walk_at "rd"
      refine ⟨i, 0, v, l, rfl, hv', by decide, hl, ?_⟩
      walk_at "rd"
      refine ⟨i, 1, v, l, rfl, hv', by decide, hl, ?_⟩
      walk_at "rd"
      refine r_small nsz fun p2 hp2 => ?_
      have e2 := Same.new (o := .lst [.int (Mv.mvs 0 i (l.map tri) : Nat), .int (Mv.mvs 1 i (l.map tri) : Nat)]) (Same.refl H') hp2
      have hp' := e2 _ _ hp
      have m01 : Mv.mvs 0 i (l.map tri) ≤ Mv.mvs 1 i (l.map tri) := Mv.mvs_le (by decide) (by decide) (Nat.le_refl i) _
      walk_at "rd"
      refine r_ixL (sqL upd_same) (atI_nat (j := 0) rfl) ?_
      walk_at "rd"
      refine r_ixL (sqL hp') (atI_nat (j := 0) rfl) ?_
      walk_at "rd"
      refine r_ite (fun c => by omega) (fun _ => ?_)
      walk_at "rd"
      refine r_ixL (sqL upd_same) (atI_nat (j := 1) rfl) ?_
      walk_at "rd"
      refine r_ixL (sqL hp') (atI_nat (j := 1) rfl) ?_
      walk_at "rd"
      refine r_ite (fun c => by omega) (fun _ => ?_)
      walk_at "rd"
      refine r_ixL (sqL upd_same) (atI_nat (j := 1) rfl) ?_
      walk_at "rd"
      refine r_ixL (sqL upd_same) (atI_nat (j := 0) rfl) ?_
      walk_at "rd"
      refine r_ite (fun c => by omega) (fun _ => ?_)
      walk_at "rd"
      exact ⟨_, _, p2, _, _, rfl, e.trans e2, upd_same, fun m hm => ⟨Mv.mvs_le (by decide) (by decide) (by omega) _, Mv.mvs_le (by decide) (by decide) (by omega) _⟩⟩
    · obtain ⟨y3, y4, p, b0, b1, rfl, e, hp, hb⟩ := hW
      walk_at "rd"
      exact q H' e
abbrev AnV := PairV SgV IntV
def spAnchors : Sp := fun vs H Q _ => ∃ (p : Addr) (xs : List V) (ss : List Sg), vs = [.ref p] ∧ H p = some (.lst xs) ∧ P2 (SgV H) xs ss ∧ ss.length ≤ 400 ∧ (∀ s ∈ ss, 0 < s.1) ∧
  ∀ q H' ys l, Ex H H' → H q = none → H' q = some (.lst ys) → P2 (AnV H') ys l → l.length ≤ 802 → (∀ z ∈ l, Mv.Ask z.1 z.2 ∧ (z.1 = (0, 0) ∨ z.1 = (0, 1) ∨ z.1 ∈ ss)) → Q (.ref q) H'
theorem ok_law_anchors (T : Txt K mg) : FnOk P w K mg base CX0 1 T.a_law_anchors T.d_law_anchors ["_law_signs"] spAnchors := by
  refine T.F_law_anchors.ok sc_law_anchors (fun vs H Q E h => ?_) (fun cdv A outer s H vs Q E hr h => ?_)
  · obtain ⟨p, xs, ss, rfl, _⟩ := h
    rfl
  · obtain ⟨p, xs, ss, rfl, hp, hP, hl, h0, q⟩ := h
    refine ⟨_, (pss_cons (ps_set (i := 1) sc_law_anchors.nd rfl (Or.inl rfl) (pe_lst (pa_cons (pe_tup (pa_cons (pe_tup (pa_cons pe_int (pa_cons pe_int pa_nil))) (pa_cons pe_int pa_nil))) (pa_cons (pe_tup (pa_cons (pe_tup (pa_cons pe_int (pa_cons pe_int pa_nil))) (pa_cons pe_int pa_nil))) pa_nil))))
        (pss_cons (ps_for PassesOwn.never rfl (pi_list (pv 0)) (pg_name (i := 2) sc_law_anchors.nd rfl (Or.inl rfl)) (pss_cons (ps_expr (pe_bm PySem.F.plainAttrs_list PySem.F.slot_list_append PySem.F.type_list_append mt_append (pv 1) (pa_cons (pe_tup (pa_cons (pv 2) (pa_cons pe_int pa_nil))) pa_nil)))
        (pss_one (ps_expr (pe_bm PySem.F.plainAttrs_list PySem.F.slot_list_append PySem.F.type_list_append mt_append (pv 1) (pa_cons (pe_tup (pa_cons (pv 2) (pa_cons pe_int pa_nil))) pa_nil))))))
        (pss_one (ps_ret (pv 1))))), ?_⟩
    walk_at "rd"
    refine r_small nsz fun p1 n1 => ?_
    obtain ⟨H1, k1, e1, s1⟩ := nS (a := 0) (b := 0) (i := 0) (j := 0) n1 rfl rfl
    rw [← k1]
    walk_at "rd"
    refine r_small nsz fun p2 n2 => ?_
    obtain ⟨H2, k2, e2, s2⟩ := nP (R := SgV) (S := IntV) (x := (0, 0)) (y := 0) n2 s1 (show IntV _ (.int 0) 0 from rfl)
    rw [← k2]
    walk_at "rd"
    refine r_small nsz fun p3 n3 => ?_
    obtain ⟨H3, k3, e3, s3⟩ := nS (a := 0) (b := 1) (i := 0) (j := 1) n3 rfl rfl
    rw [← k3]
    walk_at "rd"
    refine r_small nsz fun p4 n4 => ?_
    obtain ⟨H4, k4, e4, s4⟩ := nP (R := SgV) (S := IntV) (x := (0, 1)) (y := 1) n4 s3 (show IntV _ (.int 1) 1 from rfl)
    rw [← k4]
    walk_at "rd"
    refine r_small nsz fun m hm => ?_
    have e04 := ((e1.trans e2).trans e3).trans e4
    have hm0 : H m = none := e04.free hm
    have e05 := e04.trans (Same.new (o := .lst [.ref p2, .ref p4]) (Same.refl H4) hm)
    walk_at "rd"
    refine l_L (sqL (e05 _ _ hp)) (fun i σ H' => ∃ y2 ys l, σ = [some (.ref p), some (.ref m), y2] ∧ Ex H H' ∧ H' m = some (.lst ys) ∧ P2 (AnV H') ys l ∧ l.length = 2 + 2 * i ∧ ∀ z ∈ l, Mv.Ask z.1 z.2 ∧ (z.1 = (0, 0) ∨ z.1 = (0, 1) ∨ z.1 ∈ ss)) ⟨none, _, [((0, 0), 0), ((0, 1), 1)], rfl, e05, upd_same, p2_imm (.new hm) (.cons (imm (.ex (e3.trans e4)) s2) (.cons s4 .nil)), rfl, fun z hz => ?_⟩ (fun i σ H' hW => ?_) (fun i x σ H' hx hW => ?_) (fun σ H' hW => ?_)
    · rcases List.mem_cons.mp hz with rfl | hz
      · exact ⟨.inl ⟨rfl, by decide⟩, .inl rfl⟩
      · rw [List.mem_singleton.mp hz]
        exact ⟨.inr ⟨rfl, by decide⟩, .inr (.inl rfl)⟩
    · obtain ⟨_, _, _, _, e, _⟩ := hW
      exact sqL (e _ _ hp)
    · obtain ⟨y2, ys, l, rfl, e, hm', hP', hl', hz⟩ := hW
      obtain ⟨z, hz', sz⟩ := hP.get hx
      have mz := List.mem_of_getElem? hz'
      have zi := (List.getElem?_eq_some_iff.mp hz').1
      have hlen := hP'.len
      walk_at "rd"
      refine r_tyL (sqL hm') ?_
      walk_at "rd"
      refine r_small nsz fun p5 n5 => ?_
      obtain ⟨H5, k5, e5, s5⟩ := nP (R := SgV) (S := IntV) (x := z) (y := 0) n5 (sz.up e) (show IntV _ (.int 0) 0 from rfl)
      rw [← k5]
      walk_at "rd"
      refine r_app (e5 _ _ hm') (Nat.lt_of_le_of_lt (show ys.length ≤ 1000 by omega) (by decide)) ?_
      walk_at "rd"
      have t6 := Tk.put (o := .lst (ys ++ [.ref p5])) (e5 _ _ hm')
      have e6 : Ex H (upd H5 m (.lst (ys ++ [.ref p5]))) := Same.mut (e.trans e5) hm0
      refine r_tyL (sqL upd_same) ?_
      walk_at "rd"
      refine r_small nsz fun p7 n7 => ?_
      obtain ⟨H7, k7, e7, s7⟩ := nP (R := SgV) (S := IntV) (x := z) (y := 1) n7 (sz.up e6) (show IntV _ (.int 1) 1 from rfl)
      rw [← k7]
      walk_at "rd"
      have hm7 := e7 _ _ (show (upd H5 m (.lst (ys ++ [.ref p5]))) m = some (.lst (ys ++ [.ref p5])) from upd_same)
      refine r_app hm7 (Nat.lt_of_le_of_lt (show (ys ++ [V.ref p5]).length ≤ 1000 by rw [List.length_append]; simp; omega) (by decide)) ?_
      walk_at "rd"
      have t8 := Tk.put (o := .lst (ys ++ [.ref p5] ++ [.ref p7])) hm7
      have t68 := (t6.trans (.ex e7)).trans t8
      refine ⟨_, _, l ++ [(z, 0)] ++ [(z, 1)], rfl, Same.mut (e6.trans e7) hm0, upd_same, ((p2_imm ((Tk.ex e5).trans t68) hP').snoc (imm t68 s5)).snoc (imm t8 s7), by rw [List.length_append, List.length_append, hl']; simp; omega, fun u hu => ?_⟩
      rcases List.mem_append.mp hu with hu | hu
      · rcases List.mem_append.mp hu with hu | hu
        · exact hz u hu
        · rw [List.mem_singleton.mp hu]
          exact ⟨.inl ⟨rfl, Mv.ne_end (h0 z mz)⟩, .inr (.inr mz)⟩
      · rw [List.mem_singleton.mp hu]
        exact ⟨.inr ⟨rfl, Mv.ne_head (h0 z mz)⟩, .inr (.inr mz)⟩
    · obtain ⟨y2, ys, l, rfl, e, hm', hP', hl', hz⟩ := hW
      walk_at "rd"
      exact q m H' ys l e hm0 hm' hP' (by have := hP.len; omega) hz
end
end K16
namespace K16
open PySem PySem.Spec PyProof.Rows L2 Dk
/-- one step of a reading -/
local macro_rules | `(tactic| walk_at "rd1") => `(tactic| first
  | ((with_reducible refine r_var (v := ?rv) ?rh ?_); (case rh => rfl))
  | with_reducible refine r_c ?_
  | with_reducible refine r_seq ?_
  | with_reducible refine r_asg ?_
  | with_reducible refine r_par ?_
  | with_reducible refine r_gname ?_
  | with_reducible refine r_op ?_
  | with_reducible refine r_forLo ?_
  | with_reducible refine r_forTo ?_
  | with_reducible refine r_forSo ?_
  | with_reducible refine r_forRo ?_
  | with_reducible refine r_forRvo ?_
  | with_reducible refine r_lcRo ?_
  | with_reducible refine r_lcLo ?_
  | with_reducible refine r_yes ?_
  | with_reducible refine r_callK0 ?_
  | with_reducible refine r_break ?_
  | with_reducible refine r_forR2o ?_
  | with_reducible refine r_forEo ?_
  | with_reducible refine r_forESo ?_
  | with_reducible refine r_xfo ?_
  | with_reducible refine r_noP ?_
  | with_reducible refine r_part ?_
  | with_reducible refine r_pI ?_
  | with_reducible refine r_gcons ?_
  | with_reducible refine r_gnil ?_
  | with_reducible refine r_mkO ?_
  | with_reducible refine r_un ?_
  | with_reducible refine r_addI ?_
  | with_reducible refine r_I0 ?_
  | with_reducible refine r_U ?_
  | with_reducible refine r_cons ?_
  | with_reducible refine r_nil ?_
  | with_reducible refine r_CB ?_
  | with_reducible refine r_call ?_
  | with_reducible refine r_callS ?_
  | with_reducible refine r_int ?_
  | with_reducible refine r_max ?_
  | with_reducible refine r_min ?_
  | with_reducible refine r_test ?_
  | with_reducible refine r_B ?_
  | with_reducible refine r_blv ?_
  | with_reducible refine r_and ?_
  | with_reducible refine r_or ?_
  | with_reducible refine r_not ?_
  | with_reducible refine r_andV ?_
  | with_reducible refine r_orV ?_
  | with_reducible refine r_notV ?_
  | with_reducible refine r_ifE ?_
  | with_reducible refine r_ifS ?_
  | with_reducible refine r_ret ?_
  | with_reducible refine r_retN ?_
  | with_reducible refine r_drop ?_
  | with_reducible refine r_next ?_
  | with_reducible refine r_sl ?_
  | with_reducible refine r_gsub ?_
  | with_reducible refine r_bm ?_
  | with_reducible refine r_tup ?_
  | with_reducible refine r_lst ?_
  | with_reducible refine r_isN ?_
  | with_reducible refine r_notN ?_
  | with_reducible refine r_itt ?_
  | with_reducible refine r_iff ?_
  | with_reducible refine r_ittN ?_
  | with_reducible refine r_iffN ?_
  | ((with_reducible refine r_ittD ?rh ?_); (case rh => rfl))
  | ((with_reducible refine r_iffD ?rh ?_); (case rh => rfl))
  | ((with_reducible refine r_modP ?rh ?_); (case rh => decide))
  | ((with_reducible refine r_eq ?rh ?_); (case rh => rfl))
  | ((with_reducible refine r_eqP ?rh ?_); (case rh => rfl))
  | ((with_reducible refine r_ne ?rh ?_); (case rh => rfl)))
local macro_rules | `(tactic| walk_at "rd") => `(tactic| repeat walk_at "rd1")
local macro_rules | `(tactic| walk_at "isi") => `(tactic| first | refine r_isi (b := true) (by assumption) (by decide +kernel) ?_ | refine r_isi (b := false) (by assumption) (by decide +kernel) ?_)
local macro_rules | `(tactic| walk_at "rs1") => `(tactic| first
  | with_reducible refine r_seq ?_
  | with_reducible refine r_asg ?_
  | with_reducible refine r_gname ?_
  | with_reducible refine r_ret ?_)
local macro_rules | `(tactic| walk_at "rs") => `(tactic| repeat walk_at "rs1")

section
variable {P : Program} {w : World} {K : PySem.W.Frag} {mg : Str → Option Value} {base : Heap}
open Tl (Sg upn upn_ne upd_at)
open Mv (lft rgt frs)
/-! ### one splice on a row of signs -/
def But (fb : Addr) (H H' : Hp) : Prop := ∀ q o, q ≠ fb → H q = some o → H' q = some o
theorem r_catL {H : Hp} {Q : VK} {p q : Addr} {xs ys : List V} (hp : H p = some (.lst xs)) (hq : H q = some (.lst ys)) (hz : xs.length + ys.length ≤ 1000) (k : ∀ l, H l = none → Q (.ref l) (upd H l (.lst (xs ++ ys)))) : rAddU K (.ref p) (.ref q) H Q :=
  r_addL hp hq (Nat.le_of_lt (small1000 hz)) k
def spBorn : Sp := fun vs H Q _ => ∃ (fb p : Addr) (v : V) (L R : Nat → Sg) (n : Nat) (xs : List V) (X C Y : List Sg) (t : Str), vs = [.ref fb, .ref p, v] ∧ BirL H fb L R n ∧ H p = some (.lst xs) ∧ P2 (SgV H) xs (X ++ C ++ Y) ∧ SpcV H v (X.length, C.length, t) ∧
  t.length ≤ 10 ∧ (X ++ C ++ Y).length ≤ 400 ∧ n ≤ 400 ∧
  (t = "" → ∀ q H' ys, Ex H H' → H q = none → H' q = some (.lst ys) → P2 (SgV H') ys (X ++ Y) → Q (.ref q) H') ∧
  (t ≠ "" → ∀ q H' ys, But fb H H' → Tk H H' → H q = none → BirL H' fb (upn L n (lft X)) (upn R n (rgt Y)) (n + 1) → H' q = some (.lst ys) → P2 (SgV H') ys (X ++ frs n t.length ++ Y) → Q (.ref q) H')
theorem ok_law_born (T : Txt K mg) : FnOk P w K mg base CX0 1 T.a_law_born T.d_law_born ["_law_births", "_law_row", "_law_splice"] spBorn := by
  refine T.F_law_born.ok sc_law_born (fun vs H Q E h => ?_) (fun cdv A outer s H vs Q E hr h => ?_)
  · obtain ⟨fb, p, v, L, R, n, xs, X, C, Y, t, rfl, _⟩ := h
    rfl
  · obtain ⟨fb, p, v, L, R, n, xs, X, C, Y, t, rfl, hb, hp, hP, ⟨q1, rfl, hq⟩, ht, hl, hn, qe, qn⟩ := h
    refine ⟨_, (pss_cons (ps_asg (pv 2) (pg_tup rfl (pgs_cons (pg_name (i := 3) sc_law_born.nd rfl (Or.inl rfl)) (pgs_cons (pg_name (i := 4) sc_law_born.nd rfl (Or.inl rfl)) (pgs_cons (pg_name (i := 5) sc_law_born.nd rfl (Or.inl rfl)) pgs_nil)))))
        (pss_cons (ps_set (i := 6) sc_law_born.nd rfl (Or.inl rfl) (pe_slice sl_U (pv 1) po_none (po_some (pv 3))))
        (pss_cons (ps_set (i := 7) sc_law_born.nd rfl (Or.inl rfl) (pe_slice sl_U (pv 1) (po_some (pe_op op_addU (pv 3) (pv 4))) po_none))
        (pss_cons (ps_set (i := 8) sc_law_born.nd rfl (Or.inl rfl) (pe_lst pa_nil))
        (pss_cons (ps_if (pt_cmpR (op_neU hr.units) (pv 5) pe_str (nomark _)) (pss_cons (ps_setLc (i := 8) (own := [("_law_k", 11)]) (g := gName 11) rfl sc_law_born.nd rfl rfl (sw_true rfl rfl rfl (by decide +kernel)) (pi_range1 (by rfl) T.n_range (pa_cons (pe_callB call_lenU (by rfl) T.n_len (by decide +kernel) (pa_cons (pv 5) pa_nil)) pa_nil)) (blkOk_by (N := N_law_born) (sc := defScope s_law_born) (by decide +kernel)) (fun _ _ _ _ _ => pg_name (i := 11) sc_law_born.nd rfl (Or.inl rfl)) (fun _ _ _ _ _ => pts_nil) (fun _ _ _ _ _ => (pe_tup (pa_cons (pe_callB (k_len (K := K) rfl) (by rfl) T.n_len (by decide +kernel) (pa_cons (pv 0) pa_nil)) (pa_cons (pv 11) pa_nil)))))
        (pss_cons (ps_set (i := 9) sc_law_born.nd rfl (Or.inl rfl) (pe_tup (pa_cons pe_int (pa_cons pe_int pa_nil))))
        (Evl.pss_cut (ps_if (pt_cmpR op_gt (pe_callB call_lenU (by rfl) T.n_len (by decide +kernel) (pa_cons (pv 6) pa_nil)) pe_int (nomark _)) (pss_one (ps_set (i := 9) sc_law_born.nd rfl (Or.inl rfl) (pe_ix ix_seq (pv 6) (pe_op op_sub (pe_callB call_lenU (by rfl) T.n_len (by decide +kernel) (pa_cons (pv 6) pa_nil)) pe_int) (fun _ _ => rfl)))) pss_nil)
        (pss_cons (ps_set (i := 10) sc_law_born.nd rfl (Or.inl rfl) (pe_tup (pa_cons pe_int (pa_cons pe_int pa_nil))))
        (Evl.pss_cut (ps_if (pt_cmpR op_gt (pe_callB call_lenU (by rfl) T.n_len (by decide +kernel) (pa_cons (pv 7) pa_nil)) pe_int (nomark _)) (pss_one (ps_set (i := 10) sc_law_born.nd rfl (Or.inl rfl) (pe_ix ix_seq (pv 7) pe_int (fun _ _ => rfl)))) pss_nil)
        (pss_one (ps_expr (pe_bm PySem.F.plainAttrs_list PySem.F.slot_list_append PySem.F.type_list_append mt_append (pv 0) (pa_cons (pe_tup (pa_cons (pv 9) (pa_cons (pv 10) pa_nil))) pa_nil))))))))) pss_nil)
        (pss_one (ps_ret (pe_op op_addU (pe_op op_addU (pv 6) (pv 8)) (pv 7))))))))), ?_⟩
    dsimp only at hq
    have hlen := hP.len
    have tl : t.length ≤ sizeLine := Nat.le_of_lt (Nat.lt_of_le_of_lt ht (by decide))
    have eX : (X ++ C ++ Y).take X.length = X := by rw [List.append_assoc, List.take_left']; rfl
    have eY : (X ++ C ++ Y).drop (X.length + C.length) = Y := by rw [← List.length_append, List.drop_left']; rfl
    have lX : X.length + C.length + Y.length ≤ 400 := by simpa [Nat.add_assoc] using hl
    walk_at "rd"
    refine r_gtup (sqT hq) rfl ?_
    walk_at "rd"
    refine r_slL (sqL hp) fun p1 n1 => ?_
    rw [cutV_to]
    obtain ⟨H1, k1, e1, h1⟩ := nL (.lst (xs.take X.length)) n1
    rw [← k1]
    walk_at "rd"
    rw [show ((X.length : Int) + (C.length : Int)) = ((X.length + C.length : Nat) : Int) from rfl]
    refine r_slL (sqL (e1 _ _ hp)) fun p2 n2 => ?_
    rw [cutV_from]
    obtain ⟨H2, k2, e2, h2⟩ := nL (.lst (xs.drop (X.length + C.length))) n2
    rw [← k2]
    walk_at "rd"
    refine r_small nsz fun p3 n3 => ?_
    obtain ⟨H3, k3, e3, h3⟩ := nL (.lst []) n3
    rw [← k3]
    have e03 := (e1.trans e2).trans e3
    have hP1 : P2 (SgV H3) (xs.take X.length) X := by
      have z := (p2_imm (.ex e03) hP).take X.length
      rw [eX] at z
      exact z
    have hP2 : P2 (SgV H3) (xs.drop (X.length + C.length)) Y := by
      have z := (p2_imm (.ex e03) hP).drop (X.length + C.length)
      rw [eY] at z
      exact z
    have l1 := hP1.len
    have l2 := hP2.len
    have h13 := (e2.trans e3) _ _ h1
    have h23 := e3 _ _ h2
    walk_at "rd"
    refine r_iteN (fun hne => ?_) (fun he => ?_)
    · have hne' : t ≠ "" := fun z => hne (by rw [z])
      walk_at "rd"
      refine r_lenS tl ?_
      walk_at "rd"
      refine l_lcR (by omega) (by omega) (fun D i H' => ∃ acc, Ex H3 H' ∧ H' D = some (.lst acc) ∧ P2 (SgV H') acc ((List.range i).map fun k => (n, k))) (fun D hD => ⟨[], Same.new (Same.refl H3) hD, upd_same, .nil⟩) (fun D i H' hD hi hW => ?_) (fun D H' hD hW => ?_)
      · obtain ⟨acc, e, hacc, hA⟩ := hW
        obtain ⟨bs, hbs, bl, hba⟩ := hb
        walk_at "rd"
        refine ⟨rfl, ?_⟩
        walk_at "rd"
        refine r_lenL (sqL (e _ _ (e03 _ _ hbs))) ?_
        walk_at "rd"
        rw [bl]
        refine r_small nsz fun p5 n5 => ?_
        obtain ⟨H5, k5, e5, s5⟩ := nS (i := n) (j := i) n5 rfl rfl
        rw [← k5]
        have hl := hA.len
        have hl2 : acc.length = i := by rw [hl]; simp
        refine ⟨acc, e5 _ _ hacc, Nat.lt_of_le_of_lt (show acc.length ≤ 1000 by omega) (by decide), acc ++ [.ref p5], Same.mut (e.trans e5) hD, upd_same, ?_⟩
        have t6 := Tk.put (o := .lst (acc ++ [.ref p5])) (e5 _ _ hacc)
        rw [List.range_succ, List.map_append]
        exact (p2_imm ((Tk.ex e5).trans t6) hA).snoc (imm t6 s5)
      · obtain ⟨acc, e4, hacc, hA⟩ := hW
        rw [Int.toNat_natCast] at hA
        walk_at "rd"
        refine r_small nsz fun p5 n5 => ?_
        obtain ⟨H5, k5, e5, s5⟩ := nS (a := 0) (b := 0) (i := 0) (j := 0) n5 rfl rfl
        rw [← k5]
        have e35 := e4.trans e5
        walk_at "rd"
        refine ⟨fun σ H' => ∃ v, σ = [some (.ref fb), some (.ref p), some (.ref q1), some (.int (X.length : Nat)), some (.int (C.length : Nat)), some (.str t), some (.ref p1), some (.ref p2), some (.ref D), some v, none, none] ∧ H5 = H' ∧ SgV H5 v (lft X), ?_, ?_⟩
        · walk_at "rd"
          refine r_lenL (sqL (e35 _ _ h13)) ?_
          walk_at "rd"
          refine r_ite (fun hx => ?_) (fun hx => ?_)
          · walk_at "rd"
            refine r_lenL (sqL (e35 _ _ h13)) ?_
            walk_at "rd"
            obtain ⟨y, hy⟩ : ∃ y, X.getLast? = some y := by
              cases ee : X.getLast? with
              | none =>
                have l0 : X.length = 0 := List.length_eq_zero_iff.mpr (List.getLast?_eq_none_iff.mp ee)
                omega
              | some y => exact ⟨y, rfl⟩
            have hy' : X[X.length - 1]? = some y := by rw [← List.getLast?_eq_getElem?]; exact hy
            obtain ⟨u, hu, su⟩ := hP1.get' hy'
            refine r_ixL (sqL (e35 _ _ h13)) (at_g (j := X.length - 1) (by omega) hu) ?_
            walk_at "rd"
            refine ⟨u, rfl, rfl, ?_⟩
            unfold lft
            rw [hy]
            exact su.up e35
          · walk_at "rd"
            refine ⟨_, rfl, rfl, ?_⟩
            have ee : X = [] := List.length_eq_zero_iff.mp (by omega)
            rw [ee]
            exact s5
        rintro σ _ ⟨lv, rfl, rfl, slv⟩
        walk_at "rd"
        refine r_small nsz fun p6 n6 => ?_
        obtain ⟨H6, k6, e6, s6⟩ := nS (a := 0) (b := 1) (i := 0) (j := 1) n6 rfl rfl
        rw [← k6]
        have e36 := e35.trans e6
        walk_at "rd"
        refine ⟨fun σ H' => ∃ v, σ = [some (.ref fb), some (.ref p), some (.ref q1), some (.int (X.length : Nat)), some (.int (C.length : Nat)), some (.str t), some (.ref p1), some (.ref p2), some (.ref D), some lv, some v, none] ∧ H6 = H' ∧ SgV H6 v (rgt Y), ?_, ?_⟩
        · walk_at "rd"
          refine r_lenL (sqL (e36 _ _ h23)) ?_
          walk_at "rd"
          refine r_ite (fun hx => ?_) (fun hx => ?_)
          · walk_at "rd"
            obtain ⟨y, hy⟩ : ∃ y, Y.head? = some y := by
              cases ee : Y.head? with
              | none =>
                have l0 : Y.length = 0 := List.length_eq_zero_iff.mpr (List.head?_eq_none_iff.mp ee)
                omega
              | some y => exact ⟨y, rfl⟩
            have hy' : Y[0]? = some y := by rw [← List.head?_eq_getElem?]; exact hy
            obtain ⟨u, hu, su⟩ := hP2.get' hy'
            refine r_ixL (sqL (e36 _ _ h23)) (at_g (j := 0) rfl hu) ?_
            walk_at "rd"
            refine ⟨u, rfl, rfl, ?_⟩
            unfold rgt
            rw [hy]
            exact su.up e36
          · walk_at "rd"
            refine ⟨_, rfl, rfl, ?_⟩
            have ee : Y = [] := List.length_eq_zero_iff.mp (by omega)
            rw [ee]
            exact s6
        rintro σ _ ⟨rv, rfl, rfl, srv⟩
        obtain ⟨bs, hbs, bl, hba⟩ := hb
        have e06 := e03.trans e36
        walk_at "rd"
        refine r_tyL (sqL (e06 _ _ hbs)) ?_
        walk_at "rd"
        refine r_small nsz fun p7 n7 => ?_
        obtain ⟨H7, k7, e7, s7⟩ := nP n7 (slv.up e6) srv
        rw [← k7]
        have e07 := e06.trans e7
        have hb7 := e07 _ _ hbs
        walk_at "rd"
        refine r_app hb7 (Nat.lt_of_le_of_lt (show bs.length ≤ 1000 by omega) (by decide)) ?_
        walk_at "rd"
        have t8 := Tk.put (o := .lst (bs ++ [.ref p7])) hb7
        obtain ⟨H8, k8⟩ : ∃ H8, H8 = upd H7 fb (.lst (bs ++ [.ref p7])) := ⟨_, rfl⟩
        rw [← k8] at t8 ⊢
        have e37 := e36.trans e7
        have nD : D ≠ fb := fun z => by rw [z, e03 _ _ hbs] at hD; cases hD
        have np1 : p1 ≠ fb := fun z => by rw [z, hbs] at n1; cases n1
        have np2 : p2 ≠ fb := fun z => by rw [z, e1 _ _ hbs] at n2; cases n2
        have keep : ∀ q o, q ≠ fb → H7 q = some o → H8 q = some o := fun q o hq hh => by rw [k8, upd_ne hq]; exact hh
        have hD8 := keep D _ nD (((e5.trans e6).trans e7) _ _ hacc)
        have h18 := keep p1 _ np1 (e37 _ _ h13)
        have h28 := keep p2 _ np2 (e37 _ _ h23)
        have tD := ((Tk.ex ((e5.trans e6).trans e7)).trans t8)
        have t38 := (Tk.ex e37).trans t8
        have la := hA.len
        have la2 : acc.length = t.length := by rw [la]; simp
        refine r_catL h18 hD8 (by omega) fun p9 n9 => ?_
        obtain ⟨H9, k9, e9, h9⟩ := nL (.lst (xs.take X.length ++ acc)) n9
        rw [← k9]
        walk_at "rd"
        refine r_catL h9 (e9 _ _ h28) (by rw [List.length_append]; omega) fun pa na => ?_
        obtain ⟨Ha, ka, ea, ha⟩ := nL (.lst (xs.take X.length ++ acc ++ xs.drop (X.length + C.length))) na
        rw [← ka]
        have e8a := e9.trans ea
        refine qn hne' pa Ha _ (fun q o hq hh => e8a _ _ (keep q o hq (e07 _ _ hh))) (((Tk.ex e07).trans t8).trans (.ex e8a)) ?_ ⟨bs ++ [.ref p7], e8a _ _ (by rw [k8, upd_same]), by rw [List.length_append, bl]; rfl, fun c v hv => ?_⟩ ha ?_
        · refine e07.free ?_
          have z := e9.free na
          have nf : pa ≠ fb := fun q => by rw [k8, q, upd_same] at z; cases z
          rw [k8, upd_ne nf] at z
          exact z
        · by_cases hc : c < bs.length
          · rw [List.getElem?_append_left hc] at hv
            rw [upn_ne (by omega), upn_ne (by omega)]
            exact imm (((Tk.ex e07).trans t8).trans (.ex e8a)) (hba c v hv)
          · have h2 := (List.getElem?_eq_some_iff.mp hv).1
            rw [List.length_append] at h2
            have ec : c = n := by simp at h2; omega
            subst ec
            rw [List.getElem?_append_right (by omega), bl, Nat.sub_self] at hv
            rw [upd_at, upd_at, ← Option.some.inj hv]
            exact imm (t8.trans (.ex e8a)) s7
        · exact (((p2_imm (t38.trans (.ex e8a)) hP1).app (p2_imm (tD.trans (.ex e8a)) hA)).app (p2_imm (t38.trans (.ex e8a)) hP2))
    · have he' : t = "" := V.str.inj he
      walk_at "rd"
      refine r_catL h13 h3 (by simp; omega) fun p9 n9 => ?_
      obtain ⟨H9, k9, e9, h9⟩ := nL (.lst (xs.take X.length ++ [])) n9
      rw [← k9]
      walk_at "rd"
      refine r_catL h9 (e9 _ _ h23) (by simp; omega) fun pa na => ?_
      obtain ⟨Ha, ka, ea, ha⟩ := nL (.lst (xs.take X.length ++ [] ++ xs.drop (X.length + C.length))) na
      rw [← ka]
      have e3a := e9.trans ea
      refine qe he' pa Ha _ (e03.trans e3a) ((e03.trans e9).free na) ha ?_
      rw [List.append_nil]
      exact (p2_imm (.ex e3a) hP1).app (p2_imm (.ex e3a) hP2)
end
end K16
namespace K16
open PySem PySem.Spec PyProof.Rows L2 Dk
/-- one step of a reading -/
local macro_rules | `(tactic| walk_at "rd1") => `(tactic| first
  | ((with_reducible refine r_var (v := ?rv) ?rh ?_); (case rh => rfl))
  | with_reducible refine r_c ?_
  | with_reducible refine r_seq ?_
  | with_reducible refine r_asg ?_
  | with_reducible refine r_par ?_
  | with_reducible refine r_gname ?_
  | with_reducible refine r_op ?_
  | with_reducible refine r_forLo ?_
  | with_reducible refine r_forTo ?_
  | with_reducible refine r_forSo ?_
  | with_reducible refine r_forRo ?_
  | with_reducible refine r_forRvo ?_
  | with_reducible refine r_lcRo ?_
  | with_reducible refine r_lcLo ?_
  | with_reducible refine r_yes ?_
  | with_reducible refine r_callK0 ?_
  | with_reducible refine r_break ?_
  | with_reducible refine r_forR2o ?_
  | with_reducible refine r_forEo ?_
  | with_reducible refine r_forESo ?_
  | with_reducible refine r_xfo ?_
  | with_reducible refine r_noP ?_
  | with_reducible refine r_part ?_
  | with_reducible refine r_pI ?_
  | with_reducible refine r_gcons ?_
  | with_reducible refine r_gnil ?_
  | with_reducible refine r_mkO ?_
  | with_reducible refine r_un ?_
  | with_reducible refine r_addI ?_
  | with_reducible refine r_I0 ?_
  | with_reducible refine r_U ?_
  | with_reducible refine r_cons ?_
  | with_reducible refine r_nil ?_
  | with_reducible refine r_CB ?_
  | with_reducible refine r_call ?_
  | with_reducible refine r_callS ?_
  | with_reducible refine r_int ?_
  | with_reducible refine r_max ?_
  | with_reducible refine r_min ?_
  | with_reducible refine r_test ?_
  | with_reducible refine r_B ?_
  | with_reducible refine r_blv ?_
  | with_reducible refine r_and ?_
  | with_reducible refine r_or ?_
  | with_reducible refine r_not ?_
  | with_reducible refine r_andV ?_
  | with_reducible refine r_orV ?_
  | with_reducible refine r_notV ?_
  | with_reducible refine r_ifE ?_
  | with_reducible refine r_ifS ?_
  | with_reducible refine r_ret ?_
  | with_reducible refine r_retN ?_
  | with_reducible refine r_drop ?_
  | with_reducible refine r_next ?_
  | with_reducible refine r_sl ?_
  | with_reducible refine r_gsub ?_
  | with_reducible refine r_bm ?_
  | with_reducible refine r_tup ?_
  | with_reducible refine r_lst ?_
  | with_reducible refine r_isN ?_
  | with_reducible refine r_notN ?_
  | with_reducible refine r_itt ?_
  | with_reducible refine r_iff ?_
  | with_reducible refine r_ittN ?_
  | with_reducible refine r_iffN ?_
  | ((with_reducible refine r_ittD ?rh ?_); (case rh => rfl))
  | ((with_reducible refine r_iffD ?rh ?_); (case rh => rfl))
  | ((with_reducible refine r_modP ?rh ?_); (case rh => decide))
  | ((with_reducible refine r_eq ?rh ?_); (case rh => rfl))
  | ((with_reducible refine r_eqP ?rh ?_); (case rh => rfl))
  | ((with_reducible refine r_ne ?rh ?_); (case rh => rfl)))
local macro_rules | `(tactic| walk_at "rd") => `(tactic| repeat walk_at "rd1")
local macro_rules | `(tactic| walk_at "isi") => `(tactic| first | refine r_isi (b := true) (by assumption) (by decide +kernel) ?_ | refine r_isi (b := false) (by assumption) (by decide +kernel) ?_)
local macro_rules | `(tactic| walk_at "rs1") => `(tactic| first
  | with_reducible refine r_seq ?_
  | with_reducible refine r_asg ?_
  | with_reducible refine r_gname ?_
  | with_reducible refine r_ret ?_)
local macro_rules | `(tactic| walk_at "rs") => `(tactic| repeat walk_at "rs1")

section
variable {P : Program} {w : World} {K : PySem.W.Frag} {mg : Str → Option Value} {base : Heap}
open Tl (Sg upn upn_ne upd_at)
open Mv (lft rgt frs)
/-- all but the state and two lists of our own stays -/
structure Fx (a fb fs : Addr) (H H' : Hp) : Prop where
  hh : ∀ q o, q ≠ a → q ≠ fb → q ≠ fs → H q = some o → H' q = some o
  tk : Tk H H'
section
variable {a fb fs p : Addr} {H H1 H2 : Hp} {o : HO} {xs : List V}
theorem Fx.refl (H : Hp) : Fx a fb fs H H := ⟨fun _ _ _ _ _ h => h, Tk.refl H⟩
theorem Fx.trans (x : Fx a fb fs H H1) (y : Fx a fb fs H1 H2) : Fx a fb fs H H2 := ⟨fun q o h1 h2 h3 h => y.hh q o h1 h2 h3 (x.hh q o h1 h2 h3 h), x.tk.trans y.tk⟩
theorem Fx.ex (e : Ex H H1) : Fx a fb fs H H1 := ⟨fun q o _ _ _ h => e q o h, .ex e⟩
theorem Fx.dr (s : Stt H a) (d : Dr a H H1) : Fx a fb fs H H1 := ⟨fun q o h _ _ e => d.hh q o h e, stt_tk s d⟩
theorem Fx.but (b : But fb H H1) (t : Tk H H1) : Fx a fb fs H H1 := ⟨fun q o _ h _ e => b q o h e, t⟩
theorem Fx.put (h : H fs = some (.lst xs)) : Fx a fb fs H (upd H fs o) := ⟨fun q u _ _ h3 e => by rw [upd_ne h3]; exact e, Tk.put h⟩
end
/-- the state, the births, the signs, the row -/
structure Sc (a fb fs rp : Addr) (H : Hp) (L R : Nat → Sg) (sz : Nat → Nat) (n : Nat) (row ss : List Sg) : Prop where
  st : Stt H a
  b : BirL H fb L R n
  r : ∃ xs, H rp = some (.lst xs) ∧ P2 (SgV H) xs row
  s : ∃ ys, H fs = some (.lst ys) ∧ P2 (SgV H) ys ss
  ok : Mv.Rws L R sz n row
  so : ∀ x ∈ ss, Tl.Ok sz n x ∧ 0 < x.1
  nr : rp ≠ a ∧ rp ≠ fb ∧ rp ≠ fs
  nd : fb ≠ a ∧ fs ≠ a ∧ fs ≠ fb
section
variable {a fb fs rp : Addr} {H H' : Hp} {L R : Nat → Sg} {sz : Nat → Nat} {n : Nat} {row ss : List Sg}
theorem Sc.ex (c : Sc a fb fs rp H L R sz n row ss) (e : Ex H H') : Sc a fb fs rp H' L R sz n row ss := by
  obtain ⟨xs, h1, h2⟩ := c.r
  obtain ⟨ys, h3, h4⟩ := c.s
  exact { c with st := c.st.up e, b := c.b.ex e, r := ⟨xs, e _ _ h1, p2_imm (.ex e) h2⟩, s := ⟨ys, e _ _ h3, p2_imm (.ex e) h4⟩ }
theorem Sc.dr (c : Sc a fb fs rp H L R sz n row ss) (d : Dr a H H') : Sc a fb fs rp H' L R sz n row ss := by
  obtain ⟨xs, h1, h2⟩ := c.r
  obtain ⟨ys, h3, h4⟩ := c.s
  have t := stt_tk c.st d
  exact { c with st := d.st, b := c.b.mono t fun o => d.hh _ o c.nd.1, r := ⟨xs, d.hh _ _ c.nr.1 h1, p2_imm t h2⟩, s := ⟨ys, d.hh _ _ c.nd.2.1 h3, p2_imm t h4⟩ }
end
theorem cut3 {α : Type} {row : List α} {a c : Nat} (h : a + c ≤ row.length) : ∃ X C Y, row = X ++ C ++ Y ∧ X.length = a ∧ C.length = c := by
  refine ⟨row.take a, (row.drop a).take c, row.drop (a + c), ?_, by rw [List.length_take]; omega, by rw [List.length_take, List.length_drop]; omega⟩
  rw [List.append_assoc, ← List.drop_drop, List.take_append_drop, List.take_append_drop]
theorem up_ok {sz : Nat → Nat} {n m : Nat} {x : Sg} (h : Tl.Ok sz n x) : Tl.Ok (upn sz n m) (n + 1) x := ⟨Nat.lt_succ_of_lt h.1, by rw [upn_ne h.1]; exact h.2⟩
theorem frs_ok {sz : Nat → Nat} {n m : Nat} (n0 : 0 < n) : ∀ x ∈ frs n m, Tl.Ok (upn sz n m) (n + 1) x ∧ 0 < x.1 := fun x hx => by
  obtain ⟨i, hi, rfl⟩ := List.mem_map.mp hx
  exact ⟨⟨Nat.lt_succ_self n, by show i < upn sz n m n; rw [upd_at]; exact List.mem_range.mp hi⟩, n0⟩
theorem frs_len {n m : Nat} : (frs n m).length = m := by simp [Mv.frs]
/-- a splice was done: what is known -/
theorem Sc.step0 {a fb fs rp q : Addr} {H H' : Hp} {L R : Nat → Sg} {sz : Nat → Nat} {n : Nat} {X C Y ss : List Sg} {ys : List V} (c : Sc a fb fs rp H L R sz n (X ++ C ++ Y) ss) (e : Ex H H') (hq : H q = none) (hq' : H' q = some (.lst ys)) (hP : P2 (SgV H') ys (X ++ Y)) :
    Sc a fb fs q H' L R sz n (X ++ Y) ss := by
  have c' := c.ex e
  obtain ⟨bs, h1, _⟩ := c.b
  obtain ⟨zs, h2, _⟩ := c.s
  exact { c' with r := ⟨ys, hq', hP⟩, ok := c.ok.cut, nr := ⟨c.st.ne hq, (fun z => by rw [z, h1] at hq; cases hq), (fun z => by rw [z, h2] at hq; cases hq)⟩ }
theorem Sc.step1 {a fb fs rp q : Addr} {H H' : Hp} {L R : Nat → Sg} {sz : Nat → Nat} {n m : Nat} {X C Y ss : List Sg} {ys : List V} (c : Sc a fb fs rp H L R sz n (X ++ C ++ Y) ss) (m0 : 0 < m) (bt : But fb H H') (t : Tk H H') (hq : H q = none)
    (hb : BirL H' fb (upn L n (lft X)) (upn R n (rgt Y)) (n + 1)) (hq' : H' q = some (.lst ys)) (hP : P2 (SgV H') ys (X ++ frs n m ++ Y)) :
    Sc a fb fs q H' (upn L n (lft X)) (upn R n (rgt Y)) (upn sz n m) (n + 1) (X ++ frs n m ++ Y) ss := by
  obtain ⟨bs, h1, _⟩ := c.b
  obtain ⟨zs, h2, h3⟩ := c.s
  obtain ⟨z, hz, z0, z1⟩ := c.st
  exact ⟨⟨z, bt _ _ c.nd.1.symm hz, z0, z1⟩, hb, ⟨ys, hq', hP⟩, ⟨zs, bt _ _ c.nd.2.2 h2, p2_imm t h3⟩, c.ok.born m0, fun x hx => ⟨up_ok (c.so x hx).1, (c.so x hx).2⟩,
    ⟨(fun z => by rw [z, hz] at hq; cases hq), (fun z => by rw [z, h1] at hq; cases hq), (fun z => by rw [z, h2] at hq; cases hq)⟩, c.nd⟩
/-- signs are written down -/
theorem Sc.note {a fb fs rp : Addr} {H : Hp} {L R : Nat → Sg} {sz : Nat → Nat} {n : Nat} {row ss nw : List Sg} {ys zs : List V} (c : Sc a fb fs rp H L R sz n row ss) (hs : H fs = some (.lst ys)) (hys : P2 (SgV H) ys ss) (hz : P2 (SgV H) zs nw) (hn : ∀ x ∈ nw, Tl.Ok sz n x ∧ 0 < x.1) :
    Sc a fb fs rp (upd H fs (.lst (ys ++ zs))) L R sz n row (ss ++ nw) := by
  obtain ⟨xs, h1, h2⟩ := c.r
  have t := Tk.put (o := .lst (ys ++ zs)) hs
  refine ⟨c.st.put c.nd.2.1, c.b.mono t fun o h => by rw [upd_ne c.nd.2.2.symm]; exact h, ⟨xs, by rw [upd_ne c.nr.2.2]; exact h1, p2_imm t h2⟩, ⟨_, upd_same, (p2_imm t hys).app (p2_imm t hz)⟩, c.ok, fun x hx => ?_, c.nr, c.nd⟩
  rcases List.mem_append.mp hx with h | h
  · exact c.so x h
  · exact hn x h
def spWhole : Sp := fun vs H Q _ => ∃ a, vs = [.ref a] ∧ Stt H a ∧ ∀ H', Dr a H H' → Q (.bl true) H'
end
end K16
namespace K16
open PySem PySem.Spec PyProof.Rows L2 Dk
/-- one step of a reading -/
local macro_rules | `(tactic| walk_at "rd1") => `(tactic| first
  | ((with_reducible refine r_var (v := ?rv) ?rh ?_); (case rh => rfl))
  | with_reducible refine r_c ?_
  | with_reducible refine r_seq ?_
  | with_reducible refine r_asg ?_
  | with_reducible refine r_par ?_
  | with_reducible refine r_gname ?_
  | with_reducible refine r_op ?_
  | with_reducible refine r_forLo ?_
  | with_reducible refine r_forTo ?_
  | with_reducible refine r_forSo ?_
  | with_reducible refine r_forRo ?_
  | with_reducible refine r_forRvo ?_
  | with_reducible refine r_lcRo ?_
  | with_reducible refine r_lcLo ?_
  | with_reducible refine r_yes ?_
  | with_reducible refine r_callK0 ?_
  | with_reducible refine r_break ?_
  | with_reducible refine r_forR2o ?_
  | with_reducible refine r_forEo ?_
  | with_reducible refine r_forESo ?_
  | with_reducible refine r_xfo ?_
  | with_reducible refine r_noP ?_
  | with_reducible refine r_part ?_
  | with_reducible refine r_pI ?_
  | with_reducible refine r_gcons ?_
  | with_reducible refine r_gnil ?_
  | with_reducible refine r_mkO ?_
  | with_reducible refine r_un ?_
  | with_reducible refine r_addI ?_
  | with_reducible refine r_I0 ?_
  | with_reducible refine r_U ?_
  | with_reducible refine r_cons ?_
  | with_reducible refine r_nil ?_
  | with_reducible refine r_CB ?_
  | with_reducible refine r_call ?_
  | with_reducible refine r_callS ?_
  | with_reducible refine r_int ?_
  | with_reducible refine r_max ?_
  | with_reducible refine r_min ?_
  | with_reducible refine r_test ?_
  | with_reducible refine r_B ?_
  | with_reducible refine r_blv ?_
  | with_reducible refine r_and ?_
  | with_reducible refine r_or ?_
  | with_reducible refine r_not ?_
  | with_reducible refine r_andV ?_
  | with_reducible refine r_orV ?_
  | with_reducible refine r_notV ?_
  | with_reducible refine r_ifE ?_
  | with_reducible refine r_ifS ?_
  | with_reducible refine r_ret ?_
  | with_reducible refine r_retN ?_
  | with_reducible refine r_drop ?_
  | with_reducible refine r_next ?_
  | with_reducible refine r_sl ?_
  | with_reducible refine r_gsub ?_
  | with_reducible refine r_bm ?_
  | with_reducible refine r_tup ?_
  | with_reducible refine r_lst ?_
  | with_reducible refine r_isN ?_
  | with_reducible refine r_notN ?_
  | with_reducible refine r_itt ?_
  | with_reducible refine r_iff ?_
  | with_reducible refine r_ittN ?_
  | with_reducible refine r_iffN ?_
  | ((with_reducible refine r_ittD ?rh ?_); (case rh => rfl))
  | ((with_reducible refine r_iffD ?rh ?_); (case rh => rfl))
  | ((with_reducible refine r_modP ?rh ?_); (case rh => decide))
  | ((with_reducible refine r_eq ?rh ?_); (case rh => rfl))
  | ((with_reducible refine r_eqP ?rh ?_); (case rh => rfl))
  | ((with_reducible refine r_ne ?rh ?_); (case rh => rfl)))
local macro_rules | `(tactic| walk_at "rd") => `(tactic| repeat walk_at "rd1")
local macro_rules | `(tactic| walk_at "isi") => `(tactic| first | refine r_isi (b := true) (by assumption) (by decide +kernel) ?_ | refine r_isi (b := false) (by assumption) (by decide +kernel) ?_)
local macro_rules | `(tactic| walk_at "rs1") => `(tactic| first
  | with_reducible refine r_seq ?_
  | with_reducible refine r_asg ?_
  | with_reducible refine r_gname ?_
  | with_reducible refine r_ret ?_)
local macro_rules | `(tactic| walk_at "rs") => `(tactic| repeat walk_at "rs1")

section
variable {P : Program} {w : World} {K : PySem.W.Frag} {mg : Str → Option Value} {base : Heap}
open Tl (Sg upn upn_ne upd_at)
open Mv (lft rgt)
theorem dr_fx {a fb fs : Addr} {H H1 H2 : Hp} (x : Dr a H H1) (f : Fx a fb fs H1 H2) (h1 : H fb = none) (h2 : H fs = none) (s : Stt H2 a) : Dr a H H2 :=
  ⟨fun q o n e => f.hh q o n (ne_of_none e h1) (ne_of_none e h2) (x.hh q o n e), s⟩
theorem drop_back {α : Type} {l : List α} {i : Nat} {x : α} (hi : i < l.length) (hx : l[l.length - 1 - i]? = some x) : l.drop (l.length - (i + 1)) = x :: l.drop (l.length - i) := by
  have h1 := (List.getElem?_eq_some_iff.mp hx).1
  have h2 := (List.getElem?_eq_some_iff.mp hx).2
  have h3 : l.length - (i + 1) = l.length - 1 - i := by omega
  rw [h3, List.drop_eq_getElem_cons h1, h2]
  congr 2
  omega
/-- one splice more -/
theorem lead_tri {a fb fs rp : Addr} {H : Hp} {L R : Nat → Sg} {sz : Nat → Nat} {n : Nat} {X C Y ss : List Sg} {x : Spc} {z : Sg × Nat} (c : Sc a fb fs rp H L R sz n (X ++ C ++ Y) ss) (ask : Mv.Ask z.1 z.2) (oz : Tl.Ok sz n z.1) (e1 : X.length = x.1) (e2 : C.length = x.2.1) :
    (x.2.2 = "" → Mv.plc L R (X ++ Y) z.1 z.2 = Mv.mv z.2 (Mv.plc L R (X ++ C ++ Y) z.1 z.2) (tri x)) ∧
    (0 < x.2.2.length → Mv.plc (upn L n (lft X)) (upn R n (rgt Y)) (X ++ Mv.frs n x.2.2.length ++ Y) z.1 z.2 = Mv.mv z.2 (Mv.plc L R (X ++ C ++ Y) z.1 z.2) (tri x)) := by
  obtain ⟨b, d, t⟩ := x
  dsimp only at e1 e2 ⊢
  subst e1 e2
  refine ⟨fun h => ?_, fun h => Mv.lead c.ok oz ask h⟩
  subst h
  exact Mv.lead0 c.ok oz ask
theorem ok_law_whole (T : Txt K mg) : FnOk P w K mg base CX0 32 T.a_law_whole T.d_law_whole ["_law_state"] spWhole := by
  refine T.F_law_whole.ok sc_law_whole (fun vs H Q E h => ?_) (fun cdv A outer s H vs Q E hr h => ?_)
  · obtain ⟨a, rfl, _⟩ := h
    rfl
  · obtain ⟨a, rfl, st, q⟩ := h
    refine ⟨_, (pss_cons (ps_set (i := 1) sc_law_whole.nd rfl (Or.inr rfl) (pe_lst (pa_cons (pe_tup (pa_cons (pe_tup (pa_cons pe_int (pa_cons pe_int pa_nil))) (pa_cons (pe_tup (pa_cons pe_int (pa_cons pe_int pa_nil))) pa_nil))) pa_nil)))
        (pss_cons (ps_set (i := 2) sc_law_whole.nd rfl (Or.inl rfl) (pe_lst pa_nil))
        (pss_cons (ps_set (i := 3) sc_law_whole.nd rfl (Or.inr rfl) (pe_lst pa_nil))
        (pss_cons (ps_set (i := 4) sc_law_whole.nd rfl (Or.inl rfl) (pe_call (ok_law_draw T) (hr.mono (by decide)) (by rfl) T.g_law_draw T.F_law_draw.kp T.b_law_draw .nil pass0 (pa_cons (pv 0) (pa_cons pe_int pa_nil))))
        (Evl.pss_cut (ps_if (pt_cmpR op_gt (pv 4) pe_int (nomark _)) (pss_cons (ps_set (i := 3) sc_law_whole.nd rfl (Or.inr rfl) (pe_call (ok_law_born T) (hr.mono (by decide)) (by rfl) T.g_law_born T.F_law_born.kp T.b_law_born .nil pass0 (pa_cons (pv 1) (pa_cons (pv 3) (pa_cons (pe_tup (pa_cons pe_int (pa_cons pe_int (pa_cons (pe_op op_repS pe_str (pv 4)) pa_nil)))) pa_nil)))))
        (pss_one (ps_expr (pe_bm PySem.F.plainAttrs_list PySem.F.slot_list_extend PySem.F.type_list_extend mt_extend (pv 2) (pa_cons (pv 3) pa_nil))))) pss_nil)
        (pss_cons (ps_for PassesOwn.never rfl (pi_range1 (by rfl) T.n_range (pa_cons (pe_op op_addU pe_int (pe_call (ok_law_draw T) (hr.mono (by decide)) (by rfl) T.g_law_draw T.F_law_draw.kp T.b_law_draw .nil pass0 (pa_cons (pv 0) (pa_cons pe_int pa_nil)))) pa_nil)) (pg_name (i := 5) sc_law_whole.nd rfl (Or.inl rfl)) (pss_cons (ps_set (i := 6) sc_law_whole.nd rfl (Or.inl rfl) (pe_call (ok_law_round T) (hr.mono (by decide)) (by rfl) T.g_law_round T.F_law_round.kp T.b_law_round .nil pass0 (pa_cons (pv 0) (pa_cons (pe_callB call_lenU (by rfl) T.n_len (by decide +kernel) (pa_cons (pv 3) pa_nil)) (pa_cons pe_int (pa_cons pe_int pa_nil))))))
        (pss_cons (ps_set (i := 7) sc_law_whole.nd rfl (Or.inl rfl) (pe_call (ok_law_anchors T) (hr.mono (by decide)) (by rfl) T.g_law_anchors T.F_law_anchors.kp T.b_law_anchors .nil pass0 (pa_cons (pv 2) pa_nil)))
        (pss_cons (ps_setLc (i := 8) (own := [("_law_a", 13)]) (g := gName 13) rfl sc_law_whole.nd rfl rfl (sw_true rfl rfl rfl (by decide +kernel)) (pi_list (pv 7)) (blkOk_by (N := N_law_whole) (sc := defScope s_law_whole) (by decide +kernel)) (fun _ _ _ _ _ => pg_name (i := 13) sc_law_whole.nd rfl (Or.inl rfl)) (fun _ _ _ _ _ => pts_nil) (fun _ _ _ _ _ => (pe_call (ok_law_place T) hr (by rfl) T.g_law_place T.F_law_place.kp T.b_law_place .nil pass0 (pa_cons (pv 1) (pa_cons (pv 3) (pa_cons (pe_ix (k_ix (K := K) rfl) (pv 13) pe_int (fun _ _ => rfl)) (pa_cons (pe_ix (k_ix (K := K) rfl) (pv 13) pe_int (fun _ _ => rfl)) pa_nil)))))))
        (pss_cons (ps_if (pt_not (pt_val (pe_call (ok_law_rises T) (hr.mono (by decide)) (by rfl) T.g_law_rises T.F_law_rises.kp T.b_law_rises .nil pass0 (pa_cons (pe_callB call_lenU (by rfl) T.n_len (by decide +kernel) (pa_cons (pv 3) pa_nil)) (pa_cons (pe_callTy call_tupU (by rfl) T.n_tuple (by decide +kernel) (pa_cons (pv 6) pa_nil)) pa_nil))))) (pss_one (ps_ret pe_bl)) pss_nil)
        (pss_cons (ps_for PassesOwn.never rfl (pi_range1 (by rfl) T.n_range (pa_cons (pe_callB call_lenU (by rfl) T.n_len (by decide +kernel) (pa_cons (pv 6) pa_nil)) pa_nil)) (pg_name (i := 9) sc_law_whole.nd rfl (Or.inl rfl)) (pss_cons (ps_set (i := 10) sc_law_whole.nd rfl (Or.inr rfl) (pe_callB call_lenU (by rfl) T.n_len (by decide +kernel) (pa_cons (pv 1) pa_nil)))
        (pss_cons (ps_set (i := 11) sc_law_whole.nd rfl (Or.inl rfl) (pe_ix ix_seq (pv 6) (pe_op op_sub (pe_op op_sub (pe_callB call_lenU (by rfl) T.n_len (by decide +kernel) (pa_cons (pv 6) pa_nil)) pe_int) (pv 9)) (fun _ _ => rfl)))
        (pss_cons (ps_set (i := 3) sc_law_whole.nd rfl (Or.inr rfl) (pe_call (ok_law_born T) (hr.mono (by decide)) (by rfl) T.g_law_born T.F_law_born.kp T.b_law_born .nil pass0 (pa_cons (pv 1) (pa_cons (pv 3) (pa_cons (pv 11) pa_nil)))))
        (pss_one (ps_if (pt_cmpR op_gt (pe_callB call_lenU (by rfl) T.n_len (by decide +kernel) (pa_cons (pv 1) pa_nil)) (pv 10) (nomark _)) (pss_one (ps_expr (pe_bm PySem.F.plainAttrs_list PySem.F.slot_list_extend PySem.F.type_list_extend mt_extend (pv 2) (pa_cons (pe_lc (own := [("_law_j", 14)]) (g := gName 14) rfl sc_law_whole.nd (pi_range1 (by rfl) T.n_range (pa_cons (pe_callB call_lenU (by rfl) T.n_len (by decide +kernel) (pa_cons (pe_ix ix_seq (pv 11) pe_int (fun _ _ => rfl)) pa_nil)) pa_nil)) (blkOk_by (N := N_law_whole) (sc := defScope s_law_whole) (by decide +kernel)) (fun _ _ _ _ _ => pg_name (i := 14) sc_law_whole.nd rfl (Or.inl rfl)) (fun _ _ _ _ _ => pts_nil) (fun _ _ _ _ _ => (pe_tup (pa_cons (pv 10) (pa_cons (pv 14) pa_nil))))) pa_nil)))) pss_nil))))))
        (pss_one (ps_for PassesOwn.never rfl (pi_range1 (by rfl) T.n_range (pa_cons (pe_callB call_lenU (by rfl) T.n_len (by decide +kernel) (pa_cons (pv 7) pa_nil)) pa_nil)) (pg_name (i := 9) sc_law_whole.nd rfl (Or.inl rfl)) (pss_cons (ps_set (i := 12) sc_law_whole.nd rfl (Or.inl rfl) (pe_call (ok_law_place T) hr (by rfl) T.g_law_place T.F_law_place.kp T.b_law_place .nil pass0 (pa_cons (pv 1) (pa_cons (pv 3) (pa_cons (pe_ix ix_seq (pe_ix ix_seq (pv 7) (pv 9) (fun _ _ => rfl)) pe_int (fun _ _ => rfl)) (pa_cons (pe_ix ix_seq (pe_ix ix_seq (pv 7) (pv 9) (fun _ _ => rfl)) pe_int (fun _ _ => rfl)) pa_nil))))))
        (pss_one (ps_if (pt_not (pt_val (pe_call (ok_law_is T) (hr.mono (by decide)) (by rfl) T.g_law_is T.F_law_is.kp T.b_law_is .nil pass0 (pa_cons (pv 12) (pa_cons (pe_call (ok_moved_place T) (hr.mono (by decide)) (by rfl) T.g_moved_place T.F_moved_place.kp T.b_moved_place .nil pass0 (pa_cons (pe_ix ix_seq (pv 8) (pv 9) (fun _ _ => rfl)) (pa_cons (pe_ix ix_seq (pe_ix ix_seq (pv 7) (pv 9) (fun _ _ => rfl)) pe_int (fun _ _ => rfl)) (pa_cons (pe_callTy call_tupU (by rfl) T.n_tuple (by decide +kernel) (pa_cons (pv 6) pa_nil)) pa_nil)))) pa_nil))))) (pss_one (ps_ret pe_bl)) pss_nil)))))))))))
        (pss_one (ps_ret pe_bl)))))))), ?_⟩
    walk_at "rd"
    refine r_small nsz fun p1 n1 => ?_
    obtain ⟨H1, k1, e1, s1⟩ := nS (a := 0) (b := 0) (i := 0) (j := 0) n1 rfl rfl
    rw [← k1]
    walk_at "rd"
    refine r_small nsz fun p2 n2 => ?_
    obtain ⟨H2, k2, e2, s2⟩ := nS (a := 0) (b := 1) (i := 0) (j := 1) n2 rfl rfl
    rw [← k2]
    walk_at "rd"
    refine r_small nsz fun p3 n3 => ?_
    obtain ⟨H3, k3, e3, s3⟩ := nP n3 (imm (.ex e2) s1) s2
    rw [← k3]
    walk_at "rd"
    refine r_small nsz fun fb nfb => ?_
    obtain ⟨H4, k4, e4, h4⟩ := nL (.lst [.ref p3]) nfb
    rw [← k4]
    walk_at "rd"
    refine r_small nsz fun fs nfs => ?_
    obtain ⟨H5, k5, e5, h5⟩ := nL (.lst []) nfs
    rw [← k5]
    walk_at "rd"
    refine r_small nsz fun rp nrp => ?_
    obtain ⟨H6, k6, e6, h6⟩ := nL (.lst []) nrp
    rw [← k6]
    walk_at "rs"
    walk_at "rd"
    have e03 := (e1.trans e2).trans e3
    have e05 := (e03.trans e4).trans e5
    have e06 := e05.trans e6
    have hfb0 : H fb = none := e03.free nfb
    have hfs0 : H fs = none := (e03.trans e4).free nfs
    refine ⟨a, 8, rfl, st.up e06, by decide, fun d H7 d0 d1 D7 => ?_⟩
    obtain ⟨d, rfl⟩ : ∃ z : Nat, d = (z : Nat) := ⟨d.toNat, by omega⟩
    have S6 : Sc a fb fs rp H6 (fun _ => (0, 0)) (fun _ => (0, 1)) (fun _ => 2) 1 [] [] := by
      refine ⟨st.up e06, ⟨[.ref p3], (e5.trans e6) _ _ h4, rfl, fun c v hv => ?_⟩, ⟨[], h6, .nil⟩, ⟨[], e6 _ _ h5, .nil⟩, ⟨Tl.Wv.one, List.Pairwise.nil, (fun u hu => by cases hu)⟩, (fun x hx => by cases hx), ⟨(st.up e05).ne nrp, (fun z => by rw [z, e5 _ _ h4] at nrp; cases nrp), (fun z => by rw [z, h5] at nrp; cases nrp)⟩, ⟨(st.up e03).ne nfb, (st.up (e03.trans e4)).ne nfs, (fun z => by rw [z, h4] at nfs; cases nfs)⟩⟩
      cases c with
      | zero =>
        have ev : v = .ref p3 := by simpa using hv.symm
        subst ev
        exact imm (.ex ((e4.trans e5).trans e6)) s3
      | succ c => simp at hv
    have S7 := S6.dr D7
    have D07 : Dr a H H7 := (Dr.ex st e06).trans D7
    walk_at "rd"
    refine ⟨fun σ H' => ∃ rp L R sz n row ss, σ = [some (.ref a), some (.ref fb), some (.ref fs), some (.ref rp), some (.int (d : Nat)), none, none, none, none, none, none, none, none, none, none] ∧ Dr a H H' ∧ Sc a fb fs rp H' L R sz n row ss ∧ n ≤ 2 ∧ row.length ≤ 7 ∧ ss.length ≤ 7, ?_, ?_⟩
    · walk_at "rd"
      refine r_ite (fun hd => ?_) (fun hd => ?_)
      · walk_at "rd"
        refine r_repS (by decide) (by omega) ?_
        walk_at "rd"
        have tl : (Txt.mul "x" d).length = d := by
          rw [Dk.len_mul]
          have e : ("x" : Str).length = 1 := rfl
          rw [e, Nat.mul_one]
        refine r_small nsz fun p8 n8 => ?_
        obtain ⟨H8, k8, e8, h8⟩ := nL (.tup [.int 0, .int 0, .str (Txt.mul "x" d)]) n8
        rw [← k8]
        walk_at "rd"
        have S8 := S7.ex e8
        obtain ⟨xs, hx1, hx2⟩ := S8.r
        cases hx2
        have tne : Txt.mul "x" d ≠ "" := fun z => by
          rw [z] at tl
          have e : ("" : Str).length = 0 := rfl
          omega
        refine ⟨fb, rp, .ref p8, _, _, 1, [], [], [], [], Txt.mul "x" d, rfl, S8.b, hx1, .nil, ⟨p8, rfl, h8⟩, by omega, by decide, by decide, fun z => absurd z tne, fun _ r9 H9 ys bt tk n9 hb9 hr9 hP9 => ?_⟩
        have S9 := S8.step1 (X := []) (C := []) (Y := []) (m := (Txt.mul "x" d).length) (by omega) bt tk n9 hb9 hr9 hP9
        have D9 : Dr a H H9 := dr_fx (D07.then e8) (Fx.but bt tk) hfb0 hfs0 S9.st
        walk_at "rd"
        obtain ⟨zs, hz1, hz2⟩ := S9.s
        cases hz2
        refine r_tyL (sqL hz1) ?_
        walk_at "rd"
        have yl := hP9.len
        have yl2 : ys.length = d := by rw [yl, List.nil_append, List.append_nil, frs_len, tl]
        refine ⟨fs, r9, [], ys, rfl, rfl, hz1, hr9, Nat.le_of_lt (small1000 (by simp; omega)), ?_⟩
        have S10 := S9.note hz1 .nil hP9 fun x hx => S9.ok.ok x hx
        walk_at "rd"
        refine ⟨r9, _, _, _, _, _, _, rfl, dr_fx D9 (Fx.put hz1) hfb0 hfs0 S10.st, S10, by decide, ?_, ?_⟩
        · rw [List.nil_append, List.append_nil, frs_len, tl]; omega
        · rw [List.nil_append, List.nil_append, List.append_nil, frs_len, tl]; omega
      · walk_at "rd"
        exact ⟨rp, _, _, _, 1, [], [], rfl, D07, S7, by decide, by simp, by simp⟩
    rintro σ H8 ⟨rp, L, R, sz, n, row, ss, rfl, D8, S8, n2, r7, s7⟩
    walk_at "rd"
    refine ⟨a, 3, rfl, S8.st, by decide, fun d3 H9 d30 d31 D9 => ?_⟩
    walk_at "rd"
    refine l_R (by omega) (by omega) (fun i σ H' => ∃ rp L R sz n row ss y5 y6 y7 y8 y9 y10 y11 y12, σ = [some (.ref a), some (.ref fb), some (.ref fs), some (.ref rp), some (.int (d : Nat)), y5, y6, y7, y8, y9, y10, y11, y12, none, none] ∧ Dr a H H' ∧ Sc a fb fs rp H' L R sz n row ss ∧ n ≤ 2 + 4 * i ∧ row.length ≤ 7 + 12 * i ∧ ss.length ≤ 7 + 12 * i) ⟨rp, L, R, sz, n, row, ss, none, none, none, none, none, none, none, none, rfl, D8.trans D9, S8.dr D9, by omega, by omega, by omega⟩ (fun i σ H' hi hW => ?_) (fun σ H' hW => ?_)
    · obtain ⟨rp, L, R, sz, n, row, ss, y5, y6, y7, y8, y9, y10, y11, y12, rfl, D, Sx, nb, rb, sb⟩ := hW
      obtain ⟨xs, hx, hxs⟩ := Sx.r
      have xl := hxs.len
      walk_at "rd"
      refine r_lenL (sqL hx) ?_
      walk_at "rd"
      refine ⟨a, row.length, 4, 4, by rw [xl]; rfl, Sx.st, by omega, by decide, by decide, by decide, fun sp H1 vs l D1 nsp hsp hl rnd => ?_⟩
      have S1 := Sx.dr D1
      have sl := rnd.len
      have vl := hl.len
      obtain ⟨ys, hy, hys⟩ := S1.s
      walk_at "rd"
      refine ⟨fs, ys, ss, rfl, hy, hys, by omega, fun s hs => (S1.so s hs).2, fun ap H2 zs az E2 nap hap haz azl hask => ?_⟩
      have S2 := S1.ex E2
      obtain ⟨xs2, hx2, hxs2⟩ := S2.r
      have oz : ∀ z ∈ az, Tl.Ok sz n z.1 := fun z hz => by
        rcases (hask z hz).2 with h | h | h
        · rw [h]; exact Mv.ok_head S2.ok.wv
        · rw [h]; exact Mv.ok_end S2.ok.wv
        · exact (S2.so _ h).1
      have side1 : ∀ z ∈ az, z.2 ≤ 1 := fun z hz => by
        rcases (hask z hz).1 with h | h <;> omega
      walk_at "rd"
      refine l_lcL (sqL hap) (fun D i H' => Ex H2 H' ∧ H' D = some (.lst ((az.take i).map fun z => V.int (Mv.plc L R row z.1 z.2 : Nat)))) (fun D hD => ⟨Same.new (Same.refl H2) hD, upd_same⟩) (fun D i H' hP => sqL (hP.1 _ _ hap)) (fun D i x H' hD hx hP => ?_) (fun qp H3 nqp hP => ?_)
      · obtain ⟨e, hd⟩ := hP
        obtain ⟨z, hz, sz'⟩ := haz.get hx
        have mz := List.mem_of_getElem? hz
        have zi := (List.getElem?_eq_some_iff.mp hz).1
        walk_at "rd"
        refine ⟨rfl, ?_⟩
        walk_at "rd"
        refine r_ixP0 (imm (.ex e) sz') fun u hu => ?_
        walk_at "rd"
        refine r_ixP1 (imm (.ex e) sz') fun u2 hu2 => ?_
        obtain rfl : u2 = .int (z.2 : Nat) := hu2
        walk_at "rd"
        refine ⟨fb, rp, u, L, R, n, z.2, xs2, row, z.1, rfl, S2.b.ex e, e _ _ hx2, p2_imm (.ex e) hxs2, hu, S2.ok.wv.toBs, fun u hu => (S2.ok.ok u hu).1.1, (oz z mz).1, by omega, by omega, side1 z mz, fun H4 e4 => ?_⟩
        refine ⟨_, e4 _ _ hd, by rw [List.length_map, List.length_take]; exact Nat.lt_of_le_of_lt (show min i az.length ≤ 1000 by omega) (by decide), Same.mut (e.trans e4) hD, ?_⟩
        rw [upd_same, List.take_add_one, hz, List.map_append]
        rfl
      · obtain ⟨E3, hqp⟩ := hP
        have azl2 := haz.len
        rw [azl2, List.take_length] at hqp
        have S3 := S2.ex E3
        have hsp3 := (E2.trans E3) _ _ hsp
        have hl3 := p2_imm (.ex (E2.trans E3)) hl
        have hap3 := E3 _ _ hap
        have haz3 := p2_imm (.ex E3) haz
        obtain ⟨xs3, hx3, hxs3⟩ := S3.r
        have xl3 := hxs3.len
        have t100 : ∀ x ∈ l, x.2.2.length ≤ 100 := fun x hx => Nat.le_trans (rnd.good x hx).tl (by decide)
        have D03 := (D.trans D1).then (E2.trans E3)
        walk_at "rd"
        refine r_lenL (sqL hx3) ?_
        walk_at "rd"
        refine r_tupLV hsp3 hl3 fun tp H4 ntp E4 htp => ?_
        walk_at "rd"
        refine ⟨row.length, .ref tp, l, by rw [xl3]; rfl, htp, by omega, t100, fun H5 E5 => ?_⟩
        have E35 := E4.trans E5
        have S5 := S3.ex E35
        have hsp5 := E35 _ _ hsp3
        have hl5 := p2_imm (.ex E35) hl3
        have hap5 := E35 _ _ hap3
        have haz5 := p2_imm (.ex E35) haz3
        have hqp5 := E35 _ _ hqp
        have D05 := D03.then E35
        -- addresses apart
        obtain ⟨bs5, hb5, _⟩ := S5.b
        obtain ⟨ys5, hy5, _⟩ := S5.s
        obtain ⟨zz, hst5, _, _⟩ := S5.st
        have apart : ∀ {p : Addr} {H0 : Hp}, (∀ o : HO, H0 fb ≠ none) → (∀ o : HO, H0 fs ≠ none) → H0 p = none → p ≠ fb ∧ p ≠ fs := fun h1 h2 h0 => ⟨fun z => h1 (HO.lst []) (by rw [← z]; exact h0), fun z => h2 (HO.lst []) (by rw [← z]; exact h0)⟩
        obtain ⟨bs0, hb0, _⟩ := Sx.b
        obtain ⟨ys0, hy0, _⟩ := Sx.s
        obtain ⟨bs1, hb1, _⟩ := S1.b
        obtain ⟨bs2, hb2, _⟩ := S2.b
        obtain ⟨ys2, hy2, _⟩ := S2.s
        have nsp' := apart (p := sp) (H0 := H') (fun _ => by rw [hb0]; exact fun z => nomatch z) (fun _ => by rw [hy0]; exact fun z => nomatch z) nsp
        have nap' := apart (p := ap) (H0 := H1) (fun _ => by rw [hb1]; exact fun z => nomatch z) (fun _ => by rw [hy]; exact fun z => nomatch z) nap
        have nqp' := apart (p := qp) (H0 := H2) (fun _ => by rw [hb2]; exact fun z => nomatch z) (fun _ => by rw [hy2]; exact fun z => nomatch z) nqp
        have spa := Sx.st.ne nsp
        have apa := S1.st.ne nap
        have qpa := S2.st.ne nqp
        walk_at "rd"
        refine r_lenL (sqL hsp5) ?_
        walk_at "rd"
        refine l_R (by omega) (by omega) (fun k σ H' => ∃ rp' L' R' sz' n' row' ss' y9 y10 y11, σ = [some (.ref a), some (.ref fb), some (.ref fs), some (.ref rp'), some (.int (d : Nat)), some (.int (i : Nat)), some (.ref sp), some (.ref ap), some (.ref qp), y9, y10, y11, y12, none, none] ∧ Dr a H H' ∧ Fx a fb fs H5 H' ∧
          Sc a fb fs rp' H' L' R' sz' n' row' ss' ∧ (∀ z ∈ az, Tl.Ok sz' n' z.1 ∧ Mv.plc L' R' row' z.1 z.2 = Mv.mvs z.2 (Mv.plc L R row z.1 z.2) ((l.drop (l.length - k)).map tri)) ∧ (k = 0 → row'.length = row.length) ∧ (∀ x, 0 < k → l[l.length - k]? = some x → x.1 ≤ row'.length) ∧ n' ≤ n + k ∧ row'.length ≤ row.length + 3 * k ∧ ss'.length ≤ ss.length + 3 * k)
          ⟨rp, L, R, sz, n, row, ss, y9, y10, y11, rfl, D05, Fx.refl H5, S5, fun z hz => ⟨oz z hz, by rw [Nat.sub_zero, List.drop_length]; rfl⟩, fun _ => rfl, fun x h => absurd h (Nat.lt_irrefl 0), by omega, by omega, by omega⟩ (fun k σ H' hk hW => ?_) (fun σ H' hW => ?_)
        · obtain ⟨rp', L', R', sz', n', row', ss', y9, y10, y11, rfl, DH, F, Sk, hz, hk0, hk1, nk, rk, sk⟩ := hW
          have hkl : k < l.length := by omega
          have hsp6 := F.hh _ _ spa nsp'.1 nsp'.2 hsp5
          have hl6 := p2_imm F.tk hl5
          obtain ⟨bs, hbs, bl, _⟩ := id Sk.b
          walk_at "rd"
          refine r_lenL (sqL hbs) ?_
          walk_at "rd"
          rw [bl]
          refine r_lenL (sqL hsp6) ?_
          walk_at "rd"
          obtain ⟨x, hx⟩ : ∃ x, l[l.length - 1 - k]? = some x := ⟨_, List.getElem?_eq_getElem (by omega)⟩
          obtain ⟨v, hv, sv⟩ := hl6.get' hx
          refine r_ixL (sqL hsp6) (at_g (j := l.length - 1 - k) (by omega) hv) ?_
          walk_at "rd"
          have gx := rnd.good x (List.mem_of_getElem? hx)
          have hxt : (l.map tri)[l.length - 1 - k]? = some (tri x) := by rw [List.getElem?_map, hx]; rfl
          have hfit : x.1 + x.2.1 ≤ row'.length := by
            by_cases c : k = 0
            · have := hk0 c
              have z := (rnd.rt.at hxt).2.1
              have z' : x.1 + x.2.1 ≤ row.length := z
              omega
            · obtain ⟨y, hy⟩ : ∃ y, l[l.length - k]? = some y := ⟨_, List.getElem?_eq_getElem (by omega)⟩
              have z1 := hk1 y (by omega) hy
              have hyt : (l.map tri)[l.length - 1 - k + 1]? = some (tri y) := by
                rw [show l.length - 1 - k + 1 = l.length - k by omega, List.getElem?_map, hy]; rfl
              have z2 := rnd.rt.next hxt hyt
              have z3 : x.1 + x.2.1 ≤ y.1 := z2.2
              omega
          obtain ⟨X, C, Y, rfl, lX, lC⟩ := cut3 hfit
          obtain ⟨xr, hxr, hxrs⟩ := Sk.r
          have lrow : X.length + C.length + Y.length = (X ++ C ++ Y).length := by simp [Nat.add_assoc]
          have back := drop_back hkl hx
          have ledz : ∀ z ∈ az, _ := fun z hz' => lead_tri (x := x) Sk (hask z hz').1 (hz z hz').1 lX lC
          have fold : ∀ z ∈ az, Mv.mv z.2 (Mv.plc L' R' (X ++ C ++ Y) z.1 z.2) (tri x) = Mv.mvs z.2 (Mv.plc L R row z.1 z.2) ((l.drop (l.length - (k + 1))).map tri) := fun z hz' => by
            rw [back, (hz z hz').2]
            rfl
          refine ⟨fb, rp', v, L', R', n', xr, X, C, Y, x.2.2, rfl, Sk.b, hxr, hxrs, by rw [lX, lC]; exact sv, Nat.le_trans gx.tl (by decide), by omega, by omega, fun he r7 H7 ys7 E7 n7 h7 hP7 => ?_, fun hne r7 H7 ys7 bt tk n7 hb7 h7 hP7 => ?_⟩
          · have S7 := Sk.step0 E7 n7 h7 hP7
            walk_at "rd"
            obtain ⟨bs7, hbs7, bl7, _⟩ := id S7.b
            refine r_lenL (sqL hbs7) ?_
            walk_at "rd"
            rw [bl7]
            refine r_ite (fun c => by omega) (fun _ => ?_)
            walk_at "rd"
            refine ⟨r7, L', R', sz', n', X ++ Y, ss', _, _, _, rfl, DH.then E7, F.trans (.ex E7), S7, fun z hz' => ⟨(hz z hz').1, ((ledz z hz').1 he).trans (fold z hz')⟩, fun z => by omega, fun y _ hy => ?_, by omega, by rw [List.length_append]; omega, by omega⟩
            rw [show l.length - (k + 1) = l.length - 1 - k by omega, hx] at hy
            rw [← Option.some.inj hy, List.length_append, lX]
            omega
          · have tpos : 0 < x.2.2.length := by
              refine Nat.pos_of_ne_zero fun z => hne ?_
              refine cs_ext (List.length_eq_zero_iff.mp (by rw [cs_len]; exact z))
            have S7 := Sk.step1 tpos bt tk n7 hb7 h7 hP7
            have F7 := F.trans (Fx.but (a := a) (fs := fs) bt tk)
            have D7 := dr_fx DH (Fx.but (a := a) (fs := fs) bt tk) hfb0 hfs0 S7.st
            walk_at "rd"
            obtain ⟨bs7, hbs7, bl7, _⟩ := id S7.b
            refine r_lenL (sqL hbs7) ?_
            walk_at "rd"
            rw [bl7]
            refine r_ite (fun _ => ?_) (fun c => by omega)
            walk_at "rd"
            obtain ⟨zs7, hz7, hzs7⟩ := S7.s
            refine r_tyL (sqL hz7) ?_
            walk_at "rd"
            have sv7 := imm tk sv
            obtain ⟨qv, rfl, hqv⟩ := sv7
            refine r_ixT (sqT hqv) (atI_nat (j := 2) rfl) ?_
            walk_at "rd"
            refine r_lenS (Nat.le_of_lt (Nat.lt_of_le_of_lt gx.tl (by decide))) ?_
            walk_at "rd"
            have gtl := gx.tl
            refine l_lcR (by omega) (by omega) (fun D i H' => ∃ acc, Ex H7 H' ∧ H' D = some (.lst acc) ∧ P2 (SgV H') acc ((List.range i).map fun k => (n', k))) (fun D hD => ⟨[], Same.new (Same.refl H7) hD, upd_same, .nil⟩) (fun D i H' hD hi hW => ?_) (fun D H8 hD hW => ?_)
            · obtain ⟨acc, e, hacc, hA⟩ := hW
              walk_at "rd"
              refine ⟨rfl, ?_⟩
              walk_at "rd"
              refine r_small nsz fun p5 n5 => ?_
              obtain ⟨H5', k5, e5, s5⟩ := nS (i := n') (j := i) n5 rfl rfl
              rw [← k5]
              have hl := hA.len
              have hl2 : acc.length = i := by rw [hl]; simp
              refine ⟨acc, e5 _ _ hacc, Nat.lt_of_le_of_lt (show acc.length ≤ 1000 by omega) (by decide), acc ++ [.ref p5], Same.mut (e.trans e5) hD, upd_same, ?_⟩
              have t6 := Tk.put (o := .lst (acc ++ [.ref p5])) (e5 _ _ hacc)
              rw [List.range_succ, List.map_append]
              exact (p2_imm ((Tk.ex e5).trans t6) hA).snoc (imm t6 s5)
            · obtain ⟨acc, E8, hacc, hA⟩ := hW
              rw [Int.toNat_natCast] at hA
              have la := hA.len
              have la2 : acc.length = x.2.2.length := by rw [la]; simp
              have S8 := S7.ex E8
              have hz8 := E8 _ _ hz7
              have hzs8 := p2_imm (.ex E8) hzs7
              have zl := hzs8.len
              refine ⟨fs, D, zs7, acc, rfl, rfl, hz8, hacc, Nat.le_of_lt (small1000 (by omega)), ?_⟩
              have S9 := S8.note (nw := Mv.frs n' x.2.2.length) hz8 hzs8 hA (frs_ok (Nat.lt_of_lt_of_le Sk.ok.wv.n0 (Nat.le_refl _)))
              walk_at "rd"
              refine ⟨r7, _, _, _, n' + 1, _, ss' ++ Mv.frs n' x.2.2.length, _, _, _, rfl, dr_fx (D7.then E8) (Fx.put hz8) hfb0 hfs0 S9.st, (F7.trans (.ex E8)).trans (.put hz8), S9, fun z hz' => ⟨up_ok (hz z hz').1, ((ledz z hz').2 tpos).trans (fold z hz')⟩, fun z => by omega, fun y _ hy => ?_, by omega, ?_, ?_⟩
              · rw [show l.length - (k + 1) = l.length - 1 - k by omega, hx] at hy
                rw [← Option.some.inj hy, List.length_append, List.length_append, lX]
                omega
              · rw [List.length_append, List.length_append, frs_len]; omega
              · rw [List.length_append, frs_len]; omega
        · obtain ⟨rp', L', R', sz', n', row', ss', y9, y10, y11, rfl, DH, F, Sk, hz, _, _, nk, rk, sk⟩ := hW
          have em : ((vs.length : Nat) : Int).toNat = l.length := by omega
          rw [em] at hz nk rk sk
          have hap6 := F.hh _ _ apa nap'.1 nap'.2 hap5
          have haz6 := p2_imm F.tk haz5
          have hsp6 := F.hh _ _ spa nsp'.1 nsp'.2 hsp5
          have hl6 := p2_imm F.tk hl5
          have hqp6 := F.hh _ _ qpa nqp'.1 nqp'.2 hqp5
          obtain ⟨xr, hxr, hxrs⟩ := Sk.r
          walk_at "rd"
          refine r_lenL (sqL hap6) ?_
          walk_at "rd"
          refine l_R (by omega) (by omega) (fun k σ H2 => ∃ y9 y12, σ = [some (.ref a), some (.ref fb), some (.ref fs), some (.ref rp'), some (.int (d : Nat)), some (.int (i : Nat)), some (.ref sp), some (.ref ap), some (.ref qp), y9, y10, y11, y12, none, none] ∧ Ex H' H2) ⟨y9, y12, rfl, Same.refl H'⟩ (fun k σ H2 hk hW => ?_) (fun σ H2 hW => ?_)
          · obtain ⟨y9, y12, rfl, e⟩ := hW
            have hkz : k < az.length := by omega
            obtain ⟨z, hzk⟩ : ∃ z, az[k]? = some z := ⟨_, List.getElem?_eq_getElem hkz⟩
            have mz := List.mem_of_getElem? hzk
            obtain ⟨v, hv, sv⟩ := haz6.get' hzk
            obtain ⟨ozz, hpl⟩ := hz z mz
            rw [Nat.sub_self, List.drop_zero] at hpl
            walk_at "rd"
            refine r_ixL (sqL (e _ _ hap6)) (atI_nat hv) ?_
            walk_at "rd"
            refine r_ixP0 (imm (.ex e) sv) fun u hu => ?_
            walk_at "rd"
            refine r_ixL (sqL (e _ _ hap6)) (atI_nat hv) ?_
            walk_at "rd"
            refine r_ixP1 (imm (.ex e) sv) fun u2 hu2 => ?_
            obtain rfl : u2 = .int (z.2 : Nat) := hu2
            walk_at "rd"
            refine ⟨fb, rp', u, L', R', n', z.2, xr, row', z.1, rfl, Sk.b.ex e, e _ _ hxr, p2_imm (.ex e) hxrs, hu, Sk.ok.wv.toBs, fun u hu => (Sk.ok.ok u hu).1.1, ozz.1, by omega, by omega, side1 z mz, fun H4 e4 => ?_⟩
            have ee := e.trans e4
            walk_at "rd"
            have hq7 : (az.map fun z => V.int (Mv.plc L R row z.1 z.2 : Nat))[k]? = some (V.int (Mv.plc L R row z.1 z.2 : Nat)) := by rw [List.getElem?_map, hzk]; rfl
            refine r_ixL (sqL (ee _ _ hqp6)) (atI_nat hq7) ?_
            walk_at "rd"
            refine r_ixL (sqL (ee _ _ hap6)) (atI_nat hv) ?_
            walk_at "rd"
            refine r_ixP1 (imm (.ex ee) sv) fun u3 hu3 => ?_
            obtain rfl : u3 = .int (z.2 : Nat) := hu3
            walk_at "rd"
            refine r_tupLV (ee _ _ hsp6) (p2_imm (.ex ee) hl6) fun tp H5' ntp E5' htp => ?_
            walk_at "rd"
            refine ⟨_, z.2, .ref tp, l, rfl, htp, side1 z mz, t100, ?_⟩
            rw [← hpl]
            walk_at "rd"
            refine ⟨_, rfl, ?_⟩
            walk_at "rd"
            exact ⟨_, _, rfl, ee.trans E5'⟩
          · obtain ⟨y9, y12, rfl, e⟩ := hW
            walk_at "rd"
            exact ⟨rp', L', R', sz', n', row', ss', _, _, _, _, _, _, _, _, rfl, DH.then e, Sk.ex e, by omega, by omega, by omega⟩
    · obtain ⟨rp, L, R, sz, n, row, ss, y5, y6, y7, y8, y9, y10, y11, y12, rfl, D, Sx, _⟩ := hW
      walk_at "rd"
      exact q H' D
end
end K16
namespace K16
open PySem PySem.Spec PyProof.Rows L2 Dk
/-- one step of a reading -/
local macro_rules | `(tactic| walk_at "rd1") => `(tactic| first
  | ((with_reducible refine r_var (v := ?rv) ?rh ?_); (case rh => rfl))
  | with_reducible refine r_c ?_
  | with_reducible refine r_seq ?_
  | with_reducible refine r_asg ?_
  | with_reducible refine r_par ?_
  | with_reducible refine r_gname ?_
  | with_reducible refine r_op ?_
  | with_reducible refine r_forLo ?_
  | with_reducible refine r_forTo ?_
  | with_reducible refine r_forSo ?_
  | with_reducible refine r_forRo ?_
  | with_reducible refine r_forRvo ?_
  | with_reducible refine r_lcRo ?_
  | with_reducible refine r_lcLo ?_
  | with_reducible refine r_yes ?_
  | with_reducible refine r_callK0 ?_
  | with_reducible refine r_break ?_
  | with_reducible refine r_forR2o ?_
  | with_reducible refine r_forEo ?_
  | with_reducible refine r_forESo ?_
  | with_reducible refine r_xfo ?_
  | with_reducible refine r_noP ?_
  | with_reducible refine r_part ?_
  | with_reducible refine r_pI ?_
  | with_reducible refine r_gcons ?_
  | with_reducible refine r_gnil ?_
  | with_reducible refine r_mkO ?_
  | with_reducible refine r_un ?_
  | with_reducible refine r_addI ?_
  | with_reducible refine r_I0 ?_
  | with_reducible refine r_U ?_
  | with_reducible refine r_cons ?_
  | with_reducible refine r_nil ?_
  | with_reducible refine r_CB ?_
  | with_reducible refine r_call ?_
  | with_reducible refine r_callS ?_
  | with_reducible refine r_int ?_
  | with_reducible refine r_max ?_
  | with_reducible refine r_min ?_
  | with_reducible refine r_test ?_
  | with_reducible refine r_B ?_
  | with_reducible refine r_blv ?_
  | with_reducible refine r_and ?_
  | with_reducible refine r_or ?_
  | with_reducible refine r_not ?_
  | with_reducible refine r_andV ?_
  | with_reducible refine r_orV ?_
  | with_reducible refine r_notV ?_
  | with_reducible refine r_ifE ?_
  | with_reducible refine r_ifS ?_
  | with_reducible refine r_ret ?_
  | with_reducible refine r_retN ?_
  | with_reducible refine r_drop ?_
  | with_reducible refine r_next ?_
  | with_reducible refine r_sl ?_
  | with_reducible refine r_gsub ?_
  | with_reducible refine r_bm ?_
  | with_reducible refine r_tup ?_
  | with_reducible refine r_lst ?_
  | with_reducible refine r_isN ?_
  | with_reducible refine r_notN ?_
  | with_reducible refine r_itt ?_
  | with_reducible refine r_iff ?_
  | with_reducible refine r_ittN ?_
  | with_reducible refine r_iffN ?_
  | ((with_reducible refine r_ittD ?rh ?_); (case rh => rfl))
  | ((with_reducible refine r_iffD ?rh ?_); (case rh => rfl))
  | ((with_reducible refine r_modP ?rh ?_); (case rh => decide))
  | ((with_reducible refine r_eq ?rh ?_); (case rh => rfl))
  | ((with_reducible refine r_eqP ?rh ?_); (case rh => rfl))
  | ((with_reducible refine r_ne ?rh ?_); (case rh => rfl)))
local macro_rules | `(tactic| walk_at "rd") => `(tactic| repeat walk_at "rd1")
local macro_rules | `(tactic| walk_at "isi") => `(tactic| first | refine r_isi (b := true) (by assumption) (by decide +kernel) ?_ | refine r_isi (b := false) (by assumption) (by decide +kernel) ?_)
local macro_rules | `(tactic| walk_at "rs1") => `(tactic| first
  | with_reducible refine r_seq ?_
  | with_reducible refine r_asg ?_
  | with_reducible refine r_gname ?_
  | with_reducible refine r_ret ?_)
local macro_rules | `(tactic| walk_at "rs") => `(tactic| repeat walk_at "rs1")

section
variable {P : Program} {w : World} {K : PySem.W.Frag} {mg : Str → Option Value} {base : Heap}
open Mv (mv mvs mvk stz grp)
theorem tri_at {l : List Spc} {k : Nat} {x : Spc} (h : l[k]? = some x) : (l.map tri)[k]? = some (x.1, x.2.1, x.2.2.length) := by
  rw [List.getElem?_map, h]
  rfl
theorem far_end {n k p : Nat} {l : List Spc} {x : Spc} (rt : Mv.Rt n 0 (l.map tri)) (hx : l[k]? = some x) (hp : x.1 < p) : ∀ a c m, 0 < k → (l.map tri)[k - 1]? = some (a, c, m) → a + c < p := fun a c m hk h => by
  have z := rt.next h (by rw [show k - 1 + 1 = k by omega]; exact tri_at hx)
  have z2 := z.2
  omega
theorem low_step {n k p : Nat} {l : List Spc} {x : Spc} (rt : Mv.Rt n 0 (l.map tri)) (hx : l[k]? = some x) :
    (x.1 + x.2.1 < p → ((mvk 0 p (l.map tri) (k + 1) : Nat) : Int) = p + (x.1 + stz (l.map tri) k) + x.2.2.length - x.1 - x.2.1) ∧
    (x.1 < p → p ≤ x.1 + x.2.1 → ∃ y, l[grp (l.map tri) k]? = some y ∧ ((mvk 0 p (l.map tri) (k + 1) : Nat) : Int) = y.1 + stz (l.map tri) (grp (l.map tri) k)) ∧
    (p ≤ x.1 → mvk 0 p (l.map tri) (k + 1) = mvk 0 p (l.map tri) k) := by
  have hk : k ≤ (l.map tri).length := by have := (List.getElem?_eq_some_iff.mp (tri_at hx)).1; omega
  rw [Mv.mvk_succ (tri_at hx)]
  refine ⟨fun h => ?_, fun h h2 => ?_, fun h => ?_⟩
  · have e : mv 0 p (x.1, x.2.1, x.2.2.length) = p - x.2.1 + x.2.2.length := by
      unfold mv
      dsimp only
      rw [if_neg (by omega), if_pos h]
    rw [e, Mv.mvk_far rt k _ (far_end rt hx (by omega)) hk]
    omega
  · have e : mv 0 p (x.1, x.2.1, x.2.2.length) = x.1 := by
      unfold mv
      dsimp only
      rw [if_neg (by omega), if_neg (by omega)]
      omega
    rw [e]
    obtain ⟨b, d, q, h3, h4⟩ := Mv.mvk_own rt k _ _ _ (tri_at hx)
    rw [List.getElem?_map] at h3
    obtain ⟨y, hy, ey⟩ := Option.map_eq_some_iff.mp h3
    refine ⟨y, hy, ?_⟩
    have eb : y.1 = b := congrArg Prod.fst ey
    rw [h4, eb]
  · have e : mv 0 p (x.1, x.2.1, x.2.2.length) = p := by
      unfold mv
      dsimp only
      split
      · rfl
      · rw [if_neg (by omega)]
        omega
    rw [e]
theorem high_step {n k p : Nat} {l : List Spc} {x : Spc} (rt : Mv.Rt n 0 (l.map tri)) (hx : l[k]? = some x) :
    (x.1 + x.2.1 ≤ p → ((mvk 1 p (l.map tri) (k + 1) : Nat) : Int) = p + (x.1 + stz (l.map tri) k) + x.2.2.length - x.1 - x.2.1) ∧
    (x.1 ≤ p → p < x.1 + x.2.1 → ((mvk 1 p (l.map tri) (k + 1) : Nat) : Int) = (x.1 + stz (l.map tri) k) + x.2.2.length) ∧
    (p < x.1 → mvk 1 p (l.map tri) (k + 1) = mvk 1 p (l.map tri) k) := by
  have hk : k ≤ (l.map tri).length := by have := (List.getElem?_eq_some_iff.mp (tri_at hx)).1; omega
  have own := Mv.mvk_own1 rt k _ _ _ (tri_at hx)
  have mid : x.1 ≤ p → p ≤ x.1 + x.2.1 → mv 1 p (x.1, x.2.1, x.2.2.length) = x.1 + x.2.2.length := fun h1 h2 => by
    unfold mv
    dsimp only
    rw [if_neg (by omega), if_neg (by omega)]
    omega
  rw [Mv.mvk_succ (tri_at hx)]
  refine ⟨fun h => ?_, fun h h2 => ?_, fun h => ?_⟩
  · by_cases c : x.1 + x.2.1 = p
    · rw [mid (by omega) (by omega), own]
      omega
    · have e : mv 1 p (x.1, x.2.1, x.2.2.length) = p - x.2.1 + x.2.2.length := by
        unfold mv
        dsimp only
        rw [if_neg (by omega), if_pos (by omega)]
      rw [e, Mv.mvk_far rt k _ (far_end rt hx (by omega)) hk]
      omega
  · rw [mid h (by omega), own]
    omega
  · have e : mv 1 p (x.1, x.2.1, x.2.2.length) = p := by
      unfold mv
      dsimp only
      rw [if_pos h]
    rw [e]
/-- the starts -/
def Sts (l : List Spc) (ns : List Int) (i : Nat) : Prop := ns.length = i ∧ ∀ k x, l[k]? = some x → k < i → ns[k]? = some ((x.1 : Int) + stz (l.map tri) k)
theorem ok_law_far (T : Txt K mg) : FnOk P w K mg base CX0 4 T.a_law_far T.d_law_far ["_law_state"] spWhole := by
  refine T.F_law_far.ok sc_law_far (fun vs H Q E h => ?_) (fun cdv A outer s H vs Q E hr h => ?_)
  · obtain ⟨a, rfl, _⟩ := h
    rfl
  · obtain ⟨a, rfl, st, q⟩ := h
    refine ⟨_, (pss_cons (ps_set (i := 1) sc_law_far.nd rfl (Or.inl rfl) (pe_op op_addU pe_int (pe_call (ok_law_draw T) (hr.mono (by decide)) (by rfl) T.g_law_draw T.F_law_draw.kp T.b_law_draw .nil pass0 (pa_cons (pv 0) (pa_cons pe_int pa_nil)))))
        (pss_cons (ps_set (i := 2) sc_law_far.nd rfl (Or.inl rfl) (pe_call (ok_law_round T) hr (by rfl) T.g_law_round T.F_law_round.kp T.b_law_round .nil pass0 (pa_cons (pv 0) (pa_cons (pv 1) (pa_cons pe_int (pa_cons (pe_ix ix_seq (pe_lst (pa_cons pe_int (pa_cons pe_int pa_nil))) (pe_call (ok_law_draw T) (hr.mono (by decide)) (by rfl) T.g_law_draw T.F_law_draw.kp T.b_law_draw .nil pass0 (pa_cons (pv 0) (pa_cons pe_int pa_nil))) (fun _ _ => rfl)) pa_nil))))))
        (pss_cons (ps_set (i := 3) sc_law_far.nd rfl (Or.inl rfl) (pe_lst pa_nil))
        (pss_cons (ps_set (i := 4) sc_law_far.nd rfl (Or.inl rfl) pe_int)
        (pss_cons (ps_for PassesOwn.never rfl (pi_list (pv 2)) (pg_name (i := 5) sc_law_far.nd rfl (Or.inl rfl)) (pss_cons (ps_expr (pe_bm PySem.F.plainAttrs_list PySem.F.slot_list_append PySem.F.type_list_append mt_append (pv 3) (pa_cons (pe_op op_addU (pe_ix ix_seq (pv 5) pe_int (fun _ _ => rfl)) (pv 4)) pa_nil)))
        (pss_one (ps_set (i := 4) sc_law_far.nd rfl (Or.inl rfl) (pe_op op_sub (pe_op op_addU (pv 4) (pe_callB call_lenU (by rfl) T.n_len (by decide +kernel) (pa_cons (pe_ix ix_seq (pv 5) pe_int (fun _ _ => rfl)) pa_nil))) (pe_ix ix_seq (pv 5) pe_int (fun _ _ => rfl)))))))
        (pss_cons (ps_for PassesOwn.never rfl (pi_range1 (by rfl) T.n_range (pa_cons pe_int pa_nil)) (pg_name (i := 6) sc_law_far.nd rfl (Or.inl rfl)) (pss_cons (ps_set (i := 7) sc_law_far.nd rfl (Or.inl rfl) (pe_call (ok_law_draw T) (hr.mono (by decide)) (by rfl) T.g_law_draw T.F_law_draw.kp T.b_law_draw .nil pass0 (pa_cons (pv 0) (pa_cons (pe_callB call_lenU (by rfl) T.n_len (by decide +kernel) (pa_cons (pv 2) pa_nil)) pa_nil))))
        (pss_cons (ps_set (i := 8) sc_law_far.nd rfl (Or.inl rfl) (pe_callB (call_minU rfl) (by rfl) T.n_min (by decide +kernel) (pa_cons (pv 1) (pa_cons (pe_callB (call_maxU rfl) (by rfl) T.n_max (by decide +kernel) (pa_cons pe_int (pa_cons (pe_op op_sub (pe_op op_addU (pe_ix ix_seq (pe_ix ix_seq (pv 2) (pv 7) (fun _ _ => rfl)) pe_int (fun _ _ => rfl)) (pe_call (ok_law_draw T) (hr.mono (by decide)) (by rfl) T.g_law_draw T.F_law_draw.kp T.b_law_draw .nil pass0 (pa_cons (pv 0) (pa_cons pe_int pa_nil)))) pe_int) pa_nil))) pa_nil))))
        (pss_cons (ps_set (i := 9) sc_law_far.nd rfl (Or.inl rfl) (pv 8))
        (pss_cons (ps_set (i := 10) sc_law_far.nd rfl (Or.inl rfl) (pv 8))
        (pss_cons (ps_for PassesOwn.never rfl (pi_range1 (by rfl) T.n_range (pa_cons (pe_callB call_lenU (by rfl) T.n_len (by decide +kernel) (pa_cons (pv 2) pa_nil)) pa_nil)) (pg_name (i := 11) sc_law_far.nd rfl (Or.inl rfl)) (pss_cons (ps_asg (pe_ix ix_seq (pv 2) (pv 11) (fun _ _ => rfl)) (pg_tup rfl (pgs_cons (pg_name (i := 12) sc_law_far.nd rfl (Or.inl rfl)) (pgs_cons (pg_name (i := 13) sc_law_far.nd rfl (Or.inl rfl)) (pgs_cons (pg_name (i := 14) sc_law_far.nd rfl (Or.inl rfl)) pgs_nil)))))
        (Evl.pss_cut (ps_if (pt_cmpR op_lt (pe_op op_addU (pv 12) (pv 13)) (pv 8) (nomark _)) (pss_one (ps_set (i := 9) sc_law_far.nd rfl (Or.inl rfl) (pe_op op_sub (pe_op op_sub (pe_op op_addU (pe_op op_addU (pv 8) (pe_ix ix_seq (pv 3) (pv 11) (fun _ _ => rfl))) (pe_callB call_lenU (by rfl) T.n_len (by decide +kernel) (pa_cons (pv 14) pa_nil))) (pv 12)) (pv 13)))) (pss_one (ps_if (pt_cmpR op_lt (pv 12) (pv 8) (nomark _)) (pss_cons (ps_set (i := 9) sc_law_far.nd rfl (Or.inl rfl) (pe_ix ix_seq (pv 3) (pv 11) (fun _ _ => rfl)))
        (pss_one (ps_if (PW.pt (pw_and (pt_cmpR op_gt (pv 11) pe_int (nomark _)) (pw_and1 (pt_cmpR (op_eqU hr.units) (pe_op op_addU (pe_ix ix_seq (pe_ix ix_seq (pv 2) (pe_op op_sub (pv 11) pe_int) (fun _ _ => rfl)) pe_int (fun _ _ => rfl)) (pe_ix ix_seq (pe_ix ix_seq (pv 2) (pe_op op_sub (pv 11) pe_int) (fun _ _ => rfl)) pe_int (fun _ _ => rfl))) (pv 12) (nomark _))))) (pss_cons (ps_set (i := 9) sc_law_far.nd rfl (Or.inl rfl) (pe_ix ix_seq (pv 3) (pe_op op_sub (pv 11) pe_int) (fun _ _ => rfl)))
        (pss_cons (ps_set (i := 15) sc_law_far.nd rfl (Or.inl rfl) (pe_op op_sub (pv 11) pe_int))
        (pss_one (ps_while PassesOwn.never (PW.pt (pw_and (pt_cmpR op_gt (pv 15) pe_int (nomark _)) (pw_and1 (pt_cmpR (op_eqU hr.units) (pe_op op_addU (pe_ix ix_seq (pe_ix ix_seq (pv 2) (pe_op op_sub (pv 15) pe_int) (fun _ _ => rfl)) pe_int (fun _ _ => rfl)) (pe_ix ix_seq (pe_ix ix_seq (pv 2) (pe_op op_sub (pv 15) pe_int) (fun _ _ => rfl)) pe_int (fun _ _ => rfl))) (pe_ix ix_seq (pe_ix ix_seq (pv 2) (pv 15) (fun _ _ => rfl)) pe_int (fun _ _ => rfl)) (nomark _))))) (pss_cons (ps_set (i := 15) sc_law_far.nd rfl (Or.inl rfl) (pe_op op_sub (pv 15) pe_int))
        (pss_one (ps_set (i := 9) sc_law_far.nd rfl (Or.inl rfl) (pe_ix ix_seq (pv 3) (pv 15) (fun _ _ => rfl))))))))) pss_nil))) pss_nil)))
        (pss_one (ps_if (pt_cmpR op_le (pe_op op_addU (pv 12) (pv 13)) (pv 8) (nomark _)) (pss_one (ps_set (i := 10) sc_law_far.nd rfl (Or.inl rfl) (pe_op op_sub (pe_op op_sub (pe_op op_addU (pe_op op_addU (pv 8) (pe_ix ix_seq (pv 3) (pv 11) (fun _ _ => rfl))) (pe_callB call_lenU (by rfl) T.n_len (by decide +kernel) (pa_cons (pv 14) pa_nil))) (pv 12)) (pv 13)))) (pss_one (ps_if (pt_cmpR op_le (pv 12) (pv 8) (nomark _)) (pss_one (ps_set (i := 10) sc_law_far.nd rfl (Or.inl rfl) (pe_op op_addU (pe_ix ix_seq (pv 3) (pv 11) (fun _ _ => rfl)) (pe_callB call_lenU (by rfl) T.n_len (by decide +kernel) (pa_cons (pv 14) pa_nil))))) pss_nil)))))))
        (pss_cons (ps_if (pt_not (pt_val (pe_call (ok_law_is T) (hr.mono (by decide)) (by rfl) T.g_law_is T.F_law_is.kp T.b_law_is .nil pass0 (pa_cons (pv 9) (pa_cons (pe_call (ok_moved_place T) (hr.mono (by decide)) (by rfl) T.g_moved_place T.F_moved_place.kp T.b_moved_place .nil pass0 (pa_cons (pv 8) (pa_cons pe_int (pa_cons (pe_callTy call_tupU (by rfl) T.n_tuple (by decide +kernel) (pa_cons (pv 2) pa_nil)) pa_nil)))) pa_nil))))) (pss_one (ps_ret pe_bl)) pss_nil)
        (pss_one (ps_if (pt_not (pt_val (pe_call (ok_law_is T) (hr.mono (by decide)) (by rfl) T.g_law_is T.F_law_is.kp T.b_law_is .nil pass0 (pa_cons (pv 10) (pa_cons (pe_call (ok_moved_place T) (hr.mono (by decide)) (by rfl) T.g_moved_place T.F_moved_place.kp T.b_moved_place .nil pass0 (pa_cons (pv 8) (pa_cons pe_int (pa_cons (pe_callTy call_tupU (by rfl) T.n_tuple (by decide +kernel) (pa_cons (pv 2) pa_nil)) pa_nil)))) pa_nil))))) (pss_one (ps_ret pe_bl)) pss_nil)))))))))
        (pss_one (ps_ret pe_bl)))))))), ?_⟩
    walk_at "rd"
    refine ⟨a, 2201, rfl, st, by decide, fun d H1 d0 d1 D1 => ?_⟩
    obtain ⟨d, rfl⟩ : ∃ z : Nat, d = (z : Nat) := ⟨d.toNat, by omega⟩
    walk_at "rd"
    refine r_small nsz fun p0 n0 => ?_
    obtain ⟨H2, k2, e2, h2⟩ := nL (.lst [.int 40, .int 5]) n0
    rw [← k2]
    have D2 := D1.then e2
    walk_at "rd"
    refine ⟨a, 2, rfl, D2.st, by decide, fun e H3 f0 f1 D3 => ?_⟩
    have D13 := D2.trans D3
    have h3 := D3.hh _ _ (D1.st.ne n0) h2
    obtain ⟨gp, hgp, gp1⟩ : ∃ gp : Nat, atI [V.int 40, V.int 5] e = some (V.int (gp : Nat)) ∧ 1 ≤ gp := by
      by_cases c : e = 0
      · subst c
        exact ⟨40, rfl, by decide⟩
      · have c1 : e = 1 := by omega
        subst c1
        exact ⟨5, rfl, by decide⟩
    walk_at "rd"
    refine r_ixL (sqL h3) hgp ?_
    obtain ⟨n, hn⟩ : ∃ n : Nat, n = 800 + d := ⟨_, rfl⟩
    have en : (800 : Int) + (d : Int) = ((n : Nat) : Int) := by omega
    rw [en]
    refine ⟨a, n, 120, gp, rfl, D13.st, by omega, by decide, by decide, gp1, fun sp H4 vs l D4 nsp hsp hl rnd => ?_⟩
    have D14 := D13.trans D4
    have vl := hl.len
    have ll := rnd.len
    have spa := D13.st.ne nsp
    have t100 : ∀ x ∈ l, x.2.2.length ≤ 100 := fun x hx => Nat.le_trans (rnd.good x hx).tl (by decide)
    have lpos : 0 < l.length := List.length_pos_iff.mpr rnd.ne
    walk_at "rd"
    refine r_small nsz fun f nf => ?_
    obtain ⟨H5, k5, e5, h5⟩ := nL (.lst []) nf
    rw [← k5]
    have fa := D14.st.ne nf
    have fsp : f ≠ sp := fun z => by rw [z, hsp] at nf; cases nf
    walk_at "rd"
    refine l_L (sqL (e5 _ _ hsp)) (fun i σ H' => ∃ ns y5, σ = [some (.ref a), some (.int (n : Nat)), some (.ref sp), some (.ref f), some (.int (stz (l.map tri) i)), y5, none, none, none, none, none, none, none, none, none, none] ∧ Ex H4 H' ∧ H' f = some (.lst (ns.map V.int)) ∧ Sts l ns i) ⟨[], none, rfl, e5, h5, rfl, fun k x _ h => absurd h (Nat.not_lt_zero _)⟩ (fun i σ H' hW => ?_) (fun i v σ H' hv hW => ?_) (fun σ H' hW => ?_)
    · obtain ⟨_, _, _, e, _⟩ := hW
      exact sqL (e _ _ hsp)
    · obtain ⟨ns, y5, rfl, e, hf, hS⟩ := hW
      obtain ⟨x, hx, qv, rfl, hq⟩ := hl.get hv
      have hq' := e _ _ hq
      have xi := (List.getElem?_eq_some_iff.mp hx).1
      have gx := rnd.good x (List.mem_of_getElem? hx)
      have gtl := gx.tl
      walk_at "rd"
      refine r_tyL (sqL hf) ?_
      walk_at "rd"
      refine r_ixT (sqT hq') (atI_nat (j := 0) rfl) ?_
      walk_at "rd"
      refine r_app hf (by rw [List.length_map, hS.1]; exact Nat.lt_of_le_of_lt (show i ≤ 1000 by omega) (by decide)) ?_
      walk_at "rd"
      have hq2 : (upd H' f (.lst (ns.map V.int ++ [V.int ((x.1 : Int) + stz (l.map tri) i)]))) qv = some (.tup [.int (x.1 : Nat), .int (x.2.1 : Nat), .str x.2.2]) := by
        rw [upd_ne fun z => by rw [z, hf] at hq'; cases hq']
        exact hq'
      refine r_ixT (sqT hq2) (atI_nat (j := 2) rfl) ?_
      walk_at "rd"
      refine r_lenS (Nat.le_of_lt (Nat.lt_of_le_of_lt gtl (by decide))) ?_
      walk_at "rd"
      refine r_ixT (sqT hq2) (atI_nat (j := 1) rfl) ?_
      walk_at "rd"
      refine ⟨ns ++ [(x.1 : Int) + stz (l.map tri) i], some (.ref qv), ?_, Same.mut e nf, by rw [upd_same, List.map_append]; rfl, by rw [List.length_append, hS.1]; rfl, fun k y hy hk => ?_⟩
      · rw [Mv.stz_succ (tri_at hx)]
        dsimp only
        rw [show stz (l.map tri) i + ((x.2.2.length : Nat) : Int) - ((x.2.1 : Nat) : Int) = stz (l.map tri) i + (((x.2.2.length : Nat) : Int) - ((x.2.1 : Nat) : Int)) by omega]
        rfl
      · by_cases c : k < i
        · rw [List.getElem?_append_left (by rw [hS.1]; exact c)]
          exact hS.2 k y hy c
        · have ek : k = i := by omega
          subst ek
          rw [hx] at hy
          rw [List.getElem?_append_right (by rw [hS.1]; exact Nat.le_refl _), hS.1, Nat.sub_self, ← Option.some.inj hy]
          rfl
    · obtain ⟨ns, y5, rfl, e6, hf, hS⟩ := hW
      rw [vl] at hS
      have D6 := D14.then e6
      have hst : ∀ {k x}, l[k]? = some x → ns[k]? = some ((x.1 : Int) + stz (l.map tri) k) := fun {k x} hx => hS.2 k x hx (List.getElem?_eq_some_iff.mp hx).1
      have hsv : ∀ {k x}, l[k]? = some x → (ns.map V.int)[k]? = some (V.int ((x.1 : Int) + stz (l.map tri) k)) := fun {k x} hx => by rw [List.getElem?_map, hst hx]; rfl
      walk_at "rd"
      refine l_R (by decide) (by decide) (fun i σ H' => ∃ z4 y5 y6 y7 y8 y9 y10 y11 y12 y13 y14 y15, σ = [some (.ref a), some (.int (n : Nat)), some (.ref sp), some (.ref f), z4, y5, y6, y7, y8, y9, y10, y11, y12, y13, y14, y15] ∧ Dr a H H' ∧ H' sp = some (.lst vs) ∧ P2 (SpcV H') vs l ∧ H' f = some (.lst (ns.map V.int))) ⟨_, y5, none, none, none, none, none, none, none, none, none, none, rfl, D6, e6 _ _ hsp, p2_imm (.ex e6) hl, hf⟩ (fun i σ H' hi hW => ?_) (fun σ H' hW => ?_)
      · obtain ⟨z4, y5, y6, y7, y8, y9, y10, y11, y12, y13, y14, y15, rfl, D, hsp, hl, hf⟩ := hW
        walk_at "rd"
        refine r_lenL (sqL hsp) ?_
        walk_at "rd"
        refine ⟨a, (vs.length : Nat), rfl, D.st, by omega, fun j H2 j0 j1 D2 => ?_⟩
        obtain ⟨j, rfl⟩ : ∃ z : Nat, j = (z : Nat) := ⟨j.toNat, by omega⟩
        obtain ⟨xj, hxj⟩ : ∃ x, l[j]? = some x := ⟨_, List.getElem?_eq_getElem (by omega)⟩
        obtain ⟨vj, hvj, qj, rfl, hqj⟩ := hl.get' hxj
        walk_at "rd"
        have hsp2 := D2.hh _ _ spa hsp
        refine r_ixL (sqL hsp2) (atI_nat hvj) ?_
        walk_at "rd"
        have tk2 := stt_tk D.st D2
        refine r_ixT (sqT (tk2 _ _ hqj)) (atI_nat (j := 0) rfl) ?_
        walk_at "rd"
        refine ⟨a, 7, rfl, D2.st, by decide, fun e7 H3 g0 g1 D3 => ?_⟩
        walk_at "rd"
        obtain ⟨p, hp⟩ : ∃ p : Nat, ((p : Nat) : Int) = min (n : Int) (max 0 ((xj.1 : Int) + e7 - 2)) := ⟨(min (n : Int) (max 0 ((xj.1 : Int) + e7 - 2))).toNat, by omega⟩
        rw [← hp]
        have D23 := D2.trans D3
        have tk3 := stt_tk D.st D23
        have hsp3 := D23.hh _ _ spa hsp
        have hf3 := D23.hh _ _ fa hf
        have hl3 := p2_imm tk3 hl
        refine r_lenL (sqL hsp3) ?_
        walk_at "rd"
        refine l_R (by omega) (by omega) (fun k σ H' => ∃ y11 y12 y13 y14 y15, σ = [some (.ref a), some (.int (n : Nat)), some (.ref sp), some (.ref f), z4, y5, some (.int (i : Nat)), some (.int (j : Nat)), some (.int (p : Nat)), some (.int (mvk 0 p (l.map tri) k : Nat)), some (.int (mvk 1 p (l.map tri) k : Nat)), y11, y12, y13, y14, y15] ∧ H3 = H') ⟨y11, y12, y13, y14, y15, rfl, rfl⟩ (fun k σ H' hk hW => ?_) (fun σ H' hW => ?_)
        · obtain ⟨y11, y12, y13, y14, y15, rfl, rfl⟩ := hW
          have hkl : k < l.length := by omega
          obtain ⟨x, hx⟩ : ∃ x, l[k]? = some x := ⟨_, List.getElem?_eq_getElem hkl⟩
          obtain ⟨v, hv, qx, rfl, hqx⟩ := hl3.get' hx
          obtain ⟨l1, l2, l3⟩ := low_step (p := p) rnd.rt hx
          obtain ⟨u1, u2, u3⟩ := high_step (p := p) rnd.rt hx
          have gtl := (rnd.good x (List.mem_of_getElem? hx)).tl
          have tl : x.2.2.length ≤ sizeLine := Nat.le_of_lt (Nat.lt_of_le_of_lt gtl (by decide))
          walk_at "rd"
          refine r_ixL (sqL hsp3) (atI_nat hv) ?_
          walk_at "rd"
          refine r_gtup (sqT hqx) rfl ?_
          walk_at "rd"
          refine ⟨fun σ H' => ∃ y15, σ = [some (.ref a), some (.int (n : Nat)), some (.ref sp), some (.ref f), z4, y5, some (.int (i : Nat)), some (.int (j : Nat)), some (.int (p : Nat)), some (.int (mvk 0 p (l.map tri) (k + 1) : Nat)), some (.int (mvk 1 p (l.map tri) k : Nat)), some (.int (k : Nat)), some (.int (x.1 : Nat)), some (.int (x.2.1 : Nat)), some (.str x.2.2), y15] ∧ H3 = H', ?_, ?_⟩
          · walk_at "rd"
            refine r_ite (fun c1 => ?_) (fun c1 => ?_)
            · walk_at "rd"
              refine r_ixL (sqL hf3) (atI_nat (hsv hx)) ?_
              walk_at "rd"
              refine r_lenS tl ?_
              walk_at "rd"
              refine ⟨y15, ?_, rfl⟩
              rw [← l1 (by omega)]
              rfl
            · walk_at "rd"
              refine r_ite (fun c2 => ?_) (fun c2 => ?_)
              · obtain ⟨y, hy, ey⟩ := l2 (by omega) (by omega)
                walk_at "rd"
                refine r_ixL (sqL hf3) (atI_nat (hsv hx)) ?_
                walk_at "rd"
                have base : grp (l.map tri) k = k → ∃ y15', [some (V.ref a), some (.int (n : Nat)), some (.ref sp), some (.ref f), z4, y5, some (.int (i : Nat)), some (.int (j : Nat)), some (.int (p : Nat)), some (.int ((x.1 : Int) + stz (l.map tri) k)), some (.int (mvk 1 p (l.map tri) k : Nat)), some (.int (k : Nat)), some (.int (x.1 : Nat)), some (.int (x.2.1 : Nat)), some (.str x.2.2), y15] = [some (.ref a), some (.int (n : Nat)), some (.ref sp), some (.ref f), z4, y5, some (.int (i : Nat)), some (.int (j : Nat)), some (.int (p : Nat)), some (.int (mvk 0 p (l.map tri) (k + 1) : Nat)), some (.int (mvk 1 p (l.map tri) k : Nat)), some (.int (k : Nat)), some (.int (x.1 : Nat)), some (.int (x.2.1 : Nat)), some (.str x.2.2), y15'] ∧ H3 = H3 := fun hg => by
                  rw [hg] at hy ey
                  rw [hx] at hy
                  rw [ey, ← Option.some.inj hy]
                  exact ⟨y15, rfl, rfl⟩
                refine r_ite (fun c3 => ?_) (fun c3 => ?_)
                · obtain ⟨m, rfl⟩ : ∃ m, k = m + 1 := ⟨k - 1, by omega⟩
                  obtain ⟨b, hb⟩ : ∃ b, l[m]? = some b := ⟨_, List.getElem?_eq_getElem (by omega)⟩
                  obtain ⟨vb, hvb, qb, rfl, hqb⟩ := hl3.get' hb
                  have em : (((m + 1 : Nat) : Int) - 1) = ((m : Nat) : Int) := by omega
                  have gs := Mv.grp_step (tri_at hb) (tri_at hx)
                  walk_at "rd"
                  refine r_ixL (sqL hsp3) (at_g em hvb) ?_
                  walk_at "rd"
                  refine r_ixT (sqT hqb) (atI_nat (j := 0) rfl) ?_
                  walk_at "rd"
                  refine r_ixL (sqL hsp3) (at_g em hvb) ?_
                  walk_at "rd"
                  refine r_ixT (sqT hqb) (atI_nat (j := 1) rfl) ?_
                  walk_at "rd"
                  refine r_ite (fun c4 => ?_) (fun c4 => ?_)
                  · have c4' : b.1 + b.2.1 = x.1 := by have := V.int.inj c4; omega
                    rw [if_pos c4'] at gs
                    rw [gs] at hy ey
                    walk_at "rd"
                    refine r_ixL (sqL hf3) (at_g em (hsv hb)) ?_
                    walk_at "rd"
                    rw [em]
                    refine ⟨fun mm σ H' => ∃ (u : Spc), l[mm]? = some u ∧ mm ≤ m ∧ grp (l.map tri) mm = grp (l.map tri) m ∧ σ = [some (.ref a), some (.int (n : Nat)), some (.ref sp), some (.ref f), z4, y5, some (.int (i : Nat)), some (.int (j : Nat)), some (.int (p : Nat)), some (.int ((u.1 : Int) + stz (l.map tri) mm)), some (.int (mvk 1 p (l.map tri) (m + 1) : Nat)), some (.int ((m + 1 : Nat) : Int)), some (.int (x.1 : Nat)), some (.int (x.2.1 : Nat)), some (.str x.2.2), some (.int (mm : Nat))] ∧ H3 = H', ⟨m, b, hb, Nat.le_refl m, rfl, rfl, rfl⟩, fun mm σ H' hW => ?_⟩
                    obtain ⟨u, hu, hmm, hgr, rfl, rfl⟩ := hW
                    have done : grp (l.map tri) mm = mm → ∃ y15', [some (V.ref a), some (.int (n : Nat)), some (.ref sp), some (.ref f), z4, y5, some (.int (i : Nat)), some (.int (j : Nat)), some (.int (p : Nat)), some (.int ((u.1 : Int) + stz (l.map tri) mm)), some (.int (mvk 1 p (l.map tri) (m + 1) : Nat)), some (.int ((m + 1 : Nat) : Int)), some (.int (x.1 : Nat)), some (.int (x.2.1 : Nat)), some (.str x.2.2), some (.int (mm : Nat))] = [some (.ref a), some (.int (n : Nat)), some (.ref sp), some (.ref f), z4, y5, some (.int (i : Nat)), some (.int (j : Nat)), some (.int (p : Nat)), some (.int (mvk 0 p (l.map tri) (m + 1 + 1) : Nat)), some (.int (mvk 1 p (l.map tri) (m + 1) : Nat)), some (.int ((m + 1 : Nat) : Int)), some (.int (x.1 : Nat)), some (.int (x.2.1 : Nat)), some (.str x.2.2), y15'] ∧ H3 = H3 := fun hg => by
                      rw [← hgr, hg] at hy ey
                      rw [hu] at hy
                      rw [ey, ← Option.some.inj hy]
                      exact ⟨_, rfl, rfl⟩
                    walk_at "rd"
                    refine r_ite (fun c5 => ?_) (fun c5 => ?_)
                    · obtain ⟨m2, rfl⟩ : ∃ m2, mm = m2 + 1 := ⟨mm - 1, by omega⟩
                      obtain ⟨b2, hb2⟩ : ∃ b, l[m2]? = some b := ⟨_, List.getElem?_eq_getElem (by omega)⟩
                      obtain ⟨vb2, hvb2, qb2, rfl, hqb2⟩ := hl3.get' hb2
                      obtain ⟨vu, hvu, qu, rfl, hqu⟩ := hl3.get' hu
                      have em2 : (((m2 + 1 : Nat) : Int) - 1) = ((m2 : Nat) : Int) := by omega
                      have gs2 := Mv.grp_step (tri_at hb2) (tri_at hu)
                      walk_at "rd"
                      refine r_ixL (sqL hsp3) (at_g em2 hvb2) ?_
                      walk_at "rd"
                      refine r_ixT (sqT hqb2) (atI_nat (j := 0) rfl) ?_
                      walk_at "rd"
                      refine r_ixL (sqL hsp3) (at_g em2 hvb2) ?_
                      walk_at "rd"
                      refine r_ixT (sqT hqb2) (atI_nat (j := 1) rfl) ?_
                      walk_at "rd"
                      refine r_ixL (sqL hsp3) (atI_nat hvu) ?_
                      walk_at "rd"
                      refine r_ixT (sqT hqu) (atI_nat (j := 0) rfl) ?_
                      walk_at "rd"
                      refine r_ite (fun c6 => ?_) (fun c6 => ?_)
                      · have c6' : b2.1 + b2.2.1 = u.1 := by have := V.int.inj c6; omega
                        rw [if_pos c6'] at gs2
                        refine ⟨_, fun _ _ h => h, ?_⟩
                        walk_at "rd"
                        rw [em2]
                        refine r_ixL (sqL hf3) (atI_nat (hsv hb2)) ?_
                        walk_at "rd"
                        exact ⟨m2, by omega, b2, hb2, by omega, by rw [← gs2]; exact hgr, rfl, rfl⟩
                      · walk_at "rd"
                        refine done ?_
                        rw [gs2, if_neg fun z => c6 (by rw [← z]; rfl)]
                    · walk_at "rd"
                      refine done ?_
                      have e0 : mm = 0 := by omega
                      rw [e0]
                      rfl
                  · walk_at "rd"
                    refine base ?_
                    rw [gs, if_neg fun z => c4 (by rw [← z]; rfl)]
                · walk_at "rd"
                  refine base ?_
                  have e0 : k = 0 := by omega
                  rw [e0]
                  rfl
              · walk_at "rd"
                rw [l3 (by omega)]
                exact ⟨y15, rfl, rfl⟩
          rintro σ _ ⟨y15, rfl, rfl⟩
          walk_at "rd"
          refine r_ite (fun c1 => ?_) (fun c1 => ?_)
          · walk_at "rd"
            refine r_ixL (sqL hf3) (atI_nat (hsv hx)) ?_
            walk_at "rd"
            refine r_lenS tl ?_
            walk_at "rd"
            refine ⟨some (.int (k : Nat)), some (.int (x.1 : Nat)), some (.int (x.2.1 : Nat)), some (.str x.2.2), y15, ?_, rfl⟩
            rw [← u1 (by omega)]
            rfl
          · walk_at "rd"
            refine r_ite (fun c2 => ?_) (fun c2 => ?_)
            · walk_at "rd"
              refine r_ixL (sqL hf3) (atI_nat (hsv hx)) ?_
              walk_at "rd"
              refine r_lenS tl ?_
              walk_at "rd"
              refine ⟨some (.int (k : Nat)), some (.int (x.1 : Nat)), some (.int (x.2.1 : Nat)), some (.str x.2.2), y15, ?_, rfl⟩
              rw [← u2 (by omega) (by omega)]
              rfl
            · walk_at "rd"
              rw [← u3 (by omega)]
              exact ⟨_, _, _, _, _, rfl, rfl⟩
        · obtain ⟨y11, y12, y13, y14, y15, rfl, rfl⟩ := hW
          have em : ((vs.length : Nat) : Int).toNat = (l.map tri).length := by rw [List.length_map]; omega
          rw [em]
          have full : ∀ s, mvk s p (l.map tri) (l.map tri).length = mvs s p (l.map tri) := fun s => by unfold mvk; rw [List.take_length]
          rw [full, full]
          walk_at "rd"
          refine r_tupLV hsp3 hl3 fun tp H5' ntp E5' htp => ?_
          walk_at "rd"
          refine ⟨p, 0, .ref tp, l, rfl, htp, by decide, t100, ?_⟩
          walk_at "rd"
          refine ⟨_, rfl, ?_⟩
          walk_at "rd"
          refine r_tupLV (E5' _ _ hsp3) (p2_imm (.ex E5') hl3) fun tp2 H6' ntp2 E6' htp2 => ?_
          walk_at "rd"
          refine ⟨p, 1, .ref tp2, l, rfl, htp2, by decide, t100, ?_⟩
          walk_at "rd"
          refine ⟨_, rfl, ?_⟩
          walk_at "rd"
          have E36 := E5'.trans E6'
          exact ⟨_, _, _, _, _, _, _, _, _, _, _, _, rfl, (D.trans D23).then E36, E36 _ _ hsp3, p2_imm (.ex E36) hl3, E36 _ _ hf3⟩
      · obtain ⟨z4, y5, y6, y7, y8, y9, y10, y11, y12, y13, y14, y15, rfl, D, _⟩ := hW
        walk_at "rd"
        exact q H' D
end
end K16
namespace K16
open PySem PySem.Spec PyProof.Rows L2 Dk
/-- one step of a reading -/
local macro_rules | `(tactic| walk_at "rd1") => `(tactic| first
  | ((with_reducible refine r_var (v := ?rv) ?rh ?_); (case rh => rfl))
  | with_reducible refine r_c ?_
  | with_reducible refine r_seq ?_
  | with_reducible refine r_asg ?_
  | with_reducible refine r_par ?_
  | with_reducible refine r_gname ?_
  | with_reducible refine r_op ?_
  | with_reducible refine r_forLo ?_
  | with_reducible refine r_forTo ?_
  | with_reducible refine r_forSo ?_
  | with_reducible refine r_forRo ?_
  | with_reducible refine r_forRvo ?_
  | with_reducible refine r_lcRo ?_
  | with_reducible refine r_lcLo ?_
  | with_reducible refine r_yes ?_
  | with_reducible refine r_callK0 ?_
  | with_reducible refine r_break ?_
  | with_reducible refine r_forR2o ?_
  | with_reducible refine r_forEo ?_
  | with_reducible refine r_forESo ?_
  | with_reducible refine r_xfo ?_
  | with_reducible refine r_noP ?_
  | with_reducible refine r_part ?_
  | with_reducible refine r_pI ?_
  | with_reducible refine r_gcons ?_
  | with_reducible refine r_gnil ?_
  | with_reducible refine r_mkO ?_
  | with_reducible refine r_un ?_
  | with_reducible refine r_addI ?_
  | with_reducible refine r_I0 ?_
  | with_reducible refine r_U ?_
  | with_reducible refine r_cons ?_
  | with_reducible refine r_nil ?_
  | with_reducible refine r_CB ?_
  | with_reducible refine r_call ?_
  | with_reducible refine r_callS ?_
  | with_reducible refine r_int ?_
  | with_reducible refine r_max ?_
  | with_reducible refine r_min ?_
  | with_reducible refine r_test ?_
  | with_reducible refine r_B ?_
  | with_reducible refine r_blv ?_
  | with_reducible refine r_and ?_
  | with_reducible refine r_or ?_
  | with_reducible refine r_not ?_
  | with_reducible refine r_andV ?_
  | with_reducible refine r_orV ?_
  | with_reducible refine r_notV ?_
  | with_reducible refine r_ifE ?_
  | with_reducible refine r_ifS ?_
  | with_reducible refine r_ret ?_
  | with_reducible refine r_retN ?_
  | with_reducible refine r_drop ?_
  | with_reducible refine r_next ?_
  | with_reducible refine r_sl ?_
  | with_reducible refine r_gsub ?_
  | with_reducible refine r_bm ?_
  | with_reducible refine r_tup ?_
  | with_reducible refine r_lst ?_
  | with_reducible refine r_isN ?_
  | with_reducible refine r_notN ?_
  | with_reducible refine r_itt ?_
  | with_reducible refine r_iff ?_
  | with_reducible refine r_ittN ?_
  | with_reducible refine r_iffN ?_
  | ((with_reducible refine r_ittD ?rh ?_); (case rh => rfl))
  | ((with_reducible refine r_iffD ?rh ?_); (case rh => rfl))
  | ((with_reducible refine r_modP ?rh ?_); (case rh => decide))
  | ((with_reducible refine r_eq ?rh ?_); (case rh => rfl))
  | ((with_reducible refine r_eqP ?rh ?_); (case rh => rfl))
  | ((with_reducible refine r_ne ?rh ?_); (case rh => rfl)))
local macro_rules | `(tactic| walk_at "rd") => `(tactic| repeat walk_at "rd1")
local macro_rules | `(tactic| walk_at "isi") => `(tactic| first | refine r_isi (b := true) (by assumption) (by decide +kernel) ?_ | refine r_isi (b := false) (by assumption) (by decide +kernel) ?_)
local macro_rules | `(tactic| walk_at "rs1") => `(tactic| first
  | with_reducible refine r_seq ?_
  | with_reducible refine r_asg ?_
  | with_reducible refine r_gname ?_
  | with_reducible refine r_ret ?_)
local macro_rules | `(tactic| walk_at "rs") => `(tactic| repeat walk_at "rs1")

section
variable {P : Program} {w : World} {K : PySem.W.Frag} {mg : Str → Option Value} {base : Heap}
def spSameP : Sp := fun vs H Q _ => ∃ (v u : V) (o : Option (Spc × Spc)), vs = [v, u] ∧ OptP H v o ∧ OptP H u o ∧ Q (.bl true) H
theorem ok_law_same (T : Txt K mg) : FnOk P w K mg base CX0 2 T.a_law_same T.d_law_same ["_law_due", "_law_told"] spSameP := by
  refine T.F_law_same.ok sc_law_same (fun vs H Q E h => ?_) (fun cdv A outer s H vs Q E hr h => ?_)
  · obtain ⟨v, u, o, rfl, _⟩ := h
    rfl
  · obtain ⟨v, u, o, rfl, hv, hu, q⟩ := h
    refine ⟨_, (pss_cons (ps_if (PW.pt (pw_or (pt_cmpR op_isU (pv 0) pe_non (nomark _)) (pw_or1 (pt_cmpR op_isU (pv 1) pe_non (nomark _))))) (pss_one (ps_ret (pe_and (pe_cmpR op_isU (pv 0) pe_non (nomark _)) (pe_one (pe_cmpR op_isU (pv 1) pe_non (nomark _)))))) pss_nil)
        (pss_cons (ps_if (PW.pt (pw_or (pt_not (pt_val (pe_callB call_isi (by rfl) T.n_isinstance (by decide +kernel) (pa_cons (pv 1) (pa_cons (pe_bltn (v := .ty "tuple") (by rfl) T.n_tuple (by decide +kernel) rfl) pa_nil))))) (pw_or1 (pt_cmpR (op_neU hr.units) (pe_callB call_lenU (by rfl) T.n_len (by decide +kernel) (pa_cons (pv 1) pa_nil)) pe_int (nomark _))))) (pss_one (ps_ret pe_bl)) pss_nil)
        (pss_cons (ps_for PassesOwn.never rfl (pi_range1 (by rfl) T.n_range (pa_cons pe_int pa_nil)) (pg_name (i := 2) sc_law_same.nd rfl (Or.inl rfl)) (pss_cons (ps_if (PW.pt (pw_or (pt_not (pt_val (pe_callB call_isi (by rfl) T.n_isinstance (by decide +kernel) (pa_cons (pe_ix ix_seq (pv 1) (pv 2) (fun _ _ => rfl)) (pa_cons (pe_bltn (v := .ty "tuple") (by rfl) T.n_tuple (by decide +kernel) rfl) pa_nil))))) (pw_or (pt_cmpR (op_neU hr.units) (pe_callB call_lenU (by rfl) T.n_len (by decide +kernel) (pa_cons (pe_ix ix_seq (pv 1) (pv 2) (fun _ _ => rfl)) pa_nil)) pe_int (nomark _)) (pw_or1 (pt_not (pt_val (pe_callB call_isi (by rfl) T.n_isinstance (by decide +kernel) (pa_cons (pe_ix ix_seq (pe_ix ix_seq (pv 1) (pv 2) (fun _ _ => rfl)) pe_int (fun _ _ => rfl)) (pa_cons (pe_bltn (v := .ty "str") (by rfl) T.n_str (by decide +kernel) rfl) pa_nil))))))))) (pss_one (ps_ret pe_bl)) pss_nil)
        (pss_one (ps_if (PW.pt (pw_or (pt_not (pt_val (pe_call (ok_law_is T) hr (by rfl) T.g_law_is T.F_law_is.kp T.b_law_is .nil pass0 (pa_cons (pe_ix ix_seq (pe_ix ix_seq (pv 0) (pv 2) (fun _ _ => rfl)) pe_int (fun _ _ => rfl)) (pa_cons (pe_ix ix_seq (pe_ix ix_seq (pv 1) (pv 2) (fun _ _ => rfl)) pe_int (fun _ _ => rfl)) pa_nil))))) (pw_or (pt_not (pt_val (pe_call (ok_law_is T) hr (by rfl) T.g_law_is T.F_law_is.kp T.b_law_is .nil pass0 (pa_cons (pe_ix ix_seq (pe_ix ix_seq (pv 0) (pv 2) (fun _ _ => rfl)) pe_int (fun _ _ => rfl)) (pa_cons (pe_ix ix_seq (pe_ix ix_seq (pv 1) (pv 2) (fun _ _ => rfl)) pe_int (fun _ _ => rfl)) pa_nil))))) (pw_or1 (pt_cmpR (op_neU hr.units) (pe_ix ix_seq (pe_ix ix_seq (pv 0) (pv 2) (fun _ _ => rfl)) pe_int (fun _ _ => rfl)) (pe_ix ix_seq (pe_ix ix_seq (pv 1) (pv 2) (fun _ _ => rfl)) pe_int (fun _ _ => rfl)) (nomark _)))))) (pss_one (ps_ret pe_bl)) pss_nil))))
        (pss_one (ps_ret pe_bl))))), ?_⟩
    cases o with
    | none =>
      obtain rfl : v = .non := hv
      obtain rfl : u = .non := hu
      walk_at "rd"
      exact q
    | some z =>
      obtain ⟨p, a1, b1, rfl, hp, ha1, hb1⟩ := hv
      obtain ⟨p2, a2, b2, rfl, hp2, ha2, hb2⟩ := hu
      have ty : TyX K H (.ref p2) (.type "tuple") := .base (.tup hp2)
      walk_at "rd"
      walk_at "isi"
      walk_at "rd"
      refine r_lenT (sqT hp2) ?_
      walk_at "rd"
      refine l_R (by decide) (by decide) (fun i σ H' => ∃ y, σ = [some (.ref p), some (.ref p2), y] ∧ H' = H) ⟨none, rfl, rfl⟩ (fun i σ H' hi hW => ?_) (fun σ H' hW => ?_)
      · obtain ⟨y, rfl, rfl⟩ := hW
        have hi' : i < 2 := by omega
        obtain ⟨x, q1, q2, h1, h2, g1, g2⟩ : ∃ (x : Spc) (q1 q2 : Addr), [a1, b1][i]? = some (.ref q1) ∧ [a2, b2][i]? = some (.ref q2) ∧ H' q1 = some (.tup [.int (x.1 : Nat), .int (x.2.1 : Nat), .str x.2.2]) ∧ H' q2 = some (.tup [.int (x.1 : Nat), .int (x.2.1 : Nat), .str x.2.2]) := by
          obtain ⟨q1, rfl, g1⟩ := ha1
          obtain ⟨q2, rfl, g2⟩ := ha2
          obtain ⟨q3, rfl, g3⟩ := hb1
          obtain ⟨q4, rfl, g4⟩ := hb2
          match i, hi' with
          | 0, _ => exact ⟨z.1, q1, q2, rfl, rfl, g1, g2⟩
          | 1, _ => exact ⟨z.2, q3, q4, rfl, rfl, g3, g4⟩
        have ty2 : TyX K H' (.ref q2) (.type "tuple") := .base (.tup g2)
        have ty3 : TyX K H' (.str x.2.2) (.type "str") := .base (.str _)
        walk_at "rd"
        refine r_ixT (sqT hp2) (atI_nat h2) ?_
        walk_at "rd"
        walk_at "isi"
        walk_at "rd"
        refine r_ixT (sqT hp2) (atI_nat h2) ?_
        walk_at "rd"
        refine r_lenT (sqT g2) ?_
        walk_at "rd"
        refine r_ixT (sqT hp2) (atI_nat h2) ?_
        walk_at "rd"
        refine r_ixT (sqT g2) (atI_nat (j := 2) rfl) ?_
        walk_at "rd"
        walk_at "isi"
        walk_at "rd"
        refine r_ixT (sqT hp) (atI_nat h1) ?_
        walk_at "rd"
        refine r_ixT (sqT g1) (atI_nat (j := 0) rfl) ?_
        walk_at "rd"
        refine r_ixT (sqT hp2) (atI_nat h2) ?_
        walk_at "rd"
        refine r_ixT (sqT g2) (atI_nat (j := 0) rfl) ?_
        walk_at "rd"
        refine ⟨_, rfl, ?_⟩
        walk_at "rd"
        refine r_ixT (sqT hp) (atI_nat h1) ?_
        walk_at "rd"
        refine r_ixT (sqT g1) (atI_nat (j := 1) rfl) ?_
        walk_at "rd"
        refine r_ixT (sqT hp2) (atI_nat h2) ?_
        walk_at "rd"
        refine r_ixT (sqT g2) (atI_nat (j := 1) rfl) ?_
        walk_at "rd"
        refine ⟨_, rfl, ?_⟩
        walk_at "rd"
        refine r_ixT (sqT hp) (atI_nat h1) ?_
        walk_at "rd"
        refine r_ixT (sqT g1) (atI_nat (j := 2) rfl) ?_
        walk_at "rd"
        refine r_ixT (sqT hp2) (atI_nat h2) ?_
        walk_at "rd"
        refine r_ixT (sqT g2) (atI_nat (j := 2) rfl) ?_
        walk_at "rd"
        refine r_iteN (fun c => absurd rfl c) (fun _ => ?_)
        walk_at "rd"
        exact ⟨_, rfl, rfl⟩
      · obtain ⟨y, rfl, rfl⟩ := hW
        walk_at "rd"
        exact q
/-! ### rows of numbers -/
def rowL (n : Nat) : List Int := (List.range n).map fun k => ((k : Nat) : Int)
def putL (m : Nat) (b : Int) : List Int := (List.range m).map fun k => b + ((k : Nat) : Int)
def lay (n a c m : Nat) (b : Int) : List Int := (rowL n).take a ++ putL m b ++ (rowL n).drop (a + c)
theorem row_at {n j : Nat} : (rowL n)[j]? = if j < n then some ((j : Nat) : Int) else none := by
  unfold rowL
  rw [List.getElem?_map]
  by_cases h : j < n
  · rw [if_pos h, List.getElem?_range h]; rfl
  · rw [if_neg h, List.getElem?_eq_none (by simp; omega)]; rfl
theorem put_at {m j : Nat} {b : Int} : (putL m b)[j]? = if j < m then some (b + ((j : Nat) : Int)) else none := by
  unfold putL
  rw [List.getElem?_map]
  by_cases h : j < m
  · rw [if_pos h, List.getElem?_range h]; rfl
  · rw [if_neg h, List.getElem?_eq_none (by simp; omega)]; rfl
theorem row_len {n : Nat} : (rowL n).length = n := by simp [rowL]
theorem put_len' {m : Nat} {b : Int} : (putL m b).length = m := by simp [putL]
theorem lay_len {n a c m : Nat} {b : Int} (h : a + c ≤ n) : (lay n a c m b).length = n - c + m := by
  unfold lay
  rw [List.length_append, List.length_append, List.length_take, List.length_drop, row_len, put_len']
  omega
theorem lay_at {n a c m j : Nat} {b : Int} (h : a + c ≤ n) : (lay n a c m b)[j]? = if j < a then some ((j : Nat) : Int) else if j < a + m then some (b + ((j - a : Nat) : Int)) else if j < n - c + m then some ((j - m + c : Nat) : Int) else none := by
  unfold lay
  have l1 : ((rowL n).take a).length = a := by rw [List.length_take, row_len]; omega
  by_cases c1 : j < a
  · rw [if_pos c1, List.append_assoc, List.getElem?_append_left (by omega), List.getElem?_take, if_pos c1, row_at, if_pos (by omega)]
  · rw [if_neg c1]
    by_cases c2 : j < a + m
    · rw [if_pos c2, List.append_assoc, List.getElem?_append_right (by omega), l1, List.getElem?_append_left (by rw [put_len']; omega), put_at, if_pos (by omega)]
    · rw [if_neg c2, List.getElem?_append_right (by rw [List.length_append, l1, put_len']; omega), List.length_append, l1, put_len', List.getElem?_drop, row_at]
      by_cases c3 : j < n - c + m
      · rw [if_pos c3, if_pos (by omega)]
        congr 2
        omega
      · rw [if_neg c3, if_neg (by omega)]
theorem mem_take {l : List Int} {s : Nat} {v : Int} : v ∈ l.take s ↔ ∃ j, j < s ∧ l[j]? = some v := by
  rw [List.mem_iff_getElem?]
  constructor
  · rintro ⟨j, hj⟩
    rw [List.getElem?_take] at hj
    split at hj
    · exact ⟨j, by assumption, hj⟩
    · cases hj
  · rintro ⟨j, h, hj⟩
    exact ⟨j, by rw [List.getElem?_take, if_pos h]; exact hj⟩
theorem mem_drop {l : List Int} {s : Nat} {v : Int} : v ∈ l.drop s ↔ ∃ j, s ≤ j ∧ l[j]? = some v := by
  rw [List.mem_iff_getElem?]
  constructor
  · rintro ⟨j, hj⟩
    rw [List.getElem?_drop] at hj
    exact ⟨s + j, by omega, hj⟩
  · rintro ⟨j, h, hj⟩
    exact ⟨j - s, by rw [List.getElem?_drop, show s + (j - s) = j by omega]; exact hj⟩
section
variable {n a c m s d k : Nat}
/-- where a number of the old row lies -/
theorem lay_of {b : Int} {v j : Nat} (h : a + c ≤ n) (hb : (n : Int) ≤ b) (hv : v < n) : (lay n a c m b)[j]? = some ((v : Nat) : Int) ↔ (v < a ∧ j = v) ∨ (a + c ≤ v ∧ j = v - c + m) := by
  rw [lay_at h]
  by_cases c1 : j < a
  · rw [if_pos c1]
    constructor
    · intro e
      have := Option.some.inj e
      exact .inl (by omega)
    · rintro (⟨h1, rfl⟩ | ⟨h1, rfl⟩)
      · rfl
      · omega
  · rw [if_neg c1]
    by_cases c2 : j < a + m
    · rw [if_pos c2]
      constructor
      · intro e
        have := Option.some.inj e
        omega
      · rintro (⟨h1, rfl⟩ | ⟨h1, rfl⟩) <;> omega
    · rw [if_neg c2]
      by_cases c3 : j < n - c + m
      · rw [if_pos c3]
        constructor
        · intro e
          have := Option.some.inj e
          exact .inr (by omega)
        · rintro (⟨h1, rfl⟩ | ⟨h1, rfl⟩)
          · omega
          · congr 2
            omega
      · rw [if_neg c3]
        constructor
        · intro e; cases e
        · rintro (⟨h1, rfl⟩ | ⟨h1, rfl⟩) <;> omega
theorem idx_of {b : Int} {v j : Nat} (h : a + c ≤ n) (hb : (n : Int) ≤ b) (hv : v < n) (hj : (v < a ∧ j = v) ∨ (a + c ≤ v ∧ j = v - c + m)) :
    (lay n a c m b)[j]? = some ((v : Nat) : Int) ∧ ∀ i, i < j → (lay n a c m b)[i]? ≠ some ((v : Nat) : Int) :=
  ⟨(lay_of h hb hv).mpr hj, fun i hi e => by
    have := (lay_of h hb hv).mp e
    omega⟩
theorem idx_row {v : Nat} (hv : v < n) : (rowL n)[v]? = some ((v : Nat) : Int) ∧ ∀ i, i < v → (rowL n)[i]? ≠ some ((v : Nat) : Int) :=
  ⟨by rw [row_at, if_pos hv], fun i hi e => by
    rw [row_at] at e
    split at e
    · have := Option.some.inj e
      omega
    · cases e⟩
end
def spLed : Sp := fun vs H Q _ => ∃ (n : Nat) (v u : V) (x y : Spc), vs = [.int (n : Nat), v, u] ∧ SpcV H v x ∧ SpcV H u y ∧ x.1 + x.2.1 ≤ n ∧ n ≤ 3000 ∧ y.1 + y.2.1 ≤ n - x.2.1 + x.2.2.length ∧ x.2.2.length ≤ 100 ∧ y.2.2.length ≤ 100 ∧
  ∀ w H', Ex H H' → OptP H' w (ledp x y) → Q w H'
theorem r_slLt {H : Hp} {Q : VK} {p : Addr} {ns : List Int} {k : Int} {j : Nat} (h : H p = some (.lst (ns.map V.int))) (e : k = (j : Nat)) (q : ∀ l, H l = none → Q (.ref l) (upd H l (.lst ((ns.take j).map V.int)))) : rSlU K (.ref p) none (some k) H Q := by
  subst e
  refine r_slL (sqL h) fun l hl => ?_
  rw [cutV_to, ← List.map_take]
  exact q l hl
theorem r_slLd {H : Hp} {Q : VK} {p : Addr} {ns : List Int} {k : Int} {j : Nat} (h : H p = some (.lst (ns.map V.int))) (e : k = (j : Nat)) (q : ∀ l, H l = none → Q (.ref l) (upd H l (.lst ((ns.drop j).map V.int)))) : rSlU K (.ref p) (some k) none H Q := by
  subst e
  refine r_slL (sqL h) fun l hl => ?_
  rw [cutV_from, ← List.map_drop]
  exact q l hl
theorem r_catI {H : Hp} {Q : VK} {p q : Addr} {xs ys : List Int} (hp : H p = some (.lst (xs.map V.int))) (hq : H q = some (.lst (ys.map V.int))) (hz : xs.length + ys.length ≤ 8000) (k : ∀ l, H l = none → Q (.ref l) (upd H l (.lst ((xs ++ ys).map V.int)))) : rAddU K (.ref p) (.ref q) H Q := by
  refine r_addL hp hq (by rw [List.length_map, List.length_map, sizeLine_eq]; omega) fun l hl => ?_
  rw [← List.map_append]
  exact k l hl
/-- a list of numbers by a comprehension -/
theorem step_ints {H H' : Hp} {D : Addr} {f : Nat → Int} {i : Nat} (e : Ex H H') (hD : H D = none) (h : H' D = some (.lst (((List.range i).map f).map V.int))) (hi : i ≤ 8000) :
    ∃ acc, H' D = some (.lst acc) ∧ acc.length < sizeLine ∧ Ex H (upd H' D (.lst (acc ++ [V.int (f i)]))) ∧ (upd H' D (.lst (acc ++ [V.int (f i)]))) D = some (.lst (((List.range (i + 1)).map f).map V.int)) := by
  refine ⟨_, h, by rw [List.length_map, List.length_map, List.length_range, sizeLine_eq]; omega, Same.mut e hD, ?_⟩
  rw [upd_same, List.range_succ, List.map_append, List.map_append]
  rfl
theorem ok_law_led (T : Txt K mg) : FnOk P w K mg base CX0 1 T.a_law_led T.d_law_led ["_law_size", "_law_first", "_law_second"] spLed := by
  refine T.F_law_led.ok sc_law_led (fun vs H Q E h => ?_) (fun cdv A outer s H vs Q E hr h => ?_)
  · obtain ⟨n, v, u, x, y, rfl, _⟩ := h
    rfl
  · obtain ⟨n, v, u, ⟨a, c, t⟩, ⟨s, d, z⟩, rfl, ⟨q1, rfl, h1⟩, ⟨q2, rfl, h2⟩, ac, n3, sd, ht, hz, q⟩ := h
    refine ⟨_, (pss_cons (ps_setLc (i := 3) (own := [("_law_k", 10)]) (g := gName 10) rfl sc_law_led.nd rfl rfl (sw_true rfl rfl rfl (by decide +kernel)) (pi_range1 (by rfl) T.n_range (pa_cons (pv 0) pa_nil)) (blkOk_by (N := N_law_led) (sc := defScope s_law_led) (by decide +kernel)) (fun _ _ _ _ _ => pg_name (i := 10) sc_law_led.nd rfl (Or.inl rfl)) (fun _ _ _ _ _ => pts_nil) (fun _ _ _ _ _ => (pv 10)))
        (pss_cons (ps_set (i := 4) sc_law_led.nd rfl (Or.inl rfl) (pe_op op_addU (pe_ix ix_seq (pv 1) pe_int (fun _ _ => rfl)) (pe_callB call_lenU (by rfl) T.n_len (by decide +kernel) (pa_cons (pe_ix ix_seq (pv 1) pe_int (fun _ _ => rfl)) pa_nil))))
        (pss_cons (ps_set (i := 5) sc_law_led.nd rfl (Or.inl rfl) (pe_op op_addU (pe_op op_addU (pe_slice sl_U (pv 3) po_none (po_some (pe_ix ix_seq (pv 1) pe_int (fun _ _ => rfl)))) (pe_lc (own := [("_law_k", 10)]) (g := gName 10) rfl sc_law_led.nd (pi_range1 (by rfl) T.n_range (pa_cons (pe_callB call_lenU (by rfl) T.n_len (by decide +kernel) (pa_cons (pe_ix ix_seq (pv 1) pe_int (fun _ _ => rfl)) pa_nil)) pa_nil)) (blkOk_by (N := N_law_led) (sc := defScope s_law_led) (by decide +kernel)) (fun _ _ _ _ _ => pg_name (i := 10) sc_law_led.nd rfl (Or.inl rfl)) (fun _ _ _ _ _ => pts_nil) (fun _ _ _ _ _ => (pe_op (k_add (K := K) rfl) pe_int (pv 10))))) (pe_slice sl_U (pv 3) (po_some (pe_op op_addU (pe_ix ix_seq (pv 1) pe_int (fun _ _ => rfl)) (pe_ix ix_seq (pv 1) pe_int (fun _ _ => rfl)))) po_none)))
        (pss_cons (ps_setLc (i := 6) (own := [("_law_k", 10)]) (g := gName 10) rfl sc_law_led.nd rfl rfl (sw_true rfl rfl rfl (by decide +kernel)) (pi_range1 (by rfl) T.n_range (pa_cons (pe_callB call_lenU (by rfl) T.n_len (by decide +kernel) (pa_cons (pe_ix ix_seq (pv 2) pe_int (fun _ _ => rfl)) pa_nil)) pa_nil)) (blkOk_by (N := N_law_led) (sc := defScope s_law_led) (by decide +kernel)) (fun _ _ _ _ _ => pg_name (i := 10) sc_law_led.nd rfl (Or.inl rfl)) (fun _ _ _ _ _ => pts_nil) (fun _ _ _ _ _ => (pe_op (k_add (K := K) rfl) pe_int (pv 10))))
        (Evl.pss_cut (ps_if (PW.pt (pw_and (pt_cmpR op_lt (pv 4) (pe_callB call_lenU (by rfl) T.n_len (by decide +kernel) (pa_cons (pv 5) pa_nil)) (nomark _)) (pw_and1 (pt_cmpR op_inU (pe_ix ix_seq (pv 5) (pv 4) (fun _ _ => rfl)) (pe_slice sl_U (pv 5) po_none (po_some (pe_ix ix_seq (pv 2) pe_int (fun _ _ => rfl)))) (by rfl))))) (pss_cons (ps_set (i := 7) sc_law_led.nd rfl (Or.inl rfl) (pe_op op_addU (pe_bm PySem.F.plainAttrs_list PySem.F.slot_list_index PySem.F.type_list_index (mt_indexD hr.units65) (pv 3) (pa_cons (pe_ix ix_seq (pv 5) (pe_op op_sub (pe_ix ix_seq (pv 2) pe_int (fun _ _ => rfl)) pe_int) (fun _ _ => rfl)) pa_nil)) pe_int))
        (pss_cons (ps_set (i := 8) sc_law_led.nd rfl (Or.inl rfl) (pe_op op_addU (pe_op op_addU (pe_slice sl_U (pv 3) po_none (po_some (pv 7))) (pv 6)) (pe_slice sl_U (pv 3) (po_some (pe_op op_addU (pv 7) (pe_ix ix_seq (pv 2) pe_int (fun _ _ => rfl)))) po_none)))
        (pss_one (ps_set (i := 9) sc_law_led.nd rfl (Or.inl rfl) (pe_op op_sub (pe_bm PySem.F.plainAttrs_list PySem.F.slot_list_index PySem.F.type_list_index (mt_indexD hr.units65) (pv 8) (pa_cons (pe_ix ix_seq (pv 5) (pv 4) (fun _ _ => rfl)) pa_nil)) (pe_ix ix_seq (pv 1) pe_int (fun _ _ => rfl))))))) (pss_one (ps_if (PW.pt (pw_and (pt_cmpR op_gt (pe_ix ix_seq (pv 1) pe_int (fun _ _ => rfl)) pe_int (nomark _)) (pw_and1 (pt_cmpR op_inU (pe_ix ix_seq (pv 5) (pe_op op_sub (pe_ix ix_seq (pv 1) pe_int (fun _ _ => rfl)) pe_int) (fun _ _ => rfl)) (pe_slice sl_U (pv 5) (po_some (pe_op op_addU (pe_ix ix_seq (pv 2) pe_int (fun _ _ => rfl)) (pe_ix ix_seq (pv 2) pe_int (fun _ _ => rfl)))) po_none) (by rfl))))) (pss_cons (ps_set (i := 7) sc_law_led.nd rfl (Or.inl rfl) (pe_op op_sub (pe_bm PySem.F.plainAttrs_list PySem.F.slot_list_index PySem.F.type_list_index (mt_indexD hr.units65) (pv 3) (pa_cons (pe_ix ix_seq (pv 5) (pe_op op_addU (pe_ix ix_seq (pv 2) pe_int (fun _ _ => rfl)) (pe_ix ix_seq (pv 2) pe_int (fun _ _ => rfl))) (fun _ _ => rfl)) pa_nil)) (pe_ix ix_seq (pv 2) pe_int (fun _ _ => rfl))))
        (pss_cons (ps_set (i := 8) sc_law_led.nd rfl (Or.inl rfl) (pe_op op_addU (pe_op op_addU (pe_slice sl_U (pv 3) po_none (po_some (pv 7))) (pv 6)) (pe_slice sl_U (pv 3) (po_some (pe_op op_addU (pv 7) (pe_ix ix_seq (pv 2) pe_int (fun _ _ => rfl)))) po_none)))
        (pss_one (ps_set (i := 9) sc_law_led.nd rfl (Or.inl rfl) (pe_op op_addU (pe_bm PySem.F.plainAttrs_list PySem.F.slot_list_index PySem.F.type_list_index (mt_indexD hr.units65) (pv 8) (pa_cons (pe_ix ix_seq (pv 5) (pe_op op_sub (pe_ix ix_seq (pv 1) pe_int (fun _ _ => rfl)) pe_int) (fun _ _ => rfl)) pa_nil)) pe_int))))) (pss_one (ps_ret pe_non)))))
        (pss_one (ps_ret (pe_tup (pa_cons (pe_tup (pa_cons (pv 7) (pa_cons (pe_ix ix_seq (pv 2) pe_int (fun _ _ => rfl)) (pa_cons (pe_ix ix_seq (pv 2) pe_int (fun _ _ => rfl)) pa_nil)))) (pa_cons (pe_tup (pa_cons (pv 9) (pa_cons (pe_ix ix_seq (pv 1) pe_int (fun _ _ => rfl)) (pa_cons (pe_ix ix_seq (pv 1) pe_int (fun _ _ => rfl)) pa_nil)))) pa_nil)))))))))), ?_⟩
    dsimp only at h1 h2 ac sd ht hz
    have tl : t.length ≤ sizeLine := Nat.le_of_lt (Nat.lt_of_le_of_lt ht (by decide))
    have zl : z.length ≤ sizeLine := Nat.le_of_lt (Nat.lt_of_le_of_lt hz (by decide))
    unfold ledp at q
    dsimp only at q
    obtain ⟨m, hm⟩ : ∃ m, m = t.length := ⟨_, rfl⟩
    obtain ⟨k, hk⟩ : ∃ k, k = z.length := ⟨_, rfl⟩
    rw [← hm, ← hk] at q
    rw [← hm] at sd ht
    rw [← hk] at hz
    have nb : (n : Int) ≤ 9000 := by omega
    have nb2 : (n : Int) ≤ 9500 := by omega
    walk_at "rd"
    refine l_lcR (by omega) (by omega) (fun D i H' => Ex H H' ∧ H' D = some (.lst (((List.range i).map fun k => ((k : Nat) : Int)).map V.int))) (fun D hD => ⟨Same.new (Same.refl H) hD, upd_same⟩) (fun D i H' hD hi hW => ?_) (fun rw_ H1 nrw hW => ?_)
    · walk_at "rd"
      refine ⟨rfl, ?_⟩
      walk_at "rd"
      exact step_ints hW.1 hD hW.2 (by omega)
    obtain ⟨e1, hrw⟩ := hW
    rw [Int.toNat_natCast, show (List.range n).map (fun k => ((k : Nat) : Int)) = rowL n from rfl] at hrw
    walk_at "rd"
    refine r_ixT (sqT (e1 _ _ h1)) (atI_nat (j := 0) rfl) ?_
    walk_at "rd"
    refine r_ixT (sqT (e1 _ _ h1)) (atI_nat (j := 2) rfl) ?_
    walk_at "rd"
    refine r_lenS tl ?_
    rw [← hm]
    walk_at "rd"
    refine r_ixT (sqT (e1 _ _ h1)) (atI_nat (j := 0) rfl) ?_
    walk_at "rd"
    refine r_slLt hrw rfl fun p2 n2 => ?_
    obtain ⟨H2, k2, e2, hp2⟩ := nL (.lst (((rowL n).take a).map V.int)) n2
    rw [← k2]
    have e02 := e1.trans e2
    walk_at "rd"
    refine r_ixT (sqT (e02 _ _ h1)) (atI_nat (j := 2) rfl) ?_
    walk_at "rd"
    refine r_lenS tl ?_
    rw [← hm]
    walk_at "rd"
    refine l_lcR (by omega) (by omega) (fun D i H' => Ex H2 H' ∧ H' D = some (.lst (((List.range i).map fun k => (9000 : Int) + ((k : Nat) : Int)).map V.int))) (fun D hD => ⟨Same.new (Same.refl H2) hD, upd_same⟩) (fun D i H' hD hi hW => ?_) (fun p3 H3 n3' hW => ?_)
    · walk_at "rd"
      refine ⟨rfl, ?_⟩
      walk_at "rd"
      exact step_ints hW.1 hD hW.2 (by omega)
    obtain ⟨e3, hp3⟩ := hW
    rw [Int.toNat_natCast, show (List.range m).map (fun k => (9000 : Int) + ((k : Nat) : Int)) = putL m 9000 from rfl] at hp3
    refine r_catI (e3 _ _ hp2) hp3 (by rw [List.length_take, row_len, put_len']; omega) fun p4 n4 => ?_
    obtain ⟨H4, k4, e4, hp4⟩ := nL (.lst (((rowL n).take a ++ putL m 9000).map V.int)) n4
    rw [← k4]
    have e14 := (e2.trans e3).trans e4
    have e04 := e1.trans e14
    walk_at "rd"
    refine r_ixT (sqT (e04 _ _ h1)) (atI_nat (j := 0) rfl) ?_
    walk_at "rd"
    refine r_ixT (sqT (e04 _ _ h1)) (atI_nat (j := 1) rfl) ?_
    walk_at "rd"
    refine r_slLd (j := a + c) (e14 _ _ hrw) rfl fun p5 n5 => ?_
    obtain ⟨H5, k5, e5, hp5⟩ := nL (.lst (((rowL n).drop (a + c)).map V.int)) n5
    rw [← k5]
    refine r_catI (e5 _ _ hp4) hp5 (by rw [List.length_append, List.length_take, List.length_drop, row_len, put_len']; omega) fun p6 n6 => ?_
    rw [show (rowL n).take a ++ putL m 9000 ++ (rowL n).drop (a + c) = lay n a c m 9000 from rfl]
    obtain ⟨H6, k6, e6, hp6⟩ := nL (.lst ((lay n a c m 9000).map V.int)) n6
    rw [← k6]
    have e16 := (e14.trans e5).trans e6
    have e06 := e1.trans e16
    walk_at "rd"
    refine r_ixT (sqT (e06 _ _ h2)) (atI_nat (j := 2) rfl) ?_
    walk_at "rd"
    refine r_lenS zl ?_
    rw [← hk]
    walk_at "rd"
    refine l_lcR (by omega) (by omega) (fun D i H' => Ex H6 H' ∧ H' D = some (.lst (((List.range i).map fun k => (9500 : Int) + ((k : Nat) : Int)).map V.int))) (fun D hD => ⟨Same.new (Same.refl H6) hD, upd_same⟩) (fun D i H' hD hi hW => ?_) (fun p7 H7 n7 hW => ?_)
    · walk_at "rd"
      refine ⟨rfl, ?_⟩
      walk_at "rd"
      exact step_ints hW.1 hD hW.2 (by omega)
    obtain ⟨e7, hp7⟩ := hW
    rw [Int.toNat_natCast, show (List.range k).map (fun k => (9500 : Int) + ((k : Nat) : Int)) = putL k 9500 from rfl] at hp7
    have e17 := e16.trans e7
    have e07 := e1.trans e17
    have hB := e7 _ _ hp6
    have lB := lay_len (m := m) (b := 9000) ac
    have valB : ∀ {j v : Nat}, v < n → ((v < a ∧ j = v) ∨ (a + c ≤ v ∧ j = v - c + m)) → ((lay n a c m 9000).map V.int)[j]? = some (V.int (v : Nat)) := fun {j v} hv h => by
      rw [List.getElem?_map, (lay_of ac nb hv).mpr h]; rfl
    walk_at "rs"
    refine ⟨fun σ H' => ∃ (at_ back : Nat) (y8 y10 : Option V), σ = [some (.int (n : Nat)), some (.ref q1), some (.ref q2), some (.ref rw_), some (.int ((a : Int) + (m : Int))), some (.ref p6), some (.ref p7), some (.int (at_ : Nat)), y8, some (.int (back : Nat)), y10] ∧ Ex H7 H' ∧
      (if s + d < a then some (((s, d, z) : Spc), ((a + k - d, c, t) : Spc)) else if a + m < s then some ((s - m + c, d, z), (a, c, t)) else none) = some ((at_, d, z), (back, c, t)), ?_, ?_⟩
    · refine r_ifS ?_
      refine any_test (S := fun b H1 => Ex H7 H1 ∧ (b = true ↔ a + m < s)) (fun QB kk => ?_) (fun cb H8 hS => ?_)
      · walk_at "rd"
        refine r_lenL (sqL hB) ?_
        rw [List.length_map, lB]
        walk_at "rd"
        refine r_ite (fun c1 => ?_) (fun c1 => ?_)
        · walk_at "rd"
          refine r_ixL (sqL hB) (at_g (j := a + m) rfl (valB (v := a + c) (by omega) (.inr ⟨Nat.le_refl _, by omega⟩))) ?_
          walk_at "rd"
          refine r_ixT (sqT (e07 _ _ h2)) (atI_nat (j := 0) rfl) ?_
          walk_at "rd"
          refine r_slLt hB rfl fun p8 n8 => ?_
          obtain ⟨H8, k8, e8, hp8⟩ := nL (.lst (((lay n a c m 9000).take s).map V.int)) n8
          rw [← k8]
          refine r_inI (sqL hp8) ?_
          refine ⟨_, rfl, kk _ _ ⟨e8, ?_⟩⟩
          rw [decide_eq_true_iff, mem_take]
          constructor
          · rintro ⟨j, hj, hv⟩
            have := (lay_of (v := a + c) ac nb (by omega)).mp hv
            omega
          · intro h
            exact ⟨a + m, h, (lay_of (v := a + c) ac nb (by omega)).mpr (.inr ⟨Nat.le_refl _, by omega⟩)⟩
        · exact kk _ _ ⟨Same.refl H7, ⟨(fun z => nomatch z), fun h => by omega⟩⟩
      obtain ⟨e8, hc1⟩ := hS
      have e08 := e07.trans e8
      have hB8 := e8 _ _ hB
      have hrw8 := (e17.trans e8) _ _ hrw
      have hfr8 := e8 _ _ hp7
      refine r_iteB (fun ht => ?_) (fun hf => ?_)
      · have c1 := hc1.mp ht
        obtain ⟨g, hg⟩ : ∃ g, g = s - m + c := ⟨_, rfl⟩
        walk_at "rd"
        refine r_tyL (sqL hrw8) ?_
        walk_at "rd"
        refine r_ixT (sqT (e08 _ _ h2)) (atI_nat (j := 0) rfl) ?_
        walk_at "rd"
        refine r_ixL (sqL hB8) (at_g (j := s - 1) (by omega) (valB (v := g - 1) (by omega) (.inr ⟨by omega, by omega⟩))) ?_
        walk_at "rd"
        refine r_indexI (j := g - 1) (sqL hrw8) (idx_row (by omega)).1 (idx_row (by omega)).2 ?_
        walk_at "rd"
        rw [show (((g - 1 : Nat) : Int) + 1) = ((g : Nat) : Int) by omega]
        refine r_slLt hrw8 rfl fun p2' n2' => ?_
        obtain ⟨Ha, ka, ea, hpa⟩ := nL (.lst (((rowL n).take g).map V.int)) n2'
        rw [← ka]
        walk_at "rd"
        refine r_catI hpa (ea _ _ hfr8) (by rw [List.length_take, row_len, put_len']; omega) fun p4' n4' => ?_
        obtain ⟨Hb, kb, eb, hpb⟩ := nL (.lst (((rowL n).take g ++ putL k 9500).map V.int)) n4'
        rw [← kb]
        walk_at "rd"
        refine r_ixT (sqT ((e08.trans (ea.trans eb)) _ _ h2)) (atI_nat (j := 1) rfl) ?_
        walk_at "rd"
        refine r_slLd (j := g + d) ((ea.trans eb) _ _ hrw8) rfl fun p5' n5' => ?_
        obtain ⟨Hc, kc, ec, hpc⟩ := nL (.lst (((rowL n).drop (g + d)).map V.int)) n5'
        rw [← kc]
        refine r_catI (ec _ _ hpb) hpc (by rw [List.length_append, List.length_take, List.length_drop, row_len, put_len']; omega) fun p6' n6' => ?_
        rw [show (rowL n).take g ++ putL k 9500 ++ (rowL n).drop (g + d) = lay n g d k 9500 from rfl]
        obtain ⟨Hd, kd, ed, hpd⟩ := nL (.lst ((lay n g d k 9500).map V.int)) n6'
        rw [← kd]
        have e8d := ((ea.trans eb).trans ec).trans ed
        walk_at "rd"
        refine r_tyL (sqL hpd) ?_
        walk_at "rd"
        refine r_ixL (sqL (e8d _ _ hB8)) (at_g (j := a + m) rfl (valB (v := a + c) (by omega) (.inr ⟨Nat.le_refl _, by omega⟩))) ?_
        walk_at "rd"
        have ix := idx_of (n := n) (a := g) (c := d) (m := k) (v := a + c) (j := a + c) (by omega) nb2 (by omega) (.inl ⟨by omega, rfl⟩)
        refine r_indexI (sqL hpd) ix.1 ix.2 ?_
        walk_at "rd"
        refine r_ixT (sqT ((e08.trans e8d) _ _ h1)) (atI_nat (j := 1) rfl) ?_
        walk_at "rd"
        rw [show (((a + c : Nat) : Int) - (c : Int)) = ((a : Nat) : Int) by omega]
        refine ⟨g, a, _, _, rfl, e8.trans e8d, ?_⟩
        rw [if_neg (by omega), if_pos c1, hg]
      · have c1 : ¬ (a + m < s) := fun h => by rw [hc1.mpr h] at hf; cases hf
        refine r_ifS ?_
        refine any_test (S := fun b H1 => Ex H8 H1 ∧ (b = true ↔ s + d < a)) (fun QB kk => ?_) (fun cb2 H9 hS => ?_)
        · walk_at "rd"
          refine r_ixT (sqT (e08 _ _ h1)) (atI_nat (j := 0) rfl) ?_
          walk_at "rd"
          refine r_ite (fun c2 => ?_) (fun c2 => ?_)
          · walk_at "rd"
            refine r_ixT (sqT (e08 _ _ h1)) (atI_nat (j := 0) rfl) ?_
            walk_at "rd"
            refine r_ixL (sqL hB8) (at_g (j := a - 1) (by omega) (valB (v := a - 1) (by omega) (.inl ⟨by omega, rfl⟩))) ?_
            walk_at "rd"
            refine r_ixT (sqT (e08 _ _ h2)) (atI_nat (j := 0) rfl) ?_
            walk_at "rd"
            refine r_ixT (sqT (e08 _ _ h2)) (atI_nat (j := 1) rfl) ?_
            walk_at "rd"
            refine r_slLd (j := s + d) hB8 rfl fun p8 n8 => ?_
            obtain ⟨H9, k9, e9, hp8⟩ := nL (.lst (((lay n a c m 9000).drop (s + d)).map V.int)) n8
            rw [← k9]
            refine r_inI (sqL hp8) ?_
            refine ⟨_, rfl, kk _ _ ⟨e9, ?_⟩⟩
            rw [decide_eq_true_iff, mem_drop]
            constructor
            · rintro ⟨j, hj, hv⟩
              have := (lay_of (v := a - 1) ac nb (by omega)).mp hv
              omega
            · intro h
              exact ⟨a - 1, by omega, (lay_of (v := a - 1) ac nb (by omega)).mpr (.inl ⟨by omega, rfl⟩)⟩
          · exact kk _ _ ⟨Same.refl H8, ⟨(fun z => nomatch z), fun h => by omega⟩⟩
        obtain ⟨e9, hc2⟩ := hS
        have e09 := e08.trans e9
        have hB9 := e9 _ _ hB8
        have hrw9 := e9 _ _ hrw8
        have hfr9 := e9 _ _ hfr8
        refine r_iteB (fun ht => ?_) (fun hf2 => ?_)
        · have c2 := hc2.mp ht
          walk_at "rd"
          refine r_tyL (sqL hrw9) ?_
          walk_at "rd"
          refine r_ixT (sqT (e09 _ _ h2)) (atI_nat (j := 0) rfl) ?_
          walk_at "rd"
          refine r_ixT (sqT (e09 _ _ h2)) (atI_nat (j := 1) rfl) ?_
          walk_at "rd"
          refine r_ixL (sqL hB9) (at_g (j := s + d) rfl (valB (v := s + d) (by omega) (.inl ⟨by omega, rfl⟩))) ?_
          walk_at "rd"
          refine r_indexI (j := s + d) (sqL hrw9) (idx_row (by omega)).1 (idx_row (by omega)).2 ?_
          walk_at "rd"
          refine r_ixT (sqT (e09 _ _ h2)) (atI_nat (j := 1) rfl) ?_
          walk_at "rd"
          rw [show (((s + d : Nat) : Int) - (d : Int)) = ((s : Nat) : Int) by omega]
          refine r_slLt hrw9 rfl fun p2' n2' => ?_
          obtain ⟨Ha, ka, ea, hpa⟩ := nL (.lst (((rowL n).take s).map V.int)) n2'
          rw [← ka]
          walk_at "rd"
          refine r_catI hpa (ea _ _ hfr9) (by rw [List.length_take, row_len, put_len']; omega) fun p4' n4' => ?_
          obtain ⟨Hb, kb, eb, hpb⟩ := nL (.lst (((rowL n).take s ++ putL k 9500).map V.int)) n4'
          rw [← kb]
          walk_at "rd"
          refine r_ixT (sqT ((e09.trans (ea.trans eb)) _ _ h2)) (atI_nat (j := 1) rfl) ?_
          walk_at "rd"
          refine r_slLd (j := s + d) ((ea.trans eb) _ _ hrw9) rfl fun p5' n5' => ?_
          obtain ⟨Hc, kc, ec, hpc⟩ := nL (.lst (((rowL n).drop (s + d)).map V.int)) n5'
          rw [← kc]
          refine r_catI (ec _ _ hpb) hpc (by rw [List.length_append, List.length_take, List.length_drop, row_len, put_len']; omega) fun p6' n6' => ?_
          rw [show (rowL n).take s ++ putL k 9500 ++ (rowL n).drop (s + d) = lay n s d k 9500 from rfl]
          obtain ⟨Hd, kd, ed, hpd⟩ := nL (.lst ((lay n s d k 9500).map V.int)) n6'
          rw [← kd]
          have e9d := ((ea.trans eb).trans ec).trans ed
          walk_at "rd"
          refine r_tyL (sqL hpd) ?_
          walk_at "rd"
          refine r_ixT (sqT ((e09.trans e9d) _ _ h1)) (atI_nat (j := 0) rfl) ?_
          walk_at "rd"
          refine r_ixL (sqL (e9d _ _ hB9)) (at_g (j := a - 1) (by omega) (valB (v := a - 1) (by omega) (.inl ⟨by omega, rfl⟩))) ?_
          walk_at "rd"
          have ix := idx_of (n := n) (a := s) (c := d) (m := k) (v := a - 1) (j := a - 1 - d + k) (by omega) nb2 (by omega) (.inr ⟨by omega, by omega⟩)
          refine r_indexI (sqL hpd) ix.1 ix.2 ?_
          walk_at "rd"
          rw [show (((a - 1 - d + k : Nat) : Int) + 1) = ((a + k - d : Nat) : Int) by omega]
          refine ⟨s, a + k - d, _, _, rfl, (e8.trans e9).trans e9d, ?_⟩
          rw [if_pos c2]
        · have c2 : ¬ (s + d < a) := fun h => by rw [hc2.mpr h] at hf2; cases hf2
          rw [if_neg c2, if_neg c1] at q
          walk_at "rd"
          exact q _ _ e09 rfl
    rintro σ H8 ⟨at_, back, y8, y10, rfl, e8, hled⟩
    have e08 := e07.trans e8
    rw [hled] at q
    walk_at "rd"
    refine r_ixT (sqT (e08 _ _ h2)) (atI_nat (j := 1) rfl) ?_
    walk_at "rd"
    refine r_ixT (sqT (e08 _ _ h2)) (atI_nat (j := 2) rfl) ?_
    walk_at "rd"
    refine r_small nsz fun pa na => ?_
    obtain ⟨Ha, ka, ea, hpa⟩ := nL (.tup [.int (at_ : Nat), .int (d : Nat), .str z]) na
    rw [← ka]
    walk_at "rd"
    refine r_ixT (sqT ((e08.trans ea) _ _ h1)) (atI_nat (j := 1) rfl) ?_
    walk_at "rd"
    refine r_ixT (sqT ((e08.trans ea) _ _ h1)) (atI_nat (j := 2) rfl) ?_
    walk_at "rd"
    refine r_small nsz fun pb nb' => ?_
    obtain ⟨Hb, kb, eb, hpb⟩ := nL (.tup [.int (back : Nat), .int (c : Nat), .str t]) nb'
    rw [← kb]
    walk_at "rd"
    refine r_small nsz fun pc nc => ?_
    obtain ⟨Hc, kc, ec, hpc⟩ := nP (R := SpcV) (S := SpcV) (x := (at_, d, z)) (y := (back, c, t)) nc ⟨pa, rfl, eb _ _ hpa⟩ ⟨pb, rfl, hpb⟩
    rw [← kc]
    exact q _ _ ((e08.trans ea).trans (eb.trans ec)) hpc
end
end K16
namespace K16
open PySem PySem.Spec PyProof.Rows L2 Dk
/-- one step of a reading -/
local macro_rules | `(tactic| walk_at "rd1") => `(tactic| first
  | ((with_reducible refine r_var (v := ?rv) ?rh ?_); (case rh => rfl))
  | with_reducible refine r_c ?_
  | with_reducible refine r_seq ?_
  | with_reducible refine r_asg ?_
  | with_reducible refine r_par ?_
  | with_reducible refine r_gname ?_
  | with_reducible refine r_op ?_
  | with_reducible refine r_forLo ?_
  | with_reducible refine r_forTo ?_
  | with_reducible refine r_forSo ?_
  | with_reducible refine r_forRo ?_
  | with_reducible refine r_forRvo ?_
  | with_reducible refine r_lcRo ?_
  | with_reducible refine r_lcLo ?_
  | with_reducible refine r_yes ?_
  | with_reducible refine r_callK0 ?_
  | with_reducible refine r_break ?_
  | with_reducible refine r_forR2o ?_
  | with_reducible refine r_forEo ?_
  | with_reducible refine r_forESo ?_
  | with_reducible refine r_xfo ?_
  | with_reducible refine r_noP ?_
  | with_reducible refine r_part ?_
  | with_reducible refine r_pI ?_
  | with_reducible refine r_gcons ?_
  | with_reducible refine r_gnil ?_
  | with_reducible refine r_mkO ?_
  | with_reducible refine r_un ?_
  | with_reducible refine r_addI ?_
  | with_reducible refine r_I0 ?_
  | with_reducible refine r_U ?_
  | with_reducible refine r_cons ?_
  | with_reducible refine r_nil ?_
  | with_reducible refine r_CB ?_
  | with_reducible refine r_call ?_
  | with_reducible refine r_callS ?_
  | with_reducible refine r_int ?_
  | with_reducible refine r_max ?_
  | with_reducible refine r_min ?_
  | with_reducible refine r_test ?_
  | with_reducible refine r_B ?_
  | with_reducible refine r_blv ?_
  | with_reducible refine r_and ?_
  | with_reducible refine r_or ?_
  | with_reducible refine r_not ?_
  | with_reducible refine r_andV ?_
  | with_reducible refine r_orV ?_
  | with_reducible refine r_notV ?_
  | with_reducible refine r_ifE ?_
  | with_reducible refine r_ifS ?_
  | with_reducible refine r_ret ?_
  | with_reducible refine r_retN ?_
  | with_reducible refine r_drop ?_
  | with_reducible refine r_next ?_
  | with_reducible refine r_sl ?_
  | with_reducible refine r_gsub ?_
  | with_reducible refine r_bm ?_
  | with_reducible refine r_tup ?_
  | with_reducible refine r_lst ?_
  | with_reducible refine r_isN ?_
  | with_reducible refine r_notN ?_
  | with_reducible refine r_itt ?_
  | with_reducible refine r_iff ?_
  | with_reducible refine r_ittN ?_
  | with_reducible refine r_iffN ?_
  | ((with_reducible refine r_ittD ?rh ?_); (case rh => rfl))
  | ((with_reducible refine r_iffD ?rh ?_); (case rh => rfl))
  | ((with_reducible refine r_modP ?rh ?_); (case rh => decide))
  | ((with_reducible refine r_eq ?rh ?_); (case rh => rfl))
  | ((with_reducible refine r_eqP ?rh ?_); (case rh => rfl))
  | ((with_reducible refine r_ne ?rh ?_); (case rh => rfl)))
local macro_rules | `(tactic| walk_at "rd") => `(tactic| repeat walk_at "rd1")
local macro_rules | `(tactic| walk_at "isi") => `(tactic| first | refine r_isi (b := true) (by assumption) (by decide +kernel) ?_ | refine r_isi (b := false) (by assumption) (by decide +kernel) ?_)
local macro_rules | `(tactic| walk_at "rs1") => `(tactic| first
  | with_reducible refine r_seq ?_
  | with_reducible refine r_asg ?_
  | with_reducible refine r_gname ?_
  | with_reducible refine r_ret ?_)
local macro_rules | `(tactic| walk_at "rs") => `(tactic| repeat walk_at "rs1")

/-! ### a splice on a row -/
def spl (l : List Nat) (a c : Nat) (t : List Nat) : List Nat := l.take a ++ t ++ l.drop (a + c)
theorem spl_len {l t : List Nat} {a c : Nat} (h : a + c ≤ l.length) : (spl l a c t).length = l.length - c + t.length := by
  unfold spl
  rw [List.length_append, List.length_append, List.length_take, List.length_drop]
  omega
theorem spl_at {l t : List Nat} {a c j : Nat} (h : a + c ≤ l.length) : (spl l a c t)[j]? = if j < a then l[j]? else if j < a + t.length then t[j - a]? else l[j - t.length + c]? := by
  unfold spl
  have l1 : (l.take a).length = a := by rw [List.length_take]; omega
  by_cases c1 : j < a
  · rw [if_pos c1, List.append_assoc, List.getElem?_append_left (by omega), List.getElem?_take, if_pos c1]
  · rw [if_neg c1]
    by_cases c2 : j < a + t.length
    · rw [if_pos c2, List.append_assoc, List.getElem?_append_right (by omega), l1, List.getElem?_append_left (by omega)]
    · rw [if_neg c2, List.getElem?_append_right (by rw [List.length_append, l1]; omega), List.length_append, l1, List.getElem?_drop]
      congr 1
      omega
theorem swapA {l t z : List Nat} {a c s d : Nat} (h : s + d < a) (hc : a + c ≤ l.length) : spl (spl l s d z) (a + z.length - d) c t = spl (spl l a c t) s d z := by
  have h1 : s + d ≤ l.length := by omega
  have e1 := spl_len (t := z) h1
  have e2 := spl_len (t := t) hc
  apply List.ext_getElem?
  intro j
  rw [spl_at (l := spl l s d z) (by omega), spl_at (l := spl l a c t) (by omega)]
  by_cases r1 : j < s
  · rw [if_pos (by omega), if_pos r1, spl_at h1, if_pos r1, spl_at hc, if_pos (by omega)]
  · rw [if_neg r1]
    by_cases r2 : j < s + z.length
    · rw [if_pos (by omega), if_pos r2, spl_at h1, if_neg r1, if_pos r2]
    · rw [if_neg r2, spl_at hc]
      by_cases r3 : j < a + z.length - d
      · rw [if_pos r3, spl_at h1, if_neg r1, if_neg r2, if_pos (by omega)]
      · rw [if_neg r3]
        by_cases r4 : j < a + z.length - d + t.length
        · rw [if_pos r4, if_neg (show ¬ (j - z.length + d < a) by omega), if_pos (show j - z.length + d < a + t.length by omega)]
          congr 1
          omega
        · rw [if_neg r4, if_neg (show ¬ (j - z.length + d < a) by omega), if_neg (show ¬ (j - z.length + d < a + t.length) by omega), spl_at h1, if_neg (by omega), if_neg (by omega)]
          congr 1
          omega
theorem swapB {l t z : List Nat} {a c s d : Nat} (h : a + t.length < s) (hc : a + c ≤ l.length) (hs : s + d ≤ l.length - c + t.length) : spl (spl l (s - t.length + c) d z) a c t = spl (spl l a c t) s d z := by
  have h1 : s - t.length + c + d ≤ l.length := by omega
  have e1 := spl_len (t := z) h1
  have e2 := spl_len (t := t) hc
  apply List.ext_getElem?
  intro j
  rw [spl_at (l := spl l (s - t.length + c) d z) (by omega), spl_at (l := spl l a c t) (by omega)]
  by_cases r1 : j < a
  · rw [if_pos r1, if_pos (by omega), spl_at h1, if_pos (by omega), spl_at hc, if_pos r1]
  · rw [if_neg r1]
    by_cases r2 : j < a + t.length
    · rw [if_pos r2, if_pos (by omega), spl_at hc, if_neg r1, if_pos r2]
    · rw [if_neg r2, spl_at h1]
      by_cases r3 : j < s
      · rw [if_pos r3, if_pos (by omega), spl_at hc, if_neg r1, if_neg r2]
      · rw [if_neg r3, if_neg (by omega)]
        by_cases r4 : j < s + z.length
        · rw [if_pos r4, if_pos (by omega)]
          congr 1
          omega
        · rw [if_neg r4, if_neg (by omega), spl_at hc, if_neg (by omega), if_neg (by omega)]
          congr 1
          omega
section
variable {P : Program} {w : World} {K : PySem.W.Frag} {mg : Str → Option Value} {base : Heap}
/-- one right splice alone -/
theorem one_spl {H : Hp} {v : V} {x : Spc} (h : SpcV H v x) (g : 0 < x.2.1 ∨ x.2.2 ≠ "") (hA : InAL x.2.2) (hl : x.2.2.length ≤ 8000) {n : Nat} (hn : x.1 + x.2.1 ≤ n) :
    Rw H [v] ∧ sps H [v] = [((x.1 : Int), (x.2.1 : Int), x.2.2)].map some ∧ judge n (sps H [v]) = none := by
  obtain ⟨p, rfl, hp⟩ := h
  have hsp : sp3 H (.ref p) = some ((x.1 : Int), (x.2.1 : Int), x.2.2) := by
    show sp3o (H p) = _
    rw [hp]
    exact if_pos ⟨by omega, by omega, List.all_eq_true.mpr fun c hc => decide_eq_true (hA c hc), g.imp (fun h => by omega) id⟩
  have e : sps H [V.ref p] = [((x.1 : Int), (x.2.1 : Int), x.2.2)].map some := by
    show [sp3 H (.ref p)] = _
    rw [hsp]
    rfl
  refine ⟨⟨nsz, fun y hy => ?_⟩, e, ?_⟩
  · rw [List.mem_singleton.mp hy]
    refine ⟨⟨_, .tup hp⟩, fun a xs ea ht => ?_⟩
    cases ea
    rw [hp] at ht
    cases ht
    refine ⟨nsz, fun y hy => ?_⟩
    rcases List.mem_cons.mp hy with rfl | hy
    · exact ⟨_, .int _⟩
    rcases List.mem_cons.mp hy with rfl | hy
    · exact ⟨_, .int _⟩
    rw [List.mem_singleton.mp hy]
    exact ⟨_, .str _ hl⟩
  · rw [e]
    show (if _ then _ else _) = none
    rw [if_neg (by simp)]
    show (if _ then _ else jd _ _ _ _ []) = none
    rw [if_neg (by omega)]
    rfl
theorem led_one {l : List Nat} {a c : Nat} {t : Str} : ledC l 0 [((a : Int), (c : Int), t)] = spl l a c (cs t) := by
  show (l.drop (0 : Int).toNat).take ((a : Int).toNat - (0 : Int).toNat) ++ (cs t ++ l.drop ((a : Int) + (c : Int)).toNat) = _
  unfold spl
  rw [List.append_assoc]
  have e1 : ((a : Int) + (c : Int)).toNat = a + c := by omega
  rw [e1]
  simp
def spPair : Sp := fun vs H Q _ => ∃ a, vs = [.ref a] ∧ Stt H a ∧ ∀ H', Dr a H H' → Q (.bl true) H'
theorem ok_law_pair (T : Txt K mg) : FnOk P w K mg base CX0 6 T.a_law_pair T.d_law_pair ["_law_state"] spPair := by
  refine T.F_law_pair.ok sc_law_pair (fun vs H Q E h => ?_) (fun cdv A outer s H vs Q E hr h => ?_)
  · obtain ⟨a, rfl, _⟩ := h
    rfl
  · obtain ⟨st0, rfl, st, q⟩ := h
    refine ⟨_, (pss_cons (ps_set (i := 1) sc_law_pair.nd rfl (Or.inl rfl) pe_int)
        (Evl.pss_cut (ps_if (pt_cmpR (op_eqU hr.units) (pe_call (ok_law_draw T) (hr.mono (by decide)) (by rfl) T.g_law_draw T.F_law_draw.kp T.b_law_draw .nil pass0 (pa_cons (pv 0) (pa_cons pe_int pa_nil))) pe_int (nomark _)) (pss_one (ps_set (i := 1) sc_law_pair.nd rfl (Or.inl rfl) (pe_op op_addU pe_int (pe_call (ok_law_draw T) (hr.mono (by decide)) (by rfl) T.g_law_draw T.F_law_draw.kp T.b_law_draw .nil pass0 (pa_cons (pv 0) (pa_cons pe_int pa_nil)))))) pss_nil)
        (pss_cons (ps_set (i := 2) sc_law_pair.nd rfl (Or.inl rfl) (pe_op op_addU (pv 1) (pe_call (ok_law_draw T) (hr.mono (by decide)) (by rfl) T.g_law_draw T.F_law_draw.kp T.b_law_draw .nil pass0 (pa_cons (pv 0) (pa_cons pe_int pa_nil)))))
        (pss_cons (ps_set (i := 3) sc_law_pair.nd rfl (Or.inl rfl) (pe_op op_addU (pe_op op_repS pe_str (pv 1)) (pe_call (ok_law_word T) (hr.mono (by decide)) (by rfl) T.g_law_word T.F_law_word.kp T.b_law_word .nil pass0 (pa_cons (pv 0) (pa_cons (pe_op op_sub (pv 2) (pv 1)) pa_nil)))))
        (pss_cons (ps_set (i := 4) sc_law_pair.nd rfl (Or.inl rfl) (pe_op op_addU (pv 1) (pe_call (ok_law_draw T) (hr.mono (by decide)) (by rfl) T.g_law_draw T.F_law_draw.kp T.b_law_draw .nil pass0 (pa_cons (pv 0) (pa_cons (pe_op op_addU (pe_op op_sub (pv 2) (pv 1)) pe_int) pa_nil)))))
        (pss_cons (ps_set (i := 5) sc_law_pair.nd rfl (Or.inl rfl) (pe_callB (call_minU rfl) (by rfl) T.n_min (by decide +kernel) (pa_cons (pe_call (ok_law_draw T) (hr.mono (by decide)) (by rfl) T.g_law_draw T.F_law_draw.kp T.b_law_draw .nil pass0 (pa_cons (pv 0) (pa_cons pe_int pa_nil))) (pa_cons (pe_op op_sub (pv 2) (pv 4)) pa_nil))))
        (pss_cons (ps_set (i := 6) sc_law_pair.nd rfl (Or.inl rfl) (pe_tup (pa_cons (pv 4) (pa_cons (pv 5) (pa_cons (pe_call (ok_law_word T) (hr.mono (by decide)) (by rfl) T.g_law_word T.F_law_word.kp T.b_law_word .nil pass0 (pa_cons (pv 0) (pa_cons (pe_op op_addU (pe_callTy call_intU (by rfl) T.n_int (by decide +kernel) (pa_cons (pe_cmpR (op_eqU hr.units) (pv 5) pe_int (nomark _)) pa_nil)) (pe_call (ok_law_draw T) (hr.mono (by decide)) (by rfl) T.g_law_draw T.F_law_draw.kp T.b_law_draw .nil pass0 (pa_cons (pv 0) (pa_cons pe_int pa_nil)))) pa_nil))) pa_nil)))))
        (pss_cons (ps_set (i := 7) sc_law_pair.nd rfl (Or.inl rfl) (pe_op op_addU (pe_op op_addU (pe_slice sl_U (pv 3) po_none (po_some (pv 4))) (pe_ix ix_seq (pv 6) pe_int (fun _ _ => rfl))) (pe_slice sl_U (pv 3) (po_some (pe_op op_addU (pv 4) (pv 5))) po_none)))
        (pss_cons (ps_set (i := 5) sc_law_pair.nd rfl (Or.inl rfl) (pe_callB (call_minU rfl) (by rfl) T.n_min (by decide +kernel) (pa_cons (pe_call (ok_law_draw T) (hr.mono (by decide)) (by rfl) T.g_law_draw T.F_law_draw.kp T.b_law_draw .nil pass0 (pa_cons (pv 0) (pa_cons pe_int pa_nil))) (pa_cons (pe_callB call_lenU (by rfl) T.n_len (by decide +kernel) (pa_cons (pv 7) pa_nil)) pa_nil))))
        (pss_cons (ps_set (i := 8) sc_law_pair.nd rfl (Or.inl rfl) (pe_call (ok_law_word T) (hr.mono (by decide)) (by rfl) T.g_law_word T.F_law_word.kp T.b_law_word .nil pass0 (pa_cons (pv 0) (pa_cons (pe_op op_addU (pe_callTy call_intU (by rfl) T.n_int (by decide +kernel) (pa_cons (pe_cmpR (op_eqU hr.units) (pv 5) pe_int (nomark _)) pa_nil)) (pe_call (ok_law_draw T) (hr.mono (by decide)) (by rfl) T.g_law_draw T.F_law_draw.kp T.b_law_draw .nil pass0 (pa_cons (pv 0) (pa_cons pe_int pa_nil)))) pa_nil))))
        (pss_cons (ps_set (i := 9) sc_law_pair.nd rfl (Or.inl rfl) (pe_lst (pa_cons (pe_call (ok_law_draw T) (hr.mono (by decide)) (by rfl) T.g_law_draw T.F_law_draw.kp T.b_law_draw .nil pass0 (pa_cons (pv 0) (pa_cons (pe_op op_addU (pe_callB call_lenU (by rfl) T.n_len (by decide +kernel) (pa_cons (pv 7) pa_nil)) pe_int) pa_nil))) (pa_cons (pe_op op_addU (pv 4) (pe_callB call_lenU (by rfl) T.n_len (by decide +kernel) (pa_cons (pe_ix ix_seq (pv 6) pe_int (fun _ _ => rfl)) pa_nil))) (pa_cons (pe_op op_addU (pe_op op_addU (pv 4) (pe_callB call_lenU (by rfl) T.n_len (by decide +kernel) (pa_cons (pe_ix ix_seq (pv 6) pe_int (fun _ _ => rfl)) pa_nil))) pe_int) (pa_cons (pe_op op_sub (pv 4) (pv 5)) (pa_cons (pe_op op_sub (pe_op op_sub (pv 4) (pv 5)) pe_int) pa_nil)))))))
        (pss_cons (ps_set (i := 10) sc_law_pair.nd rfl (Or.inl rfl) (pe_callB (call_minU rfl) (by rfl) T.n_min (by decide +kernel) (pa_cons (pe_callB (call_maxU rfl) (by rfl) T.n_max (by decide +kernel) (pa_cons pe_int (pa_cons (pe_ix ix_seq (pv 9) (pe_call (ok_law_draw T) (hr.mono (by decide)) (by rfl) T.g_law_draw T.F_law_draw.kp T.b_law_draw .nil pass0 (pa_cons (pv 0) (pa_cons pe_int pa_nil))) (fun _ _ => rfl)) pa_nil))) (pa_cons (pe_op op_sub (pe_callB call_lenU (by rfl) T.n_len (by decide +kernel) (pa_cons (pv 7) pa_nil)) (pv 5)) pa_nil))))
        (pss_cons (ps_set (i := 11) sc_law_pair.nd rfl (Or.inl rfl) (pe_tup (pa_cons (pv 10) (pa_cons (pv 5) (pa_cons (pv 8) pa_nil)))))
        (pss_cons (ps_set (i := 12) sc_law_pair.nd rfl (Or.inl rfl) (pe_call (ok_led_past T) (hr.mono (by decide)) (by rfl) T.g_led_past T.F_led_past.kp T.b_led_past .nil pass0 (pa_cons (pv 6) (pa_cons (pv 11) pa_nil))))
        (pss_cons (ps_if (pt_not (pt_val (pe_call (ok_law_same T) (hr.mono (by decide)) (by rfl) T.g_law_same T.F_law_same.kp T.b_law_same .nil pass0 (pa_cons (pe_call (ok_law_led T) (hr.mono (by decide)) (by rfl) T.g_law_led T.F_law_led.kp T.b_law_led .nil pass0 (pa_cons (pv 2) (pa_cons (pv 6) (pa_cons (pv 11) pa_nil)))) (pa_cons (pv 12) pa_nil))))) (pss_one (ps_ret pe_bl)) pss_nil)
        (pss_cons (ps_if (pt_cmpR op_isU (pv 12) pe_non (nomark _)) (pss_one (ps_ret pe_bl)) pss_nil)
        (pss_cons (ps_set (i := 13) sc_law_pair.nd rfl (Or.inl rfl) (pe_op op_addU (pe_op op_addU (pe_slice sl_U (pv 7) po_none (po_some (pv 10))) (pv 8)) (pe_slice sl_U (pv 7) (po_some (pe_op op_addU (pv 10) (pv 5))) po_none)))
        (pss_one (ps_ret (pe_cmpR (op_eqU hr.units) (pe_call (ok_spliced T) hr (by rfl) T.g_spliced T.F_spliced.kp T.b_spliced .nil passL (pa_cons (pe_call (ok_spliced T) hr (by rfl) T.g_spliced T.F_spliced.kp T.b_spliced .nil passL (pa_cons (pv 3) (pa_cons (pe_tup (pa_cons (pe_ix ix_seq (pv 12) pe_int (fun _ _ => rfl)) pa_nil)) pa_nil))) (pa_cons (pe_tup (pa_cons (pe_ix ix_seq (pv 12) pe_int (fun _ _ => rfl)) pa_nil)) pa_nil))) (pv 13) (nomark _))))))))))))))))))))), ?_⟩
    walk_at "rs"
    walk_at "rd"
    refine ⟨fun σ H' => ∃ lead : Nat, σ = [some (.ref st0), some (.int (lead : Nat)), none, none, none, none, none, none, none, none, none, none, none, none] ∧ Dr st0 H H' ∧ lead ≤ 2899, ?_, ?_⟩
    · walk_at "rd"
      refine ⟨st0, 4, rfl, st, by decide, fun d H1 d0 d1 D1 => ?_⟩
      walk_at "rd"
      refine r_ite (fun _ => ?_) (fun _ => ?_)
      · walk_at "rd"
        refine ⟨st0, 2000, rfl, D1.st, by decide, fun d2 H2 f0 f1 D2 => ?_⟩
        obtain ⟨d2, rfl⟩ : ∃ z : Nat, d2 = (z : Nat) := ⟨d2.toNat, by omega⟩
        walk_at "rd"
        exact ⟨900 + d2, rfl, D1.trans D2, by omega⟩
      · walk_at "rd"
        exact ⟨0, rfl, D1, by omega⟩
    rintro σ H1 ⟨lead, rfl, D1, hlead⟩
    walk_at "rd"
    refine ⟨st0, 16, rfl, D1.st, by decide, fun e H2 f0 f1 D2 => ?_⟩
    obtain ⟨e, rfl⟩ : ∃ z : Nat, e = (z : Nat) := ⟨e.toNat, by omega⟩
    have D12 := D1.trans D2
    obtain ⟨n, hn⟩ : ∃ n, n = lead + e := ⟨_, rfl⟩
    walk_at "rd"
    rw [show ((lead : Int) + (e : Int)) = ((n : Nat) : Int) by omega]
    refine r_repS (by decide) (by omega) ?_
    have kl : (Txt.mul "k" lead).length = lead := by
      rw [Dk.len_mul]
      have e : ("k" : Str).length = 1 := rfl
      rw [e, Nat.mul_one]
    walk_at "rd"
    refine ⟨st0, (n : Int) - (lead : Int), rfl, D12.st, by omega, by omega, fun o H3 D3 ho hA => ?_⟩
    have D13 := D12.trans D3
    walk_at "rd"
    refine r_addS (by rw [kl, sizeLine_eq]; omega) ?_
    obtain ⟨tx, htx⟩ : ∃ tx, tx = Txt.mul "k" lead ++ o := ⟨_, rfl⟩
    rw [← htx]
    have tn : (cs tx).length = n := by
      rw [htx, cs_app, List.length_append, cs_len, cs_len, kl]
      omega
    have tsl : tx.length ≤ sizeLine := by
      rw [← cs_len, tn, sizeLine_eq]
      omega
    walk_at "rd"
    refine ⟨st0, (n : Int) - (lead : Int) + 1, rfl, D13.st, by omega, fun a H4 a0 a1 D4 => ?_⟩
    obtain ⟨a', rfl⟩ : ∃ z : Nat, a = (z : Nat) := ⟨a.toNat, by omega⟩
    have D14 := D13.trans D4
    obtain ⟨a, ha⟩ : ∃ a, a = lead + a' := ⟨_, rfl⟩
    walk_at "rd"
    rw [show ((lead : Int) + (a' : Int)) = ((a : Nat) : Int) by omega]
    refine ⟨st0, 4, rfl, D14.st, by decide, fun c H5 c0 c1 D5 => ?_⟩
    obtain ⟨c', rfl⟩ : ∃ z : Nat, c = (z : Nat) := ⟨c.toNat, by omega⟩
    have D15 := D14.trans D5
    walk_at "rd"
    obtain ⟨c, hc⟩ : ∃ c, c = min c' (n - a) := ⟨_, rfl⟩
    rw [show min (c' : Int) ((n : Int) - (a : Int)) = ((c : Nat) : Int) by omega]
    refine r_bool ?_
    walk_at "rd"
    refine ⟨st0, 3, rfl, D15.st, by decide, fun f H6 g0 g1 D6 => ?_⟩
    have D16 := D15.trans D6
    walk_at "rd"
    have b01 : ∀ b : Bool, (0 : Int) ≤ (if b then 1 else 0) ∧ (if b then (1 : Int) else 0) ≤ 1 := fun b => by cases b <;> decide
    refine ⟨st0, _, rfl, D16.st, by have := b01 (decide (V.int (c : Int) = V.int 0)); omega, by have := b01 (decide (V.int (c : Int) = V.int 0)); omega, fun t H7 D7 ht tA => ?_⟩
    have D17 := D16.trans D7
    have b1 := b01 (decide (V.int (c : Int) = V.int 0))
    have tl : t.length ≤ 3 := by omega
    have gt : 0 < c ∨ t ≠ "" := by
      by_cases h : c = 0
      · refine .inr fun z => ?_
        rw [z, decide_eq_true (show V.int ((c : Nat) : Int) = V.int 0 by rw [h]; rfl), if_pos rfl] at ht
        have e0 : ("" : Str).length = 0 := rfl
        rw [e0] at ht
        omega
      · exact .inl (by omega)
    walk_at "rd"
    refine r_small nsz fun p8 n8 => ?_
    obtain ⟨H8, k8, e8, h8⟩ := nL (.tup [.int (a : Nat), .int (c : Nat), .str t]) n8
    rw [← k8]
    have D18 := D17.then e8
    walk_at "rd"
    refine r_slS tsl ?_
    walk_at "rd"
    refine r_ixT (sqT h8) (atI_nat (j := 2) rfl) ?_
    have cut1 : (cutS tx none (some (a : Int))).length ≤ 3000 := Nat.le_trans (cut_len _ _ _) (by rw [← cs_len, tn]; omega)
    refine r_addS (by rw [sizeLine_eq]; omega) ?_
    walk_at "rd"
    have cut2 : (cutS tx (some ((a : Int) + (c : Int))) none).length ≤ 3000 := Nat.le_trans (cut_len _ _ _) (by rw [← cs_len, tn]; omega)
    refine r_slS tsl ?_
    have l12 : (cutS tx none (some (a : Int)) ++ t).length ≤ 3003 := by
      rw [← cs_len, cs_app, List.length_append, cs_len, cs_len]
      omega
    refine r_addS (by rw [sizeLine_eq]; omega) ?_
    obtain ⟨bh, hbh⟩ : ∃ bh, bh = cutS tx none (some (a : Int)) ++ t ++ cutS tx (some ((a : Int) + (c : Int))) none := ⟨_, rfl⟩
    rw [← hbh]
    have ebh : cs bh = spl (cs tx) a c (cs t) := by
      rw [hbh, cs_app, cs_app, cs_to, show ((a : Int) + (c : Int)) = ((a + c : Nat) : Int) by omega, cs_from]
      rfl
    have ac : a + c ≤ n := by omega
    have lbh : bh.length = n - c + t.length := by
      rw [← cs_len, ebh, spl_len (by omega), tn, cs_len]
    have bsl : bh.length ≤ sizeLine := by rw [lbh, sizeLine_eq]; omega
    walk_at "rd"
    refine ⟨st0, 4, rfl, D18.st, by decide, fun d H9 d0 d1 D9 => ?_⟩
    obtain ⟨d', rfl⟩ : ∃ z : Nat, d = (z : Nat) := ⟨d.toNat, by omega⟩
    have D19 := D18.trans D9
    walk_at "rd"
    refine r_lenS bsl ?_
    walk_at "rd"
    obtain ⟨d, hd⟩ : ∃ d, d = min d' bh.length := ⟨_, rfl⟩
    rw [show min (d' : Int) ((bh.length : Nat) : Int) = ((d : Nat) : Int) by omega]
    refine r_bool ?_
    walk_at "rd"
    refine ⟨st0, 3, rfl, D19.st, by decide, fun f2 Ha i0 i1 Da => ?_⟩
    have D1a := D19.trans Da
    walk_at "rd"
    have b2 := b01 (decide (V.int (d : Int) = V.int 0))
    refine ⟨st0, _, rfl, D1a.st, by omega, by omega, fun z Hb Db hz zA => ?_⟩
    have D1b := D1a.trans Db
    have zl : z.length ≤ 3 := by omega
    have gz : 0 < d ∨ z ≠ "" := by
      by_cases h : d = 0
      · refine .inr fun y => ?_
        rw [y, decide_eq_true (show V.int ((d : Nat) : Int) = V.int 0 by rw [h]; rfl), if_pos rfl] at hz
        have e0 : ("" : Str).length = 0 := rfl
        rw [e0] at hz
        omega
      · exact .inl (by omega)
    have p8a : p8 ≠ st0 := D17.st.ne n8
    have h8b := (D9.trans (Da.trans Db)).hh _ _ p8a h8
    walk_at "rd"
    refine r_lenS bsl ?_
    walk_at "rd"
    refine ⟨st0, _, rfl, D1b.st, by omega, fun en Hc j0 j1 Dc => ?_⟩
    have D1c := D1b.trans Dc
    have h8c := Dc.hh _ _ p8a h8b
    have t3 : t.length ≤ sizeLine := by rw [sizeLine_eq]; omega
    walk_at "rd"
    refine r_ixT (sqT h8c) (atI_nat (j := 2) rfl) ?_
    walk_at "rd"
    refine r_lenS t3 ?_
    walk_at "rd"
    refine r_ixT (sqT h8c) (atI_nat (j := 2) rfl) ?_
    walk_at "rd"
    refine r_lenS t3 ?_
    walk_at "rd"
    refine r_small nsz fun pd nd => ?_
    obtain ⟨vs, hvs⟩ : ∃ vs, vs = [V.int en, V.int ((a : Int) + (t.length : Nat)), V.int ((a : Int) + (t.length : Nat) + 1), V.int ((a : Int) - (d : Int)), V.int ((a : Int) - (d : Int) - 1)] := ⟨_, rfl⟩
    rw [← hvs]
    obtain ⟨Hd, kd, ed, hd5⟩ := nL (.lst vs) nd
    rw [← kd]
    have D1d := D1c.then ed
    walk_at "rd"
    refine ⟨st0, 5, rfl, D1d.st, by decide, fun e5 He l0 l1 De => ?_⟩
    have D1e := D1d.trans De
    have hde := De.hh _ _ (D1c.st.ne nd) hd5
    have h8e := De.hh _ _ p8a (ed _ _ h8c)
    obtain ⟨pe, hpe⟩ : ∃ pe, atI vs e5 = some (.int pe) := by
      rw [hvs]
      have c5 : e5 = 0 ∨ e5 = 1 ∨ e5 = 2 ∨ e5 = 3 ∨ e5 = 4 := by omega
      rcases c5 with rfl | rfl | rfl | rfl | rfl <;> exact ⟨_, rfl⟩
    walk_at "rd"
    refine r_ixL (sqL hde) hpe ?_
    walk_at "rd"
    refine r_lenS bsl ?_
    walk_at "rd"
    obtain ⟨s, hs⟩ : ∃ s : Nat, ((s : Nat) : Int) = min (max 0 pe) ((bh.length : Nat) - (d : Int)) := ⟨(min (max 0 pe) ((bh.length : Nat) - (d : Int))).toNat, by omega⟩
    rw [← hs]
    have sd : s + d ≤ n - c + t.length := by omega
    refine r_small nsz fun pf nf => ?_
    obtain ⟨Hf, kf, ef, hf⟩ := nL (.tup [.int (s : Nat), .int (d : Nat), .str z]) nf
    rw [← kf]
    have h8f := ef _ _ h8e
    have X1 : SpcV Hf (.ref p8) (a, c, t) := ⟨p8, rfl, h8f⟩
    have X2 : SpcV Hf (.ref pf) (s, d, z) := ⟨pf, rfl, hf⟩
    have D1f := D1e.then ef
    walk_at "rd"
    refine ⟨.ref p8, .ref pf, (a, c, t), (s, d, z), rfl, X1, X2, by dsimp only; omega, by dsimp only; omega, fun told Hg eg htold => ?_⟩
    walk_at "rd"
    refine ⟨n, .ref p8, .ref pf, (a, c, t), (s, d, z), rfl, imm (.ex eg) X1, imm (.ex eg) X2, ac, by omega, sd, by dsimp only; omega, by dsimp only; omega, fun due Hh eh hdue => ?_⟩
    walk_at "rd"
    have optx : ∀ {H H' : Hp} {v : V} {o : Option (Spc × Spc)}, Ex H H' → OptP H v o → OptP H' v o := fun {H H' v o} e h => by
      cases o with
      | none => exact h
      | some y => exact imm (R := PairV SpcV SpcV) (.ex e) h
    refine ⟨due, told, _, rfl, hdue, optx eh htold, ?_⟩
    walk_at "rd"
    have D1h := (D1f.then eg).then eh
    have told2 := optx eh htold
    -- the plain text
    have hplain : ∀ bt : Str, bt = cutS bh none (some (s : Int)) ++ z ++ cutS bh (some ((s : Int) + (d : Int))) none → cs bt = spl (spl (cs tx) a c (cs t)) s d (cs z) := fun bt hb => by
      rw [hb, cs_app, cs_app, cs_to, show ((s : Int) + (d : Int)) = ((s + d : Nat) : Int) by omega, cs_from, ebh]
      rfl
    have fin : ∀ (x y : Spc), PairV SpcV SpcV Hh told (x, y) → Gsp x → Gsp y → x.1 + x.2.1 ≤ n → y.1 + y.2.1 ≤ n - x.2.1 + x.2.2.length → spl (spl (cs tx) x.1 x.2.1 (cs x.2.2)) y.1 y.2.1 (cs y.2.2) = spl (spl (cs tx) a c (cs t)) s d (cs z) → _ := fun x y hp gx gy hx hy he => (⟨hp, gx, gy, hx, hy, he⟩ : PairV SpcV SpcV Hh told (x, y) ∧ Gsp x ∧ Gsp y ∧ x.1 + x.2.1 ≤ n ∧ y.1 + y.2.1 ≤ n - x.2.1 + x.2.2.length ∧ spl (spl (cs tx) x.1 x.2.1 (cs x.2.2)) y.1 y.2.1 (cs y.2.2) = spl (spl (cs tx) a c (cs t)) s d (cs z))
    have tn' : a + c ≤ (cs tx).length := by omega
    have cases3 : told = .non ∨ ∃ x y, PairV SpcV SpcV Hh told (x, y) ∧ Gsp x ∧ Gsp y ∧ x.1 + x.2.1 ≤ n ∧ y.1 + y.2.1 ≤ n - x.2.1 + x.2.2.length ∧ spl (spl (cs tx) x.1 x.2.1 (cs x.2.2)) y.1 y.2.1 (cs y.2.2) = spl (spl (cs tx) a c (cs t)) s d (cs z) := by
      unfold ledp at told2
      dsimp only at told2
      by_cases c1 : s + d < a
      · rw [if_pos c1] at told2
        refine .inr ⟨_, _, told2, ⟨gz, zl, zA⟩, ⟨gt, tl, tA⟩, by dsimp only; omega, by dsimp only; omega, ?_⟩
        dsimp only
        rw [← cs_len z]
        exact swapA c1 tn'
      · rw [if_neg c1] at told2
        by_cases c2 : a + t.length < s
        · rw [if_pos c2] at told2
          refine .inr ⟨_, _, told2, ⟨gz, zl, zA⟩, ⟨gt, tl, tA⟩, by dsimp only; omega, by dsimp only; omega, ?_⟩
          dsimp only
          rw [← cs_len t]
          exact swapB (by rw [cs_len]; exact c2) tn' (by rw [tn, cs_len]; exact sd)
        · rw [if_neg c2] at told2
          exact .inl told2
    rcases cases3 with rfl | ⟨x, y, ⟨pt, va, vb, rfl, hpt, hva, hvb⟩, gx, gy, hx, hy, he⟩
    · walk_at "rd"
      exact q Hh D1h
    · walk_at "rd"
      refine r_slS bsl ?_
      walk_at "rd"
      have cb1 : (cutS bh none (some (s : Int))).length ≤ 3100 := Nat.le_trans (cut_len _ _ _) (by omega)
      refine r_addS (by rw [sizeLine_eq]; omega) ?_
      walk_at "rd"
      refine r_slS bsl ?_
      have cb2 : (cutS bh (some ((s : Int) + (d : Int))) none).length ≤ 3100 := Nat.le_trans (cut_len _ _ _) (by omega)
      have cb3 : (cutS bh none (some (s : Int)) ++ z).length ≤ 3103 := by
        rw [← cs_len, cs_app, List.length_append, cs_len, cs_len]
        omega
      refine r_addS (by rw [sizeLine_eq]; omega) ?_
      obtain ⟨bt, hbt⟩ : ∃ bt, bt = cutS bh none (some (s : Int)) ++ z ++ cutS bh (some ((s : Int) + (d : Int))) none := ⟨_, rfl⟩
      rw [← hbt]
      have ebt := hplain bt hbt
      walk_at "rd"
      refine r_ixT (sqT hpt) (atI_nat (j := 0) rfl) ?_
      walk_at "rd"
      refine r_small nsz fun pi ni => ?_
      obtain ⟨Hi, ki, ei, hi⟩ := nL (.tup [va]) ni
      rw [← ki]
      obtain ⟨rw1, sp1, jd1⟩ := one_spl (imm (.ex ei) hva) gx.ne gx.tA (Nat.le_trans gx.tl (by decide)) (n := tx.length) (by rw [← cs_len, tn]; exact hx)
      walk_at "rd"
      refine ⟨tx, pi, [va], rfl, by rw [← cs_len, tn]; omega, hi, rw1, fun rs hrs _ Hj o1 ej ho1 => ?_, fun k hk => by rw [jd1] at hk; cases hk⟩
      have ers : rs = [((x.1 : Int), (x.2.1 : Int), x.2.2)] := by
        rw [sp1] at hrs
        exact ((List.map_inj_right fun a b h => Option.some.inj h).mp hrs).symm
      rw [ers, led_one] at ho1
      have lo1 : o1.length = n - x.2.1 + x.2.2.length := by
        rw [← cs_len, ho1, spl_len (by omega), tn, cs_len]
      have gxl := gx.tl
      have eij := ei.trans ej
      walk_at "rd"
      refine r_ixT (sqT (eij _ _ hpt)) (atI_nat (j := 1) rfl) ?_
      walk_at "rd"
      refine r_small nsz fun pk nk => ?_
      obtain ⟨Hk, kk, ek, hk⟩ := nL (.tup [vb]) nk
      rw [← kk]
      obtain ⟨rw2, sp2, jd2⟩ := one_spl (imm (.ex (eij.trans ek)) hvb) gy.ne gy.tA (Nat.le_trans gy.tl (by decide)) (n := o1.length) (by rw [lo1]; exact hy)
      walk_at "rd"
      refine ⟨o1, pk, [vb], rfl, by omega, hk, rw2, fun rs2 hrs2 _ Hl o2 el ho2 => ?_, fun k hk => by rw [jd2] at hk; cases hk⟩
      have ers2 : rs2 = [((y.1 : Int), (y.2.1 : Int), y.2.2)] := by
        rw [sp2] at hrs2
        exact ((List.map_inj_right fun a b h => Option.some.inj h).mp hrs2).symm
      rw [ers2, led_one, ho1, he, ← ebt] at ho2
      have eo : o2 = bt := cs_ext ho2
      subst eo
      walk_at "rd"
      have et : decide (V.str o2 = V.str o2) = true := decide_eq_true rfl
      rw [et]
      exact q Hl ((D1h.then (eij.trans ek)).then el)
def sp_law (K : PySem.W.Frag) : Sp := fun vs H Q _ => ∃ (a : Addr) (ns : List Int), vs = [.ref a] ∧ SqL K H a (ns.map V.int) ∧ ns.length ≤ 63 ∧ ∀ H', Q (.bl true) H'
theorem ok_law (T : Txt K mg) : FnOk P w K mg base CX0 33 T.a_law T.d_law ["_law_script"] (sp_law K) := by
  refine T.F_law.ok sc_law (fun vs H Q E h => ?_) (fun cdv A outer s H vs Q E hr h => ?_)
  · obtain ⟨a, ns, rfl, _⟩ := h
    rfl
  · obtain ⟨a, ns, rfl, hS, hns, q⟩ := h
    refine ⟨_, (pss_cons (ps_set (i := 1) sc_law.nd rfl (Or.inl rfl) (pe_call (ok_law_start T) (hr.mono (by decide)) (by rfl) T.g_law_start T.F_law_start.kp T.b_law_start .nil pass0 (pa_cons (pv 0) pa_nil)))
        (pss_cons (ps_if (pt_not (pt_val (pe_call (ok_law_whole T) hr (by rfl) T.g_law_whole T.F_law_whole.kp T.b_law_whole .nil pass0 (pa_cons (pv 1) pa_nil)))) (pss_one (ps_ret pe_bl)) pss_nil)
        (pss_cons (ps_for PassesOwn.never rfl (pi_range1 (by rfl) T.n_range (pa_cons pe_int pa_nil)) (pg_name (i := 2) sc_law.nd rfl (Or.inl rfl)) (pss_one (ps_if (pt_not (pt_val (pe_call (ok_law_pair T) (hr.mono (by decide)) (by rfl) T.g_law_pair T.F_law_pair.kp T.b_law_pair .nil pass0 (pa_cons (pv 1) pa_nil)))) (pss_one (ps_ret pe_bl)) pss_nil)))
        (pss_cons (ps_if (pt_cmpR (op_eqU hr.units) (pe_call (ok_law_draw T) (hr.mono (by decide)) (by rfl) T.g_law_draw T.F_law_draw.kp T.b_law_draw .nil pass0 (pa_cons (pv 1) (pa_cons pe_int pa_nil))) pe_int (nomark _)) (pss_one (ps_ret (pe_call (ok_law_far T) (hr.mono (by decide)) (by rfl) T.g_law_far T.F_law_far.kp T.b_law_far .nil pass0 (pa_cons (pv 1) pa_nil)))) pss_nil)
        (pss_one (ps_ret pe_bl)))))), ?_⟩
    walk_at "rd"
    refine ⟨a, ns, rfl, hS, fun p H1 e1 hp st => ?_⟩
    walk_at "rd"
    refine ⟨p, rfl, st, fun H2 D2 => ?_⟩
    walk_at "rd"
    refine l_R (by decide) (by decide) (fun i σ H' => ∃ y, σ = [some (.ref a), some (.ref p), y] ∧ Stt H' p) ⟨none, rfl, D2.st⟩ (fun i σ H' hi hW => ?_) (fun σ H' hW => ?_)
    · obtain ⟨y, rfl, st⟩ := hW
      walk_at "rd"
      refine ⟨p, rfl, st, fun H3 D3 => ?_⟩
      walk_at "rd"
      exact ⟨_, rfl, D3.st⟩
    · obtain ⟨y, rfl, st⟩ := hW
      walk_at "rd"
      refine ⟨p, 8, rfl, st, by decide, fun d H4 d0 d1 D4 => ?_⟩
      walk_at "rd"
      refine r_ite (fun _ => ?_) (fun _ => ?_)
      · walk_at "rd"
        exact ⟨p, rfl, D4.st, fun H5 D5 => q H5⟩
      · walk_at "rd"
        exact q H4
end
/-- an error of the class at S is what «except S» names -/
theorem exm_self {K : PySem.W.Frag} {S : Addr} (h1 : PySem.W.subIn K (.ref S) (.type "BaseException") = some true) (h2 : PySem.W.isClsIn K S = true) (h3 : PySem.W.typeIn K (.ref S) = some (.type "type")) (h4 : PySem.W.subIn K (.ref S) (.ref S) = some true) :
    PySem.W.exmOne K (.ref S) (.ref S) = some true := by
  have e1 : (PySem.W.subIn K (.ref S) (.type "BaseException") == some true) = true := by rw [h1] <;> rfl
  have e2 : ((PySem.W.clsIn K S).isSome && PySem.W.typeIn K (.ref S) == some (.type "type")) = true := by
    have h2' : (PySem.W.clsIn K S).isSome = true := h2
    rw [h2', h3] <;> rfl
  show (if (PySem.W.subIn K (.ref S) (.type "BaseException") == some true) = true then (if ((PySem.W.clsIn K S).isSome && PySem.W.typeIn K (.ref S) == some (.type "type")) = true then PySem.W.subIn K (.ref S) (.ref S) else none) else none) = some true
  rw [if_pos e1, if_pos e2]
  exact h4
theorem all_mk {l : PySem.W.OpenLaw} {w : World} {K : PySem.W.Frag} {h : Heap} {mg : Str → Option Value} {fa : Addr} (X : K.In h) (G : h.Ns mainGlobals mg) (hfa : mg "law" = some (.ref fa))
    {f_first_strange : Addr} {od_first_strange an_first_strange : Option Addr} {sl_first_strange : Array (Option Value)} {oc_first_strange kV_first_strange dc_first_strange pm_first_strange cd_first_strange ct_first_strange : Value}
    {f_is_text : Addr} {od_is_text an_is_text : Option Addr} {sl_is_text : Array (Option Value)} {oc_is_text kV_is_text dc_is_text pm_is_text cd_is_text ct_is_text : Value}
    {f_is_number : Addr} {od_is_number an_is_number : Option Addr} {sl_is_number : Array (Option Value)} {oc_is_number kV_is_number dc_is_number pm_is_number cd_is_number ct_is_number : Value}
    {f_is_splice : Addr} {od_is_splice an_is_splice : Option Addr} {sl_is_splice : Array (Option Value)} {oc_is_splice kV_is_splice dc_is_splice pm_is_splice cd_is_splice ct_is_splice : Value}
    {f_follows : Addr} {od_follows an_follows : Option Addr} {sl_follows : Array (Option Value)} {oc_follows kV_follows dc_follows pm_follows cd_follows ct_follows : Value}
    {f_check_round : Addr} {od_check_round an_check_round : Option Addr} {sl_check_round : Array (Option Value)} {oc_check_round kV_check_round dc_check_round pm_check_round cd_check_round ct_check_round : Value}
    {f_spliced : Addr} {od_spliced an_spliced : Option Addr} {sl_spliced : Array (Option Value)} {oc_spliced kV_spliced dc_spliced pm_spliced cd_spliced ct_spliced : Value}
    {f_moved_by : Addr} {od_moved_by an_moved_by : Option Addr} {sl_moved_by : Array (Option Value)} {oc_moved_by kV_moved_by dc_moved_by pm_moved_by cd_moved_by ct_moved_by : Value}
    {f_moved_place : Addr} {od_moved_place an_moved_place : Option Addr} {sl_moved_place : Array (Option Value)} {oc_moved_place kV_moved_place dc_moved_place pm_moved_place cd_moved_place ct_moved_place : Value}
    {f_led_past : Addr} {od_led_past an_led_past : Option Addr} {sl_led_past : Array (Option Value)} {oc_led_past kV_led_past dc_led_past pm_led_past cd_led_past ct_led_past : Value}
    {f_law_start : Addr} {od_law_start an_law_start : Option Addr} {sl_law_start : Array (Option Value)} {oc_law_start kV_law_start dc_law_start pm_law_start cd_law_start ct_law_start : Value}
    {f_law_draw : Addr} {od_law_draw an_law_draw : Option Addr} {sl_law_draw : Array (Option Value)} {oc_law_draw kV_law_draw dc_law_draw pm_law_draw cd_law_draw ct_law_draw : Value}
    {f_law_word : Addr} {od_law_word an_law_word : Option Addr} {sl_law_word : Array (Option Value)} {oc_law_word kV_law_word dc_law_word pm_law_word cd_law_word ct_law_word : Value}
    {f_law_round : Addr} {od_law_round an_law_round : Option Addr} {sl_law_round : Array (Option Value)} {oc_law_round kV_law_round dc_law_round pm_law_round cd_law_round ct_law_round : Value}
    {f_law_ahead : Addr} {od_law_ahead an_law_ahead : Option Addr} {sl_law_ahead : Array (Option Value)} {oc_law_ahead kV_law_ahead dc_law_ahead pm_law_ahead cd_law_ahead ct_law_ahead : Value}
    {f_law_place : Addr} {od_law_place an_law_place : Option Addr} {sl_law_place : Array (Option Value)} {oc_law_place kV_law_place dc_law_place pm_law_place cd_law_place ct_law_place : Value}
    {f_law_born : Addr} {od_law_born an_law_born : Option Addr} {sl_law_born : Array (Option Value)} {oc_law_born kV_law_born dc_law_born pm_law_born cd_law_born ct_law_born : Value}
    {f_law_is : Addr} {od_law_is an_law_is : Option Addr} {sl_law_is : Array (Option Value)} {oc_law_is kV_law_is dc_law_is pm_law_is cd_law_is ct_law_is : Value}
    {f_law_anchors : Addr} {od_law_anchors an_law_anchors : Option Addr} {sl_law_anchors : Array (Option Value)} {oc_law_anchors kV_law_anchors dc_law_anchors pm_law_anchors cd_law_anchors ct_law_anchors : Value}
    {f_law_rises : Addr} {od_law_rises an_law_rises : Option Addr} {sl_law_rises : Array (Option Value)} {oc_law_rises kV_law_rises dc_law_rises pm_law_rises cd_law_rises ct_law_rises : Value}
    {f_law_whole : Addr} {od_law_whole an_law_whole : Option Addr} {sl_law_whole : Array (Option Value)} {oc_law_whole kV_law_whole dc_law_whole pm_law_whole cd_law_whole ct_law_whole : Value}
    {f_law_far : Addr} {od_law_far an_law_far : Option Addr} {sl_law_far : Array (Option Value)} {oc_law_far kV_law_far dc_law_far pm_law_far cd_law_far ct_law_far : Value}
    {f_law_same : Addr} {od_law_same an_law_same : Option Addr} {sl_law_same : Array (Option Value)} {oc_law_same kV_law_same dc_law_same pm_law_same cd_law_same ct_law_same : Value}
    {f_law_led : Addr} {od_law_led an_law_led : Option Addr} {sl_law_led : Array (Option Value)} {oc_law_led kV_law_led dc_law_led pm_law_led cd_law_led ct_law_led : Value}
    {f_law_pair : Addr} {od_law_pair an_law_pair : Option Addr} {sl_law_pair : Array (Option Value)} {oc_law_pair kV_law_pair dc_law_pair pm_law_pair cd_law_pair ct_law_pair : Value}
    {f_law : Addr} {od_law an_law : Option Addr} {sl_law : Array (Option Value)} {oc_law kV_law dc_law pm_law cd_law ct_law : Value}
    {C_BadSplice fi_BadSplice N_BadSplice : Addr} {nm_BadSplice qn_BadSplice : Str} {bs_BadSplice su_BadSplice : List Value} {sn_BadSplice : List Str} {ab_BadSplice : Bool} {col_BadSplice : Option Bool} {dd_BadSplice : Option Addr} {m0_BadSplice m1_BadSplice m2_BadSplice m3_BadSplice m5_BadSplice : Option Value}
    {od_BadSplice an_BadSplice : Option Addr} {sl_BadSplice : Array (Option Value)} {oc_BadSplice kV_BadSplice dc_BadSplice pm_BadSplice cd_BadSplice ct_BadSplice : Value}
    {B_BadSplice_DeskError : Addr}
    {tk_ALPHABET : Tok}
    (a_first_strange : PySem.W.nsIn K mainGlobals "first_strange" = some (some (.ref f_first_strange)))
    (l_first_strange : K.lookup f_first_strange = some ⟨oc_first_strange, od_first_strange, .func (PySem.W.fnOf "first_strange" "first_strange" (defArgs s_first_strange) (defBody s_first_strange) (defScope s_first_strange) .none kV_first_strange dc_first_strange pm_first_strange an_first_strange cd_first_strange ct_first_strange), sl_first_strange⟩)
    (c_first_strange : PySem.W.codeIn K cd_first_strange "first_strange" = true)
    (k_first_strange : PySem.W.keepIn K (.ref f_first_strange) = true)
    (a_is_text : PySem.W.nsIn K mainGlobals "is_text" = some (some (.ref f_is_text)))
    (l_is_text : K.lookup f_is_text = some ⟨oc_is_text, od_is_text, .func (PySem.W.fnOf "is_text" "is_text" (defArgs s_is_text) (defBody s_is_text) (defScope s_is_text) .none kV_is_text dc_is_text pm_is_text an_is_text cd_is_text ct_is_text), sl_is_text⟩)
    (c_is_text : PySem.W.codeIn K cd_is_text "is_text" = true)
    (k_is_text : PySem.W.keepIn K (.ref f_is_text) = true)
    (a_is_number : PySem.W.nsIn K mainGlobals "is_number" = some (some (.ref f_is_number)))
    (l_is_number : K.lookup f_is_number = some ⟨oc_is_number, od_is_number, .func (PySem.W.fnOf "is_number" "is_number" (defArgs s_is_number) (defBody s_is_number) (defScope s_is_number) .none kV_is_number dc_is_number pm_is_number an_is_number cd_is_number ct_is_number), sl_is_number⟩)
    (c_is_number : PySem.W.codeIn K cd_is_number "is_number" = true)
    (k_is_number : PySem.W.keepIn K (.ref f_is_number) = true)
    (a_is_splice : PySem.W.nsIn K mainGlobals "is_splice" = some (some (.ref f_is_splice)))
    (l_is_splice : K.lookup f_is_splice = some ⟨oc_is_splice, od_is_splice, .func (PySem.W.fnOf "is_splice" "is_splice" (defArgs s_is_splice) (defBody s_is_splice) (defScope s_is_splice) .none kV_is_splice dc_is_splice pm_is_splice an_is_splice cd_is_splice ct_is_splice), sl_is_splice⟩)
    (c_is_splice : PySem.W.codeIn K cd_is_splice "is_splice" = true)
    (k_is_splice : PySem.W.keepIn K (.ref f_is_splice) = true)
    (a_follows : PySem.W.nsIn K mainGlobals "follows" = some (some (.ref f_follows)))
    (l_follows : K.lookup f_follows = some ⟨oc_follows, od_follows, .func (PySem.W.fnOf "follows" "follows" (defArgs s_follows) (defBody s_follows) (defScope s_follows) .none kV_follows dc_follows pm_follows an_follows cd_follows ct_follows), sl_follows⟩)
    (c_follows : PySem.W.codeIn K cd_follows "follows" = true)
    (k_follows : PySem.W.keepIn K (.ref f_follows) = true)
    (a_check_round : PySem.W.nsIn K mainGlobals "check_round" = some (some (.ref f_check_round)))
    (l_check_round : K.lookup f_check_round = some ⟨oc_check_round, od_check_round, .func (PySem.W.fnOf "check_round" "check_round" (defArgs s_check_round) (defBody s_check_round) (defScope s_check_round) .none kV_check_round dc_check_round pm_check_round an_check_round cd_check_round ct_check_round), sl_check_round⟩)
    (c_check_round : PySem.W.codeIn K cd_check_round "check_round" = true)
    (k_check_round : PySem.W.keepIn K (.ref f_check_round) = true)
    (a_spliced : PySem.W.nsIn K mainGlobals "spliced" = some (some (.ref f_spliced)))
    (l_spliced : K.lookup f_spliced = some ⟨oc_spliced, od_spliced, .func (PySem.W.fnOf "spliced" "spliced" (defArgs s_spliced) (defBody s_spliced) (defScope s_spliced) .none kV_spliced dc_spliced pm_spliced an_spliced cd_spliced ct_spliced), sl_spliced⟩)
    (c_spliced : PySem.W.codeIn K cd_spliced "spliced" = true)
    (k_spliced : PySem.W.keepIn K (.ref f_spliced) = true)
    (a_moved_by : PySem.W.nsIn K mainGlobals "moved_by" = some (some (.ref f_moved_by)))
    (l_moved_by : K.lookup f_moved_by = some ⟨oc_moved_by, od_moved_by, .func (PySem.W.fnOf "moved_by" "moved_by" (defArgs s_moved_by) (defBody s_moved_by) (defScope s_moved_by) .none kV_moved_by dc_moved_by pm_moved_by an_moved_by cd_moved_by ct_moved_by), sl_moved_by⟩)
    (c_moved_by : PySem.W.codeIn K cd_moved_by "moved_by" = true)
    (k_moved_by : PySem.W.keepIn K (.ref f_moved_by) = true)
    (a_moved_place : PySem.W.nsIn K mainGlobals "moved_place" = some (some (.ref f_moved_place)))
    (l_moved_place : K.lookup f_moved_place = some ⟨oc_moved_place, od_moved_place, .func (PySem.W.fnOf "moved_place" "moved_place" (defArgs s_moved_place) (defBody s_moved_place) (defScope s_moved_place) .none kV_moved_place dc_moved_place pm_moved_place an_moved_place cd_moved_place ct_moved_place), sl_moved_place⟩)
    (c_moved_place : PySem.W.codeIn K cd_moved_place "moved_place" = true)
    (k_moved_place : PySem.W.keepIn K (.ref f_moved_place) = true)
    (a_led_past : PySem.W.nsIn K mainGlobals "led_past" = some (some (.ref f_led_past)))
    (l_led_past : K.lookup f_led_past = some ⟨oc_led_past, od_led_past, .func (PySem.W.fnOf "led_past" "led_past" (defArgs s_led_past) (defBody s_led_past) (defScope s_led_past) .none kV_led_past dc_led_past pm_led_past an_led_past cd_led_past ct_led_past), sl_led_past⟩)
    (c_led_past : PySem.W.codeIn K cd_led_past "led_past" = true)
    (k_led_past : PySem.W.keepIn K (.ref f_led_past) = true)
    (a_law_start : PySem.W.nsIn K mainGlobals "_law_start" = some (some (.ref f_law_start)))
    (l_law_start : K.lookup f_law_start = some ⟨oc_law_start, od_law_start, .func (PySem.W.fnOf "_law_start" "_law_start" (defArgs s_law_start) (defBody s_law_start) (defScope s_law_start) .none kV_law_start dc_law_start pm_law_start an_law_start cd_law_start ct_law_start), sl_law_start⟩)
    (c_law_start : PySem.W.codeIn K cd_law_start "_law_start" = true)
    (k_law_start : PySem.W.keepIn K (.ref f_law_start) = true)
    (a_law_draw : PySem.W.nsIn K mainGlobals "_law_draw" = some (some (.ref f_law_draw)))
    (l_law_draw : K.lookup f_law_draw = some ⟨oc_law_draw, od_law_draw, .func (PySem.W.fnOf "_law_draw" "_law_draw" (defArgs s_law_draw) (defBody s_law_draw) (defScope s_law_draw) .none kV_law_draw dc_law_draw pm_law_draw an_law_draw cd_law_draw ct_law_draw), sl_law_draw⟩)
    (c_law_draw : PySem.W.codeIn K cd_law_draw "_law_draw" = true)
    (k_law_draw : PySem.W.keepIn K (.ref f_law_draw) = true)
    (a_law_word : PySem.W.nsIn K mainGlobals "_law_word" = some (some (.ref f_law_word)))
    (l_law_word : K.lookup f_law_word = some ⟨oc_law_word, od_law_word, .func (PySem.W.fnOf "_law_word" "_law_word" (defArgs s_law_word) (defBody s_law_word) (defScope s_law_word) .none kV_law_word dc_law_word pm_law_word an_law_word cd_law_word ct_law_word), sl_law_word⟩)
    (c_law_word : PySem.W.codeIn K cd_law_word "_law_word" = true)
    (k_law_word : PySem.W.keepIn K (.ref f_law_word) = true)
    (a_law_round : PySem.W.nsIn K mainGlobals "_law_round" = some (some (.ref f_law_round)))
    (l_law_round : K.lookup f_law_round = some ⟨oc_law_round, od_law_round, .func (PySem.W.fnOf "_law_round" "_law_round" (defArgs s_law_round) (defBody s_law_round) (defScope s_law_round) .none kV_law_round dc_law_round pm_law_round an_law_round cd_law_round ct_law_round), sl_law_round⟩)
    (c_law_round : PySem.W.codeIn K cd_law_round "_law_round" = true)
    (k_law_round : PySem.W.keepIn K (.ref f_law_round) = true)
    (a_law_ahead : PySem.W.nsIn K mainGlobals "_law_ahead" = some (some (.ref f_law_ahead)))
    (l_law_ahead : K.lookup f_law_ahead = some ⟨oc_law_ahead, od_law_ahead, .func (PySem.W.fnOf "_law_ahead" "_law_ahead" (defArgs s_law_ahead) (defBody s_law_ahead) (defScope s_law_ahead) .none kV_law_ahead dc_law_ahead pm_law_ahead an_law_ahead cd_law_ahead ct_law_ahead), sl_law_ahead⟩)
    (c_law_ahead : PySem.W.codeIn K cd_law_ahead "_law_ahead" = true)
    (k_law_ahead : PySem.W.keepIn K (.ref f_law_ahead) = true)
    (a_law_place : PySem.W.nsIn K mainGlobals "_law_place" = some (some (.ref f_law_place)))
    (l_law_place : K.lookup f_law_place = some ⟨oc_law_place, od_law_place, .func (PySem.W.fnOf "_law_place" "_law_place" (defArgs s_law_place) (defBody s_law_place) (defScope s_law_place) .none kV_law_place dc_law_place pm_law_place an_law_place cd_law_place ct_law_place), sl_law_place⟩)
    (c_law_place : PySem.W.codeIn K cd_law_place "_law_place" = true)
    (k_law_place : PySem.W.keepIn K (.ref f_law_place) = true)
    (a_law_born : PySem.W.nsIn K mainGlobals "_law_born" = some (some (.ref f_law_born)))
    (l_law_born : K.lookup f_law_born = some ⟨oc_law_born, od_law_born, .func (PySem.W.fnOf "_law_born" "_law_born" (defArgs s_law_born) (defBody s_law_born) (defScope s_law_born) .none kV_law_born dc_law_born pm_law_born an_law_born cd_law_born ct_law_born), sl_law_born⟩)
    (c_law_born : PySem.W.codeIn K cd_law_born "_law_born" = true)
    (k_law_born : PySem.W.keepIn K (.ref f_law_born) = true)
    (a_law_is : PySem.W.nsIn K mainGlobals "_law_is" = some (some (.ref f_law_is)))
    (l_law_is : K.lookup f_law_is = some ⟨oc_law_is, od_law_is, .func (PySem.W.fnOf "_law_is" "_law_is" (defArgs s_law_is) (defBody s_law_is) (defScope s_law_is) .none kV_law_is dc_law_is pm_law_is an_law_is cd_law_is ct_law_is), sl_law_is⟩)
    (c_law_is : PySem.W.codeIn K cd_law_is "_law_is" = true)
    (k_law_is : PySem.W.keepIn K (.ref f_law_is) = true)
    (a_law_anchors : PySem.W.nsIn K mainGlobals "_law_anchors" = some (some (.ref f_law_anchors)))
    (l_law_anchors : K.lookup f_law_anchors = some ⟨oc_law_anchors, od_law_anchors, .func (PySem.W.fnOf "_law_anchors" "_law_anchors" (defArgs s_law_anchors) (defBody s_law_anchors) (defScope s_law_anchors) .none kV_law_anchors dc_law_anchors pm_law_anchors an_law_anchors cd_law_anchors ct_law_anchors), sl_law_anchors⟩)
    (c_law_anchors : PySem.W.codeIn K cd_law_anchors "_law_anchors" = true)
    (k_law_anchors : PySem.W.keepIn K (.ref f_law_anchors) = true)
    (a_law_rises : PySem.W.nsIn K mainGlobals "_law_rises" = some (some (.ref f_law_rises)))
    (l_law_rises : K.lookup f_law_rises = some ⟨oc_law_rises, od_law_rises, .func (PySem.W.fnOf "_law_rises" "_law_rises" (defArgs s_law_rises) (defBody s_law_rises) (defScope s_law_rises) .none kV_law_rises dc_law_rises pm_law_rises an_law_rises cd_law_rises ct_law_rises), sl_law_rises⟩)
    (c_law_rises : PySem.W.codeIn K cd_law_rises "_law_rises" = true)
    (k_law_rises : PySem.W.keepIn K (.ref f_law_rises) = true)
    (a_law_whole : PySem.W.nsIn K mainGlobals "_law_whole" = some (some (.ref f_law_whole)))
    (l_law_whole : K.lookup f_law_whole = some ⟨oc_law_whole, od_law_whole, .func (PySem.W.fnOf "_law_whole" "_law_whole" (defArgs s_law_whole) (defBody s_law_whole) (defScope s_law_whole) .none kV_law_whole dc_law_whole pm_law_whole an_law_whole cd_law_whole ct_law_whole), sl_law_whole⟩)
    (c_law_whole : PySem.W.codeIn K cd_law_whole "_law_whole" = true)
    (k_law_whole : PySem.W.keepIn K (.ref f_law_whole) = true)
    (a_law_far : PySem.W.nsIn K mainGlobals "_law_far" = some (some (.ref f_law_far)))
    (l_law_far : K.lookup f_law_far = some ⟨oc_law_far, od_law_far, .func (PySem.W.fnOf "_law_far" "_law_far" (defArgs s_law_far) (defBody s_law_far) (defScope s_law_far) .none kV_law_far dc_law_far pm_law_far an_law_far cd_law_far ct_law_far), sl_law_far⟩)
    (c_law_far : PySem.W.codeIn K cd_law_far "_law_far" = true)
    (k_law_far : PySem.W.keepIn K (.ref f_law_far) = true)
    (a_law_same : PySem.W.nsIn K mainGlobals "_law_same" = some (some (.ref f_law_same)))
    (l_law_same : K.lookup f_law_same = some ⟨oc_law_same, od_law_same, .func (PySem.W.fnOf "_law_same" "_law_same" (defArgs s_law_same) (defBody s_law_same) (defScope s_law_same) .none kV_law_same dc_law_same pm_law_same an_law_same cd_law_same ct_law_same), sl_law_same⟩)
    (c_law_same : PySem.W.codeIn K cd_law_same "_law_same" = true)
    (k_law_same : PySem.W.keepIn K (.ref f_law_same) = true)
    (a_law_led : PySem.W.nsIn K mainGlobals "_law_led" = some (some (.ref f_law_led)))
    (l_law_led : K.lookup f_law_led = some ⟨oc_law_led, od_law_led, .func (PySem.W.fnOf "_law_led" "_law_led" (defArgs s_law_led) (defBody s_law_led) (defScope s_law_led) .none kV_law_led dc_law_led pm_law_led an_law_led cd_law_led ct_law_led), sl_law_led⟩)
    (c_law_led : PySem.W.codeIn K cd_law_led "_law_led" = true)
    (k_law_led : PySem.W.keepIn K (.ref f_law_led) = true)
    (a_law_pair : PySem.W.nsIn K mainGlobals "_law_pair" = some (some (.ref f_law_pair)))
    (l_law_pair : K.lookup f_law_pair = some ⟨oc_law_pair, od_law_pair, .func (PySem.W.fnOf "_law_pair" "_law_pair" (defArgs s_law_pair) (defBody s_law_pair) (defScope s_law_pair) .none kV_law_pair dc_law_pair pm_law_pair an_law_pair cd_law_pair ct_law_pair), sl_law_pair⟩)
    (c_law_pair : PySem.W.codeIn K cd_law_pair "_law_pair" = true)
    (k_law_pair : PySem.W.keepIn K (.ref f_law_pair) = true)
    (a_law : PySem.W.nsIn K mainGlobals "law" = some (some (.ref f_law)))
    (l_law : K.lookup f_law = some ⟨oc_law, od_law, .func (PySem.W.fnOf "law" "law" (defArgs s_law) (defBody s_law) (defScope s_law) .none kV_law dc_law pm_law an_law cd_law ct_law), sl_law⟩)
    (c_law : PySem.W.codeIn K cd_law "law" = true)
    (k_law : PySem.W.keepIn K (.ref f_law) = true)
    (aC_BadSplice : PySem.W.nsIn K mainGlobals "BadSplice" = some (some (.ref C_BadSplice)))
    (xL_BadSplice : K.lookup C_BadSplice = some (excClassObj nm_BadSplice qn_BadSplice C_BadSplice N_BadSplice bs_BadSplice [.ref B_BadSplice_DeskError, .type "ValueError", .type "Exception", .type "BaseException", .type "object"] true sn_BadSplice su_BadSplice ab_BadSplice col_BadSplice dd_BadSplice m0_BadSplice m1_BadSplice m2_BadSplice m3_BadSplice m5_BadSplice "ValueError.__new__"))
    (sa_BadSplice : PySem.W.findIn K (.ref C_BadSplice) "__setattr__" = some (some (.builtin "object.__setattr__")))
    (ga_BadSplice : PySem.W.findIn K (.ref C_BadSplice) "__getattribute__" = some (some (.builtin "BaseException.__getattribute__")))
    (gg_BadSplice : PySem.W.findIn K (.ref C_BadSplice) "__getattr__" = some none)
    (na_BadSplice_at : PySem.W.findIn K (.ref C_BadSplice) "at" = some none)
    (iC_BadSplice : PySem.W.findIn K (.ref C_BadSplice) "__init__" = some (some (.ref fi_BadSplice)))
    (ti_BadSplice : PySem.W.typeIn K (.ref fi_BadSplice) = some (.type "function"))
    (li_BadSplice : K.lookup fi_BadSplice = some ⟨oc_BadSplice, od_BadSplice, .func (PySem.W.fnOf "__init__" "BadSplice.__init__" (defArgs s_init_BadSplice) (defBody s_init_BadSplice) (defScope s_init_BadSplice) .none kV_BadSplice dc_BadSplice pm_BadSplice an_BadSplice cd_BadSplice ct_BadSplice), sl_BadSplice⟩)
    (ci_BadSplice : PySem.W.codeIn K cd_BadSplice "BadSplice.__init__" = true)
    (ki_BadSplice : PySem.W.keepIn K (.ref fi_BadSplice) = true)
    (kC_BadSplice : PySem.W.keepIn K (.ref C_BadSplice) = true)
    (eC_BadSplice : PySem.W.subIn K (.ref C_BadSplice) (.type "BaseException") = some true)
    (tC_BadSplice : PySem.W.typeIn K (.ref C_BadSplice) = some (.type "type"))
    (hC_BadSplice : PySem.W.hasDictIn K C_BadSplice = true)
    (yC_BadSplice : PySem.W.isClsIn K C_BadSplice = true)
    (sC_BadSplice : PySem.W.subIn K (.ref C_BadSplice) (.ref C_BadSplice) = some true)
    (v_ALPHABET : PySem.W.nsIn K mainGlobals "ALPHABET" = some (some (.str "\n !\"#$&'()*+,-./0123456789:;<=>?@ABCDEFGHIJKLMNOPQRSTUVWXYZ[\\]^_`abcdefghijklmnopqrstuvwxyz{|}~" tk_ALPHABET)))
    (z_bool : PySem.W.nsIn K mainGlobals "bool" = some none)
    (z_enumerate : PySem.W.nsIn K mainGlobals "enumerate" = some none)
    (z_int : PySem.W.nsIn K mainGlobals "int" = some none)
    (z_isinstance : PySem.W.nsIn K mainGlobals "isinstance" = some none)
    (z_len : PySem.W.nsIn K mainGlobals "len" = some none)
    (z_max : PySem.W.nsIn K mainGlobals "max" = some none)
    (z_min : PySem.W.nsIn K mainGlobals "min" = some none)
    (z_range : PySem.W.nsIn K mainGlobals "range" = some none)
    (z_reversed : PySem.W.nsIn K mainGlobals "reversed" = some none)
    (z_str : PySem.W.nsIn K mainGlobals "str" = some none)
    (z_tuple : PySem.W.nsIn K mainGlobals "tuple" = some none) :
    ∃ fd : FuncData, (∀ (s : Shared) (v : Value), BindsTo s fd ⟨[v], []⟩ [("_law_script", v)]) ∧ ∀ base : Heap, K.In base → base.Ns mainGlobals mg → FnOk l.prog w K mg base CX0 33 fa fd ["_law_script"] (sp_law K) := by
  have e := hfa.symm.trans (PySem.W.mg_of X G a_law)
  cases e
  have F_first_strange := fun_mk (st := s_first_strange) l_first_strange c_first_strange k_first_strange
  have F_is_text := fun_mk (st := s_is_text) l_is_text c_is_text k_is_text
  have F_is_number := fun_mk (st := s_is_number) l_is_number c_is_number k_is_number
  have F_is_splice := fun_mk (st := s_is_splice) l_is_splice c_is_splice k_is_splice
  have F_follows := fun_mk (st := s_follows) l_follows c_follows k_follows
  have F_check_round := fun_mk (st := s_check_round) l_check_round c_check_round k_check_round
  have F_spliced := fun_mk (st := s_spliced) l_spliced c_spliced k_spliced
  have F_moved_by := fun_mk (st := s_moved_by) l_moved_by c_moved_by k_moved_by
  have F_moved_place := fun_mk (st := s_moved_place) l_moved_place c_moved_place k_moved_place
  have F_led_past := fun_mk (st := s_led_past) l_led_past c_led_past k_led_past
  have F_law_start := fun_mk (st := s_law_start) l_law_start c_law_start k_law_start
  have F_law_draw := fun_mk (st := s_law_draw) l_law_draw c_law_draw k_law_draw
  have F_law_word := fun_mk (st := s_law_word) l_law_word c_law_word k_law_word
  have F_law_round := fun_mk (st := s_law_round) l_law_round c_law_round k_law_round
  have F_law_ahead := fun_mk (st := s_law_ahead) l_law_ahead c_law_ahead k_law_ahead
  have F_law_place := fun_mk (st := s_law_place) l_law_place c_law_place k_law_place
  have F_law_born := fun_mk (st := s_law_born) l_law_born c_law_born k_law_born
  have F_law_is := fun_mk (st := s_law_is) l_law_is c_law_is k_law_is
  have F_law_anchors := fun_mk (st := s_law_anchors) l_law_anchors c_law_anchors k_law_anchors
  have F_law_rises := fun_mk (st := s_law_rises) l_law_rises c_law_rises k_law_rises
  have F_law_whole := fun_mk (st := s_law_whole) l_law_whole c_law_whole k_law_whole
  have F_law_far := fun_mk (st := s_law_far) l_law_far c_law_far k_law_far
  have F_law_same := fun_mk (st := s_law_same) l_law_same c_law_same k_law_same
  have F_law_led := fun_mk (st := s_law_led) l_law_led c_law_led k_law_led
  have F_law_pair := fun_mk (st := s_law_pair) l_law_pair c_law_pair k_law_pair
  have F_law := fun_mk (st := s_law) l_law c_law k_law
  have F_BadSplice := fun_mk (st := s_init_BadSplice) li_BadSplice ci_BadSplice ki_BadSplice
  let T : Txt K mg := {
    a_first_strange := _, d_first_strange := _, F_first_strange := F_first_strange, b_first_strange := F_first_strange.binds (ps := ["text"]) (fun _ _ _ _ _ _ us hl => match us, hl with | [_], _ => rfl), g_first_strange := PySem.W.mg_of X G a_first_strange,
    a_is_text := _, d_is_text := _, F_is_text := F_is_text, b_is_text := F_is_text.binds (ps := ["thing"]) (fun _ _ _ _ _ _ us hl => match us, hl with | [_], _ => rfl), g_is_text := PySem.W.mg_of X G a_is_text,
    a_is_number := _, d_is_number := _, F_is_number := F_is_number, b_is_number := F_is_number.binds (ps := ["thing"]) (fun _ _ _ _ _ _ us hl => match us, hl with | [_], _ => rfl), g_is_number := PySem.W.mg_of X G a_is_number,
    a_is_splice := _, d_is_splice := _, F_is_splice := F_is_splice, b_is_splice := F_is_splice.binds (ps := ["thing"]) (fun _ _ _ _ _ _ us hl => match us, hl with | [_], _ => rfl), g_is_splice := PySem.W.mg_of X G a_is_splice,
    a_follows := _, d_follows := _, F_follows := F_follows, b_follows := F_follows.binds (ps := ["before", "splice"]) (fun _ _ _ _ _ _ us hl => match us, hl with | [_, _], _ => rfl), g_follows := PySem.W.mg_of X G a_follows,
    a_check_round := _, d_check_round := _, F_check_round := F_check_round, b_check_round := F_check_round.binds (ps := ["size", "splices"]) (fun _ _ _ _ _ _ us hl => match us, hl with | [_, _], _ => rfl), g_check_round := PySem.W.mg_of X G a_check_round,
    a_spliced := _, d_spliced := _, F_spliced := F_spliced, b_spliced := F_spliced.binds (ps := ["text", "splices"]) (fun _ _ _ _ _ _ us hl => match us, hl with | [_, _], _ => rfl), g_spliced := PySem.W.mg_of X G a_spliced,
    a_moved_by := _, d_moved_by := _, F_moved_by := F_moved_by, b_moved_by := F_moved_by.binds (ps := ["place", "side", "splice"]) (fun _ _ _ _ _ _ us hl => match us, hl with | [_, _, _], _ => rfl), g_moved_by := PySem.W.mg_of X G a_moved_by,
    a_moved_place := _, d_moved_place := _, F_moved_place := F_moved_place, b_moved_place := F_moved_place.binds (ps := ["place", "side", "splices"]) (fun _ _ _ _ _ _ us hl => match us, hl with | [_, _, _], _ => rfl), g_moved_place := PySem.W.mg_of X G a_moved_place,
    a_led_past := _, d_led_past := _, F_led_past := F_led_past, b_led_past := F_led_past.binds (ps := ["first", "second"]) (fun _ _ _ _ _ _ us hl => match us, hl with | [_, _], _ => rfl), g_led_past := PySem.W.mg_of X G a_led_past,
    a_law_start := _, d_law_start := _, F_law_start := F_law_start, b_law_start := F_law_start.binds (ps := ["_law_script"]) (fun _ _ _ _ _ _ us hl => match us, hl with | [_], _ => rfl), g_law_start := PySem.W.mg_of X G a_law_start,
    a_law_draw := _, d_law_draw := _, F_law_draw := F_law_draw, b_law_draw := F_law_draw.binds (ps := ["_law_state", "_law_many"]) (fun _ _ _ _ _ _ us hl => match us, hl with | [_, _], _ => rfl), g_law_draw := PySem.W.mg_of X G a_law_draw,
    a_law_word := _, d_law_word := _, F_law_word := F_law_word, b_law_word := F_law_word.binds (ps := ["_law_state", "_law_size"]) (fun _ _ _ _ _ _ us hl => match us, hl with | [_, _], _ => rfl), g_law_word := PySem.W.mg_of X G a_law_word,
    a_law_round := _, d_law_round := _, F_law_round := F_law_round, b_law_round := F_law_round.binds (ps := ["_law_state", "_law_size", "_law_most", "_law_gap"]) (fun _ _ _ _ _ _ us hl => match us, hl with | [_, _, _, _], _ => rfl), g_law_round := PySem.W.mg_of X G a_law_round,
    a_law_ahead := _, d_law_ahead := _, F_law_ahead := F_law_ahead, b_law_ahead := F_law_ahead.binds (ps := ["_law_births", "_law_one", "_law_other"]) (fun _ _ _ _ _ _ us hl => match us, hl with | [_, _, _], _ => rfl), g_law_ahead := PySem.W.mg_of X G a_law_ahead,
    a_law_place := _, d_law_place := _, F_law_place := F_law_place, b_law_place := F_law_place.binds (ps := ["_law_births", "_law_row", "_law_sign", "_law_side"]) (fun _ _ _ _ _ _ us hl => match us, hl with | [_, _, _, _], _ => rfl), g_law_place := PySem.W.mg_of X G a_law_place,
    a_law_born := _, d_law_born := _, F_law_born := F_law_born, b_law_born := F_law_born.binds (ps := ["_law_births", "_law_row", "_law_splice"]) (fun _ _ _ _ _ _ us hl => match us, hl with | [_, _, _], _ => rfl), g_law_born := PySem.W.mg_of X G a_law_born,
    a_law_is := _, d_law_is := _, F_law_is := F_law_is, b_law_is := F_law_is.binds (ps := ["_law_due", "_law_told"]) (fun _ _ _ _ _ _ us hl => match us, hl with | [_, _], _ => rfl), g_law_is := PySem.W.mg_of X G a_law_is,
    a_law_anchors := _, d_law_anchors := _, F_law_anchors := F_law_anchors, b_law_anchors := F_law_anchors.binds (ps := ["_law_signs"]) (fun _ _ _ _ _ _ us hl => match us, hl with | [_], _ => rfl), g_law_anchors := PySem.W.mg_of X G a_law_anchors,
    a_law_rises := _, d_law_rises := _, F_law_rises := F_law_rises, b_law_rises := F_law_rises.binds (ps := ["_law_size", "_law_row"]) (fun _ _ _ _ _ _ us hl => match us, hl with | [_, _], _ => rfl), g_law_rises := PySem.W.mg_of X G a_law_rises,
    a_law_whole := _, d_law_whole := _, F_law_whole := F_law_whole, b_law_whole := F_law_whole.binds (ps := ["_law_state"]) (fun _ _ _ _ _ _ us hl => match us, hl with | [_], _ => rfl), g_law_whole := PySem.W.mg_of X G a_law_whole,
    a_law_far := _, d_law_far := _, F_law_far := F_law_far, b_law_far := F_law_far.binds (ps := ["_law_state"]) (fun _ _ _ _ _ _ us hl => match us, hl with | [_], _ => rfl), g_law_far := PySem.W.mg_of X G a_law_far,
    a_law_same := _, d_law_same := _, F_law_same := F_law_same, b_law_same := F_law_same.binds (ps := ["_law_due", "_law_told"]) (fun _ _ _ _ _ _ us hl => match us, hl with | [_, _], _ => rfl), g_law_same := PySem.W.mg_of X G a_law_same,
    a_law_led := _, d_law_led := _, F_law_led := F_law_led, b_law_led := F_law_led.binds (ps := ["_law_size", "_law_first", "_law_second"]) (fun _ _ _ _ _ _ us hl => match us, hl with | [_, _, _], _ => rfl), g_law_led := PySem.W.mg_of X G a_law_led,
    a_law_pair := _, d_law_pair := _, F_law_pair := F_law_pair, b_law_pair := F_law_pair.binds (ps := ["_law_state"]) (fun _ _ _ _ _ _ us hl => match us, hl with | [_], _ => rfl), g_law_pair := PySem.W.mg_of X G a_law_pair,
    a_law := _, d_law := _, F_law := F_law, b_law := F_law.binds (ps := ["_law_script"]) (fun _ _ _ _ _ _ us hl => match us, hl with | [_], _ => rfl), g_law := PySem.W.mg_of X G a_law,
    c_BadSplice := C_BadSplice, ai_BadSplice := fi_BadSplice, d_BadSplice := _, F_BadSplice := F_BadSplice, b_BadSplice := F_BadSplice.binds (ps := ["self", "at"]) (fun _ _ _ _ _ _ us hl => match us, hl with | [_, _], _ => rfl), g_BadSplice := PySem.W.mg_of X G aC_BadSplice,
    o_BadSplice := ⟨⟨_, _, _, _, _, _, _, _, _, _, _, _, _, _, _, xL_BadSplice, rfl⟩, sa_BadSplice, eC_BadSplice, tC_BadSplice, kC_BadSplice⟩, x_BadSplice := ⟨ga_BadSplice, gg_BadSplice, eC_BadSplice, hC_BadSplice⟩,
    i_BadSplice := iC_BadSplice, ti_BadSplice := ti_BadSplice, e_BadSplice := exm_self eC_BadSplice yC_BadSplice tC_BadSplice sC_BadSplice,
    na_BadSplice_at := na_BadSplice_at,
    t_ALPHABET := tk_ALPHABET, g_ALPHABET := PySem.W.mg_of X G v_ALPHABET,
    n_bool := PySem.W.mg_none_of X G z_bool,
    n_enumerate := PySem.W.mg_none_of X G z_enumerate,
    n_int := PySem.W.mg_none_of X G z_int,
    n_isinstance := PySem.W.mg_none_of X G z_isinstance,
    n_len := PySem.W.mg_none_of X G z_len,
    n_max := PySem.W.mg_none_of X G z_max,
    n_min := PySem.W.mg_none_of X G z_min,
    n_range := PySem.W.mg_none_of X G z_range,
    n_reversed := PySem.W.mg_none_of X G z_reversed,
    n_str := PySem.W.mg_none_of X G z_str,
    n_tuple := PySem.W.mg_none_of X G z_tuple }
  exact ⟨PySem.W.fnOf "law" "law" (defArgs s_law) (defBody s_law) (defScope s_law) .none kV_law dc_law pm_law an_law cd_law ct_law, fun s v => .of_eq rfl, fun base _ _ => ok_law T⟩
end K16
open PySem PySem.W PyProof.Rows
set_option maxHeartbeats 0 in
theorem PySem.Challenge.cw_deedstand_k16_whole_places_led_holds : PySem.Challenge.rw_deedstand_k16_whole_places_led.Holds := by
  w_on; o_law; k_head; (case hw => w_witness2)
  k_fill
  refine L2.walk_of (l := PySem.Challenge.rw_deedstand_k16_whole_places_led) (n := 63) (k := 33) (x := "_law_script") (CX := fun _ => L2.CX0) (sp := fun w => K16.sp_law _) rfl (by decide) rfl ⟨rfl, by decide, by decide⟩ (fun w h Y => PySem.W.kIn_of Y) ?F (fun _ _ a ns hl _ hS => ⟨a, ns, rfl, hS, hl, fun _ => rfl⟩) (fun _ _ _ _ _ h => h)
  case F =>
    intro w mg fa h KX G hmg
    refine' K16.all_mk KX G hmg ?a_first_strange ?l_first_strange ?c_first_strange ?k_first_strange ?a_is_text ?l_is_text ?c_is_text ?k_is_text ?a_is_number ?l_is_number ?c_is_number ?k_is_number ?a_is_splice ?l_is_splice ?c_is_splice ?k_is_splice ?a_follows ?l_follows ?c_follows ?k_follows ?a_check_round ?l_check_round ?c_check_round ?k_check_round ?a_spliced ?l_spliced ?c_spliced ?k_spliced ?a_moved_by ?l_moved_by ?c_moved_by ?k_moved_by ?a_moved_place ?l_moved_place ?c_moved_place ?k_moved_place ?a_led_past ?l_led_past ?c_led_past ?k_led_past ?a_law_start ?l_law_start ?c_law_start ?k_law_start ?a_law_draw ?l_law_draw ?c_law_draw ?k_law_draw ?a_law_word ?l_law_word ?c_law_word ?k_law_word ?a_law_round ?l_law_round ?c_law_round ?k_law_round ?a_law_ahead ?l_law_ahead ?c_law_ahead ?k_law_ahead ?a_law_place ?l_law_place ?c_law_place ?k_law_place ?a_law_born ?l_law_born ?c_law_born ?k_law_born ?a_law_is ?l_law_is ?c_law_is ?k_law_is ?a_law_anchors ?l_law_anchors ?c_law_anchors ?k_law_anchors ?a_law_rises ?l_law_rises ?c_law_rises ?k_law_rises ?a_law_whole ?l_law_whole ?c_law_whole ?k_law_whole ?a_law_far ?l_law_far ?c_law_far ?k_law_far ?a_law_same ?l_law_same ?c_law_same ?k_law_same ?a_law_led ?l_law_led ?c_law_led ?k_law_led ?a_law_pair ?l_law_pair ?c_law_pair ?k_law_pair ?a_law ?l_law ?c_law ?k_law ?aC_BadSplice ?xL_BadSplice ?sa_BadSplice ?ga_BadSplice ?gg_BadSplice ?na_BadSplice_at ?iC_BadSplice ?ti_BadSplice ?li_BadSplice ?ci_BadSplice ?ki_BadSplice ?kC_BadSplice ?eC_BadSplice ?tC_BadSplice ?hC_BadSplice ?yC_BadSplice ?sC_BadSplice ?v_ALPHABET ?z_bool ?z_enumerate ?z_int ?z_isinstance ?z_len ?z_max ?z_min ?z_range ?z_reversed ?z_str ?z_tuple
    (case a_first_strange => k_is)
    (case l_first_strange => k_is)
    (case c_first_strange => k_is)
    (case k_first_strange => k_is)
    (case a_is_text => k_is)
    (case l_is_text => k_is)
    (case c_is_text => k_is)
    (case k_is_text => k_is)
    (case a_is_number => k_is)
    (case l_is_number => k_is)
    (case c_is_number => k_is)
    (case k_is_number => k_is)
    (case a_is_splice => k_is)
    (case l_is_splice => k_is)
    (case c_is_splice => k_is)
    (case k_is_splice => k_is)
    (case a_follows => k_is)
    (case l_follows => k_is)
    (case c_follows => k_is)
    (case k_follows => k_is)
    (case a_check_round => k_is)
    (case l_check_round => k_is)
    (case c_check_round => k_is)
    (case k_check_round => k_is)
    (case a_spliced => k_is)
    (case l_spliced => k_is)
    (case c_spliced => k_is)
    (case k_spliced => k_is)
    (case a_moved_by => k_is)
    (case l_moved_by => k_is)
    (case c_moved_by => k_is)
    (case k_moved_by => k_is)
    (case a_moved_place => k_is)
    (case l_moved_place => k_is)
    (case c_moved_place => k_is)
    (case k_moved_place => k_is)
    (case a_led_past => k_is)
    (case l_led_past => k_is)
    (case c_led_past => k_is)
    (case k_led_past => k_is)
    (case a_law_start => k_is)
    (case l_law_start => k_is)
    (case c_law_start => k_is)
    (case k_law_start => k_is)
    (case a_law_draw => k_is)
    (case l_law_draw => k_is)
    (case c_law_draw => k_is)
    (case k_law_draw => k_is)
    (case a_law_word => k_is)
    (case l_law_word => k_is)
    (case c_law_word => k_is)
    (case k_law_word => k_is)
    (case a_law_round => k_is)
    (case l_law_round => k_is)
    (case c_law_round => k_is)
    (case k_law_round => k_is)
    (case a_law_ahead => k_is)
    (case l_law_ahead => k_is)
    (case c_law_ahead => k_is)
    (case k_law_ahead => k_is)
    (case a_law_place => k_is)
    (case l_law_place => k_is)
    (case c_law_place => k_is)
    (case k_law_place => k_is)
    (case a_law_born => k_is)
    (case l_law_born => k_is)
    (case c_law_born => k_is)
    (case k_law_born => k_is)
    (case a_law_is => k_is)
    (case l_law_is => k_is)
    (case c_law_is => k_is)
    (case k_law_is => k_is)
    (case a_law_anchors => k_is)
    (case l_law_anchors => k_is)
    (case c_law_anchors => k_is)
    (case k_law_anchors => k_is)
    (case a_law_rises => k_is)
    (case l_law_rises => k_is)
    (case c_law_rises => k_is)
    (case k_law_rises => k_is)
    (case a_law_whole => k_is)
    (case l_law_whole => k_is)
    (case c_law_whole => k_is)
    (case k_law_whole => k_is)
    (case a_law_far => k_is)
    (case l_law_far => k_is)
    (case c_law_far => k_is)
    (case k_law_far => k_is)
    (case a_law_same => k_is)
    (case l_law_same => k_is)
    (case c_law_same => k_is)
    (case k_law_same => k_is)
    (case a_law_led => k_is)
    (case l_law_led => k_is)
    (case c_law_led => k_is)
    (case k_law_led => k_is)
    (case a_law_pair => k_is)
    (case l_law_pair => k_is)
    (case c_law_pair => k_is)
    (case k_law_pair => k_is)
    (case a_law => k_is)
    (case l_law => k_is)
    (case c_law => k_is)
    (case k_law => k_is)
    (case aC_BadSplice => k_is)
    (case xL_BadSplice => k_is)
    (case sa_BadSplice => k_is)
    (case ga_BadSplice => k_is)
    (case gg_BadSplice => k_is)
    (case na_BadSplice_at => k_is)
    (case iC_BadSplice => k_is)
    (case ti_BadSplice => k_is)
    (case li_BadSplice => k_is)
    (case ci_BadSplice => k_is)
    (case ki_BadSplice => k_is)
    (case kC_BadSplice => k_is)
    (case eC_BadSplice => k_is)
    (case tC_BadSplice => k_is)
    (case hC_BadSplice => k_is)
    (case yC_BadSplice => k_is)
    (case sC_BadSplice => first | rfl | k_is)
    (case v_ALPHABET => k_is)
    (case z_bool => k_is)
    (case z_enumerate => k_is)
    (case z_int => k_is)
    (case z_isinstance => k_is)
    (case z_len => k_is)
    (case z_max => k_is)
    (case z_min => k_is)
    (case z_range => k_is)
    (case z_reversed => k_is)
    (case z_str => k_is)
    (case z_tuple => k_is)