import PyProof.Rows.All
import Wide.All
import OpenK.AllK
import Wide.FinOn
import HandS.ForMost
import HandS.Walk
import KE.GoesEnum
import HandS.Exc
import HandS.ExcOwn
import HandS.ExcInit
import HandS.ExcField
import HandS.TryOnly
import HandS.WordsExc
import HandS.IsInst
import HandS.Wide
import HandS.TupAny
import HandS.Flow
import HandS.Evl
import HandS.Deep
import HandS.Conv
import HandS.WideBits
import HandS.NoneIn
import KE.DataMinMax
import HandS.SortRule
import KE.SortData
import HandS.Zip
import HandS.Rev
import PyProof.StrBlock2
import KE.GoesZip
import KE.GoesMore
import KE.KRevSl
import HandS.Flt
import PySem.Challenge.RW_deedstand_k15_whole_least_and_back
set_option Elab.async false
set_option linter.all false
set_option maxRecDepth 100000
set_option maxHeartbeats 4000000
/-! enumerate over a tuple and over a text, one argument -/
namespace Dk
open PySem PySem.Spec PyProof.Rows L2
/-- the object that enumerate(v) makes -/
abbrev enObj (it : Addr) : Obj := { cls := .type "enumerate", data := .fields #[.none, .bool false, .ref it, rawInt 0, .none, .none] }
theorem enum_new1 {v : Value} {o : Obj} {G : Heap → Prop} (B : Begins v o G) :
    Meets (Builtin.«enumerate.__new__» ⟨[.type "enumerate", v], []⟩) fun _ R s =>
      G s.heap ∧ R (.ok (.ret (.ref (s.heap.push o).objs.size))) { s with heap := (s.heap.push o).push (enObj s.heap.objs.size) } := by
  refine .of_wp fun prog w A R s hh => ?_
  rcases s with ⟨hp, gs, dr, tk, os⟩
  obtain ⟨hG, hR⟩ := hh
  have hs := sub_enumerate
  have go : ∀ {A' : Around} {E : Value → Shared → Prop} {Q : Value → Shared → Prop},
      Q (.ref hp.objs.size) ⟨hp.push o, gs, dr, tk, os⟩ → wpAny (model prog w) A' (pyIter v) Q E ⟨hp, gs, dr, tk, os⟩ :=
    fun q => B.iter prog w _ _ ⟨hp, gs, dr, tk, os⟩ _ hG q
  wp_walk using go
  refine wpAny_stack_any fun st => ?_
  refine wpAny_pure ?_
  split
  · rename_i c _ _ _ _ _
    cases (c == Value.type "enumerate") <;> (wp_walk using go; exact ⟨_, rfl, hR⟩)
  · wp_walk using go
    exact ⟨_, rfl, hR⟩
section
variable {prog : Program} {w : World} {A : Around} {E : Value → Shared → Prop} {s : Shared}
theorem enum_call1 {v : Value} {o : Obj} {G : Heap → Prop} {Q : Value → Shared → Prop} (B : Begins v o G) (hG : G s.heap)
    (q : ∀ h', IsEnum h' (s.heap.objs.size + 1) s.heap.objs.size 0 .none → h'.get? s.heap.objs.size = some o →
      (∀ b u, s.heap.get? b = some u → h'.get? b = some u) → Q (.ref (s.heap.objs.size + 1)) { s with heap := h' }) :
    wpAny (model prog w) A (call (.type "enumerate") [v]) Q E s := by
  have sz : (s.heap.push o).objs.size = s.heap.objs.size + 1 := Heap.size_push ..
  have he : IsEnum ((s.heap.push o).push (enObj s.heap.objs.size)) (s.heap.objs.size + 1) s.heap.objs.size 0 .none := by
    have z := Heap.get?_push_size (s.heap.push o) (o := enObj s.heap.objs.size) rfl
    rw [sz] at z
    exact z
  refine callType_new F.called_enumerate (by decide) (F.typeCall_enumerate_1 _) (F.newCall_enumerate_1 _)
    (fun obj => F.args_object_init_2 obj _) F.entry_enumerate_new (enum_new1 B) ⟨hG, ?_⟩
  show _ ∧ _
  rw [sz]
  exact ⟨⟨_, he, rfl⟩, q _ he (Heap.get?_push_of_some _ (Heap.get?_push_size _ B.free))
    fun b u z => Heap.get?_push_of_some _ (Heap.get?_push_of_some _ z)⟩
end
/-- a new pair of the turn's number and f i -/
def ItE (G : Hp → Prop) (n : Nat) (Y : Nat → Hp → V → Prop) : It :=
  ⟨fun i H => G H ∧ i < n, fun i H v H' => ∃ T x, v = .ref T ∧ H T = none ∧ H' = upd H T (.tup [.int (i : Nat), x]) ∧ Y i H x, fun i H => G H ∧ i = n⟩
/-- what the source's own iterator does while the heap is so -/
structure Src (P : Program) (w : World) (K : PySem.W.Frag) (it : Addr) (G : Hp → Prop) (n : Nat) (Y : Nat → Hp → V → Prop) (Tn : Nat → Heap → Prop) : Prop where
  live : ∀ i h, Tn i h → ∃ o, h.get? it = some o ∧ ∀ v, o.data ≠ .cell v
  keep : ∀ i h h', Tn i h → (∀ o, h.get? it = some o → h'.get? it = some o) → Tn i h'
  draw : ∀ (X : Cx), X.prog = P → X.w = w → X.K = K → ∀ (pins : List (Addr × Obj)) (σ : L2.St) (H : Hp) (s : Shared) (i : Nat), Inv X pins σ H s → H it = none → G H → Tn i s.heap → X.A.handled = none →
    ∃ (fp : List Addr) (Pv : Nat → Value → Prop) (St' : Nat → Heap → Prop), Draws P w X.A.in1 it fp n Pv St' ∧ St' i s.heap ∧ (∀ e, H e = none → (∃ old j, IsEnum s.heap e it j old) → e ∉ fp) ∧
      (∀ j u, Pv j u → ∃ x, RelV x u ∧ Y j H x) ∧ ∀ j h, St' j h → Tn j h
theorem turn_E {P : Program} {w : World} {K : PySem.W.Frag} {elts : List Expr} {kk : Nat} {tpos : Pos} {e it : Addr} {G : Hp → Prop} {n : Nat} {Y : Nat → Hp → V → Prop} {Tn : Nat → Heap → Prop} (S : Src P w K it G n Y Tn) :
    Turn P w K (.Tuple elts kk tpos) (ItE G n Y) [e, it] e (fun i h => (∃ old, IsEnum h e it ((i : Nat) : Int) old) ∧ Tn i h ∧ e ≠ it) where
  mem := List.mem_cons_self ..
  obj := fun i h st b hb => by
    obtain ⟨⟨old, he⟩, hs, _⟩ := st
    rcases List.mem_cons.mp hb with z | z
    · subst z
      exact ⟨_, he, fun v q => nomatch q⟩
    · have z' := List.mem_singleton.mp z
      subst z'
      exact S.live i h hs
  keep := fun i h h' st k =>
    ⟨⟨st.1.choose, k e (List.mem_cons_self ..) _ st.1.choose_spec⟩, S.keep i h h' st.2.1 fun o q => k it (List.mem_cons_of_mem _ (List.mem_singleton.mpr rfl)) o q, st.2.2⟩
  item := by
    intro X hP hw hK hc i pins s σ H E I hf st hg
    obtain ⟨⟨old, he⟩, hs, hne⟩ := st
    have fe := hf e (by simp)
    have fi := hf it (by simp)
    obtain ⟨fp, Pv, St', D, hs', hef, hy, back⟩ := S.draw X hP hw hK pins σ H s i I fi.1 hg.1 hs (I.ok.hd hc)
    subst hP hw hK
    have hel : e < s.heap.objs.size := Heap.lt_size he
    obtain ⟨oi, hoi, _⟩ := S.live i _ hs
    have hil : it < s.heap.objs.size := Heap.lt_size hoi
    refine wpAny_pyNext_enum_itemC D he hs' hg.2 hne (hef e fe.1 ⟨_, _, he⟩) fun u h' tk hu ho hst hT hsz hk => ?_
    refine ⟨_, rfl, wpAny_letOwnedTupleGo_enum (s := { s with heap := h', toks := tk + 1 }) ho fun h2 he2 sb => ?_⟩
    obtain ⟨x, rx, yx⟩ := hy i u hu
    have hT2 : h2.get? s.heap.objs.size = some { cls := .type "tuple", data := .seq #[.int i tk, u] } := (sb.2 _ (Nat.ne_of_gt hel)).trans hT
    have new : ObjOk X.prog X.w (upd H s.heap.objs.size (.tup [.int (i : Nat), x])) h2 s.heap.objs.size (.tup [.int (i : Nat), x]) :=
      ⟨by show 2 ≤ sizeLine; decide, [.int i tk, u], .cons ⟨_, rfl⟩ (.cons rx .nil), _, hT2, rfl, _, rfl⟩
    have I1 : Inv X pins σ (upd H s.heap.objs.size (.tup [.int (i : Nat), x])) { s with heap := h2, toks := tk + 1 } := by
      refine I.turnedNew (ch := [e, it]) (fun b o hb q => ?_) hf (Nat.le_refl _) new
      have n1 : b ≠ e := fun z => hb (by simp [z])
      have n2 : b ≠ it := fun z => hb (by simp [z])
      exact (sb.2 b n1).trans (hk b o n1 n2 q)
    refine ⟨.ref s.heap.objs.size, _, I1, rfl, ⟨_, x, rfl, I.hok.fresh (Nat.le_refl _), rfl, yx⟩, ⟨⟨u, ?_⟩, ?_, hne⟩, fun b hb => ?_⟩
    · have e1 : ((i + 1 : Nat) : Int) = (i : Int) + 1 := by omega
      rw [e1]
      exact he2
    · exact S.keep _ _ _ (back _ _ hst) fun o q => (sb.2 it (Ne.symm hne)).trans q
    · have hb' : b < s.heap.objs.size := by
        rcases List.mem_cons.mp hb with z | z
        · exact z ▸ hel
        · exact (List.mem_singleton.mp z) ▸ hil
      rw [upd_ne (Nat.ne_of_lt hb')]
      exact (hf b hb).1
  done := by
    intro X hP hw hK hc i pins s σ H E I hf st hg
    obtain ⟨⟨old, he⟩, hs, hne⟩ := st
    obtain ⟨f0, f1, f2, f3, f4, f5⟩ := hf it (by simp)
    obtain ⟨fp, Pv, St', D, hs', hef, hy, back⟩ := S.draw X hP hw hK pins σ H s i I f0 hg.1 hs (I.ok.hd hc)
    subst hP hw hK
    rw [hg.2] at hs'
    exact wpAny_pyNext_enum_endD D he hs' fun h' eb => ⟨rfl, I.turned (t' := s.toks) (fun b o hb q => eb b o hb q) f0 f1 f3 f4 f5⟩
  self := fun A i s Q E st h => wpAny_pyIter_enum st.1.choose_spec h
theorem src_tup {P : Program} {w : World} {K : PySem.W.Frag} {a it : Addr} {xs : List V} :
    Src P w K it (fun H => SqT K H a xs) xs.length (fun i _ x => xs[i]? = some x) (fun i h => h.IsTupleIter it a i) where
  live := fun i h st => by
    obtain ⟨o, e, c, d⟩ := st
    exact ⟨o, e, fun v z => by rw [d] at z; cases z⟩
  keep := fun i h h' st k => st.at fun o e => k o e
  draw := by
    intro X hP hw hK pins σ H s i I hn hG st hh
    subst hP hw hK
    obtain ⟨its, rv, p, hz⟩ := I.tuple hG
    have pt : s.heap.IsTuple a its.toArray := p
    have hne : a ≠ it := by
      rintro rfl
      obtain ⟨o, e, c, _⟩ := pt
      obtain ⟨o', e', c', _⟩ := id st
      rw [e] at e'
      cases e'
      rw [c] at c'
      injection c' with q
      exact absurd q (by decide)
    have hl := rv.length
    refine ⟨[it, a], fun i v => its.toArray[i]? = some v, fun i h => h.IsTupleIter it a i ∧ h.IsTuple a its.toArray, ?_, ⟨st, pt⟩, fun e he hq => ?_, fun j u hu => ?_, fun j h z => z.1⟩
    · have D := Draws.tuple (prog := X.prog) (w := X.w) (A := X.A.in1) hh it a hne its.toArray
      rw [show its.toArray.size = xs.length by simp; omega] at D
      exact D
    · obtain ⟨old, j, hq⟩ := hq
      intro hm
      rcases List.mem_cons.mp hm with z | z
      · subst z
        obtain ⟨o, e', c, _⟩ := id st
        have hq' : s.heap.get? e = _ := hq
        rw [e'] at hq'
        cases hq'
        injection c with q
        exact absurd q (by decide)
      · have z' := List.mem_singleton.mp z
        subst z'
        obtain ⟨o, e', c, _⟩ := pt
        have hq' : s.heap.get? e = _ := hq
        rw [e'] at hq'
        cases hq'
        injection c with q
        exact absurd q (by decide)
    · have hu' : its[j]? = some u := by simpa using hu
      have hj : j < its.length := (List.getElem?_eq_some_iff.mp hu').1
      have hx : xs[j]? = some (xs[j]'(by omega)) := List.getElem?_eq_getElem (by omega)
      obtain ⟨u', h1, h2⟩ := rv.get hx
      rw [hu'] at h1
      cases h1
      exact ⟨_, h2, hx⟩
theorem src_str {P : Program} {w : World} {K : PySem.W.Frag} {it : Addr} {z : Str} {t : Tok} :
    Src P w K it (fun _ => True) z.cps.size (fun i _ x => ∃ c, z.cps[i]? = some c ∧ x = .str ⟨#[c]⟩) (fun i h => h.IsStrIter it (strIterType z) z t i) where
  live := fun i h st => by
    obtain ⟨o, e, c, d⟩ := st
    exact ⟨o, e, fun v z => by rw [d] at z; cases z⟩
  keep := fun i h h' st k => by
    obtain ⟨o, e, r⟩ := st
    exact ⟨o, k o e, r⟩
  draw := by
    intro X hP hw hK pins σ H s i I hn hG st hh
    subst hP hw hK
    refine ⟨[it], _, _, Draws.text (prog := X.prog) (w := X.w) (A := X.A.in1) hh it z t, st, fun e he hq hm => ?_, fun j u hu => ?_, fun j h z => z⟩
    · obtain ⟨old, j, hq⟩ := hq
      have z' := List.mem_singleton.mp hm
      subst z'
      obtain ⟨o, e', c, _⟩ := id st
      have hq' : s.heap.get? e = _ := hq
      rw [e'] at hq'
      cases hq'
      have c' : strIterType z = "enumerate" := by injection c with q; exact q.symm
      unfold strIterType at c'
      split at c' <;> exact absurd c' (by decide)
    · obtain ⟨c, u', h1, h2⟩ := hu
      exact ⟨.str ⟨#[c]⟩, ⟨u', h2⟩, c, h1, rfl⟩
def iEnumT (K : PySem.W.Frag) (ta : TA) : TI := fun σ H R => ta σ H fun vs H1 => ∃ a xs, vs = [.ref a] ∧ SqT K H1 a xs ∧ R (ItE (fun H => SqT K H a xs) xs.length fun i _ x => xs[i]? = some x) H1
def iEnumS (ta : TA) : TI := fun σ H R => ta σ H fun vs H1 => ∃ z, vs = [.str z] ∧ R (ItE (fun _ => True) z.cps.size fun i _ x => ∃ c, z.cps[i]? = some c ∧ x = .str ⟨#[c]⟩) H1
section
variable {X : Cx} {e : Expr} {ta : TA} {p pos tpos : Pos} {elts : List Expr} {kk : Nat}
theorem pi_enumT (hg : Gl X "enumerate") (hm : X.mg "enumerate" = none) (ha : PA X [e] ta) (hs : starEach [e] X.env = [(false, eval e X.env)] := by rfl) :
    PI X (.Tuple elts kk tpos) (.Call (.Name "enumerate" p) [e] [] pos) (iEnumT X.K ta) := by
  refine ⟨fun pins s σ H R I h => Call_ (ld_blt I hg hm boot_enumerate (PyProof.Rows.callWith_type1 (thn (ha.run pos pins s σ H _ I h) fun us s1 hh => ?_) hs rfl))⟩
  obtain ⟨vs, H1, I1, r1, a, xs, rfl, hq, q⟩ := hh
  obtain ⟨u, rfl, rx⟩ := vals1 r1
  cases rx
  obtain ⟨its, rv, pt, hz⟩ := I1.tuple hq
  refine enum_call1 (begins_tuple a its.toArray) pt fun h' he hit hk => wpAny_pyIter_enum he ?_
  have I2 : Inv X pins σ H1 { s1 with heap := h' } := I1.kept (t' := s1.toks) hk
  refine ⟨s1.heap.objs.size + 1, [s1.heap.objs.size + 1, s1.heap.objs.size], _, _, H1, rfl, I2, turn_E src_tup, ⟨⟨.none, he⟩, ⟨_, hit, rfl, rfl⟩, Nat.succ_ne_self _⟩, fun b hb => ?_, q⟩
  have hle : s1.heap.objs.size ≤ b := by
    rcases List.mem_cons.mp hb with z | z
    · exact z ▸ Nat.le_add_right _ _
    · exact (List.mem_singleton.mp z) ▸ Nat.le_refl _
  exact I1.fpOk hle (I1.hok.fresh hle)
theorem pi_enumS (hg : Gl X "enumerate") (hm : X.mg "enumerate" = none) (ha : PA X [e] ta) (hs : starEach [e] X.env = [(false, eval e X.env)] := by rfl) :
    PI X (.Tuple elts kk tpos) (.Call (.Name "enumerate" p) [e] [] pos) (iEnumS ta) := by
  refine ⟨fun pins s σ H R I h => Call_ (ld_blt I hg hm boot_enumerate (PyProof.Rows.callWith_type1 (thn (ha.run pos pins s σ H _ I h) fun us s1 hh => ?_) hs rfl))⟩
  obtain ⟨vs, H1, I1, r1, z, rfl, q⟩ := hh
  obtain ⟨u, rfl, rx⟩ := vals1 r1
  obtain ⟨t, rfl⟩ := rx
  refine enum_call1 (begins_text z t) trivial fun h' he hit hk => wpAny_pyIter_enum he ?_
  have I2 : Inv X pins σ H1 { s1 with heap := h' } := I1.kept (t' := s1.toks) hk
  refine ⟨s1.heap.objs.size + 1, [s1.heap.objs.size + 1, s1.heap.objs.size], _, _, H1, rfl, I2, turn_E src_str, ⟨⟨.none, he⟩, ⟨_, hit, rfl, rfl⟩, Nat.succ_ne_self _⟩, fun b hb => ?_, q⟩
  have hle : s1.heap.objs.size ≤ b := by
    rcases List.mem_cons.mp hb with z | z
    · exact z ▸ Nat.le_add_right _ _
    · exact (List.mem_singleton.mp z) ▸ Nat.le_refl _
  exact I1.fpOk hle (I1.hok.fresh hle)
end
end Dk
/-! the layer: what grows, steps of readings -/
namespace Dk
open PySem PySem.Spec PyProof.Rows L2

/-! ### what is known grows -/
abbrev A0 : Addr → Prop := fun _ => False
abbrev Ex := Same
/-- G: what is known for good; H: the heap; A: what may change -/
structure Gr (A : Addr → Prop) (G H G' H' : Hp) : Prop where
  gg : Ex G G'
  gh : Ex G' H'
  hh : ∀ b o, ¬ A b → H b = some o → H' b = some o
  th : ∀ b o, H b = some o → ∃ o', H' b = some o'
  nw : ∀ b o, H b = some o → G b = none → G' b = none
section
variable {A : Addr → Prop} {G H G1 H1 G2 H2 : Hp} {p q m : Addr} {o o' u : HO}
theorem Gr.refl (g : Ex G H) : Gr A G H G H := ⟨Same.refl G, g, fun _ _ _ h => h, fun _ o h => ⟨o, h⟩, fun _ _ _ h => h⟩
theorem Gr.trans (a : Gr A G H G1 H1) (b : Gr A G1 H1 G2 H2) : Gr A G H G2 H2 :=
  ⟨a.gg.trans b.gg, b.gh, fun x o n h => b.hh x o n (a.hh x o n h), fun x o h => by
    obtain ⟨o1, h1⟩ := a.th x o h
    exact b.th x o1 h1, fun x o h n => by
    obtain ⟨o1, h1⟩ := a.th x o h
    exact b.nw x o1 h1 (a.nw x o h n)⟩
theorem Gr.wide {B : Addr → Prop} (a : Gr A G H G1 H1) (h : ∀ x, A x → B x) : Gr B G H G1 H1 :=
  ⟨a.gg, a.gh, fun x o n => a.hh x o fun z => n (h x z), a.th, a.nw⟩
theorem Gr.of0 (a : Gr A0 G H G1 H1) : Gr A G H G1 H1 := a.wide fun _ z => z.elim
theorem Gr.same (a : Gr A0 G H G1 H1) : Ex H H1 := fun b o h => a.hh b o (fun z => z) h
/-- a new object, known for good -/
theorem Gr.new (g : Ex G H) (hp : H p = none) : Gr A G H (upd G p o) (upd H p o) where
  gg := fun b x e => by
    rw [upd_ne (ne_of_none e (g.free hp))]
    exact e
  gh := fun b x e => by
    by_cases hb : b = p
    · subst hb
      rw [upd_same] at e ⊢
      exact e
    · rw [upd_ne hb] at e ⊢
      exact g b x e
  hh := fun b x _ e => by
    rw [upd_ne (ne_of_none e hp)]
    exact e
  th := fun b x e => ⟨x, by
    rw [upd_ne (ne_of_none e hp)]
    exact e⟩
  nw := fun b x e n => by
    rw [upd_ne (ne_of_none e hp)]
    exact n
/-- a new object of our own -/
theorem Gr.own (g : Ex G H) (hp : H p = none) : Gr A G H G (upd H p o) where
  gg := Same.refl G
  gh := fun b x e => by
    rw [upd_ne (ne_of_none e (g.free hp))]
    exact g b x e
  hh := fun b x _ e => by
    rw [upd_ne (ne_of_none e hp)]
    exact e
  th := fun b x e => ⟨x, by
    rw [upd_ne (ne_of_none e hp)]
    exact e⟩
  nw := fun b x e n => n
/-- an object of our own is written -/
theorem Gr.mut (t : Gr A G H G1 H1) (h0 : A p ∨ H p = none) (hp : G1 p = none) : Gr A G H G1 (upd H1 p o) where
  gg := t.gg
  gh := fun b x e => by
    rw [upd_ne (ne_of_none e hp)]
    exact t.gh b x e
  hh := fun b x n e => by
    have hb : b ≠ p := fun z => by
      subst z
      rcases h0 with h0 | h0
      · exact n h0
      · rw [h0] at e
        cases e
    rw [upd_ne hb]
    exact t.hh b x n e
  th := fun b x e => by
    by_cases hb : b = p
    · exact ⟨o, by rw [hb, upd_same]⟩
    · rw [upd_ne hb]
      exact t.th b x e
  nw := t.nw
/-- an object of our own is known for good from here on -/
theorem Gr.give (t : Gr A G H G1 H1) (h0 : H p = none) (hp : H1 p = some o) (hn : G1 p = none) : Gr A G H (upd G1 p o) H1 where
  gg := fun b x e => by
    have z := t.gg b x e
    rw [upd_ne (ne_of_none z hn)]
    exact z
  gh := fun b x e => by
    by_cases hb : b = p
    · subst hb
      rw [upd_same] at e
      cases e
      exact hp
    · rw [upd_ne hb] at e
      exact t.gh b x e
  hh := t.hh
  th := t.th
  nw := fun b x e n => by
    have hb : b ≠ p := ne_of_none e h0
    rw [upd_ne hb]
    exact t.nw b x e n
theorem Gr.g0 (t : Gr A G H G1 H1) : Ex G H1 := t.gg.trans t.gh
theorem ne_g (h : G p = some o) (n : G q = none) : p ≠ q := ne_of_none h n
end

/-! ### what is read at an address -/
theorem SqL.up {K : PySem.W.Frag} {G G' : Hp} {a : Addr} {xs : List V} (e : Ex G G') (h : SqL K G a xs) : SqL K G' a xs := e.seq h
theorem SqT.up {K : PySem.W.Frag} {G G' : Hp} {a : Addr} {xs : List V} (e : Ex G G') (h : SqT K G a xs) : SqT K G' a xs := by
  rcases h with (h | ⟨o, h⟩) | h
  · exact .inl (.inl (e _ _ h))
  · exact .inl (.inr ⟨o, e _ _ h⟩)
  · exact .inr h
theorem sqL {K : PySem.W.Frag} {H : Hp} {a : Addr} {xs : List V} (h : H a = some (.lst xs)) : SqL K H a xs := .inl (.inl h)
theorem sqT {K : PySem.W.Frag} {H : Hp} {a : Addr} {xs : List V} (h : H a = some (.tup xs)) : SqT K H a xs := .inl (.inl h)

/-! ### unions of rules -/
def rStr2 : R2 := fun x y H Q => ∃ i j, x = .str i ∧ y = .str j ∧ i.length + j.length ≤ sizeLine ∧ Q (.str (i ++ j)) H
def rAddU (K : PySem.W.Frag) : R2 := fun x y H Q => rI0 (fun i j => .int (i + j)) x y H Q ∨ (rStr2 x y H Q ∨ (rCat x y H Q ∨ rCatA K x y H Q))
def rInS1 : R2 := fun x y H Q => ∃ (c : Nat) (z : Str), x = .str ⟨#[c]⟩ ∧ y = .str z ∧ Q (.bl (decide (c ∈ z.cps.toList))) H
def rNotInS1 : R2 := fun x y H Q => ∃ (c : Nat) (z : Str), x = .str ⟨#[c]⟩ ∧ y = .str z ∧ Q (.bl (!decide (c ∈ z.cps.toList))) H
def rInU (K : PySem.W.Frag) : R2 := fun x y H Q => rInS1 x y H Q ∨ rIn K false x y H Q
def rNotInU (K : PySem.W.Frag) : R2 := fun x y H Q => rNotInS1 x y H Q ∨ rIn K true x y H Q
def rEqU (K : PySem.W.Frag) : R2 := fun x y H Q => rEq x y H Q ∨ rEqD K x y H Q
def rNeU (K : PySem.W.Frag) : R2 := fun x y H Q => rNe x y H Q ∨ rNeD K x y H Q
def rSlU (K : PySem.W.Frag) : V → Option Int → Option Int → Hp → VK → Prop := fun x lo hi H Q => rSlS x lo hi H Q ∨ (rSlL K x lo hi H Q ∨ rSlA K x lo hi H Q)
def rLenU (K : PySem.W.Frag) : List V → Hp → VK → Prop := fun xs H Q => ∃ x n, xs = [x] ∧ LenV K x H n ∧ Q (.int (n : Nat)) H
def rInt1 : List V → Hp → VK → Prop := fun xs H Q => (∃ i, xs = [.int i] ∧ Q (.int i) H) ∨ ∃ k, xs = [.bl k] ∧ Q (.int (if k then 1 else 0)) H
def rMax : List V → Hp → VK → Prop := fun xs H Q => ∃ i j, xs = [.int i, .int j] ∧ Q (.int (if j > i then j else i)) H
def rMin : List V → Hp → VK → Prop := fun xs H Q => ∃ i j, xs = [.int i, .int j] ∧ Q (.int (if j < i then j else i)) H
def rListU (K : PySem.W.Frag) : List V → Hp → VK → Prop := fun xs H Q => ∃ p ys, xs = [.ref p] ∧ (SqL K H p ys ∨ SqT K H p ys) ∧ ∀ l, H l = none → Q (.ref l) (upd H l (.lst ys))
def rTupU (K : PySem.W.Frag) : List V → Hp → VK → Prop := fun xs H Q => ∃ p ys, xs = [.ref p] ∧ ((SqL K H p ys ∧ ∀ l, H l = none → Q (.ref l) (upd H l (.tup ys))) ∨ (SqT K H p ys ∧ Q (.ref p) H))
def rJoin (K : PySem.W.Frag) : V → List V → Hp → VK → Prop := fun x xs H Q => ∃ a p, ∃ ys : List Str, x = .str a ∧ xs = [.ref p] ∧ (SqL K H p (ys.map V.str) ∨ SqT K H p (ys.map V.str)) ∧
  (ys.map (·.length)).sum + ys.length * a.length ≤ 16777216 ∧ Q (.str (Txt.join a ys)) H
def rIsN1 : R2 := fun x y H Q => y = .non ∧ Q (.bl (decide (x = .non))) H
def rNotN1 : R2 := fun x y H Q => y = .non ∧ Q (.bl (!decide (x = .non))) H
def rDivW : R2 := rI CDivW fun i j => .int (i / j)
def rModP : R2 := rI (fun _ j => 0 < j) fun i j => .int (i % j)
def rMulW : R2 := rI CMulW fun i j => .int (i * j)
section
variable {X : Cx}
theorem op_addU : OpR X (binaryOp .Add) (rAddU X.K) := op_add.or (op_add_str.or (op_cat.or op_catA))
theorem op_inU : OpR X (compareOp .In) (rInU X.K) := op_in_sign.or op_in_seq
theorem op_notInU : OpR X (compareOp .NotIn) (rNotInU X.K) := op_notIn_sign.or op_notIn_seq
theorem op_eqU (hu : X.A.units + 64 < cLine) : OpR X (compareOp .Eq) (rEqU X.K) := op_eq.or (op_eqD hu)
theorem op_neU (hu : X.A.units + 64 < cLine) : OpR X (compareOp .NotEq) (rNeU X.K) := op_ne.or (op_neD hu)
theorem sl_U : SlR X (rSlU X.K) := sl_str.or (sl_list.or sl_tupA)
theorem call_lenU : CallR X (.builtin "len") (rLenU X.K) := call_len
theorem call_intU : CallR X (.type "int") rInt1 := call_int1
theorem call_maxU (hc : X.calm = true) : CallR X (.builtin "max") rMax := call_max2 hc
theorem call_minU (hc : X.calm = true) : CallR X (.builtin "min") rMin := call_min2 hc
theorem call_listU : CallR X (.type "list") (rListU X.K) := call_list_of
theorem call_tupU : CallR X (.type "tuple") (rTupU X.K) := call_tuple_of
theorem op_isU : OpR X (compareOp .Is) rIsN1 := op_isN
theorem op_isnotU : OpR X (compareOp .IsNot) rNotN1 := op_notN
theorem op_divW : OpR X (binaryOp .FloorDiv) rDivW := op_fdivW
theorem op_modP : OpR X (binaryOp .Mod) rModP := op_mod
theorem op_mulWW : OpR X (binaryOp .Mult) rMulW := op_mulW
end

/-! within a comprehension -/
section
variable {X : Cx} {K : PySem.W.Frag}
theorem k_add (h : X.K = K) : OpR X (binaryOp .Add) (rAddU K) := h ▸ op_addU
theorem k_in (h : X.K = K) : OpR X (compareOp .In) (rInU K) := h ▸ op_inU
theorem k_notIn (h : X.K = K) : OpR X (compareOp .NotIn) (rNotInU K) := h ▸ op_notInU
theorem k_ix (h : X.K = K) : IxR X (rIx K) := h ▸ ix_seq
theorem k_sl (h : X.K = K) : SlR X (rSlU K) := h ▸ sl_U
theorem k_len (h : X.K = K) : CallR X (.builtin "len") (rLenU K) := h ▸ call_lenU
theorem k_list (h : X.K = K) : CallR X (.type "list") (rListU K) := h ▸ call_listU
theorem k_tup (h : X.K = K) : CallR X (.type "tuple") (rTupU K) := h ▸ call_tupU
theorem k_isi (h : X.K = K) : CallR X (.builtin "isinstance") (rIsi K) := h ▸ call_isi
end
/-! ### steps -/
section
variable {K : PySem.W.Frag} {σ : L2.St} {H H' : Hp} {Q : VK} {v x y : V} {ta tb te : TE} {i j : Int} {D : Ends} {t u : TS} {tt tu : TT} {QB : Bool → Hp → Prop} {ar : TA} {QL : List V → Hp → Prop}
theorem r_var {n : Nat} (h : σ[n]? = some (some v)) (q : Q v H) : tVar n σ H Q := ⟨v, h, q⟩
theorem r_c (q : Q v H) : tC v σ H Q := q
theorem r_op {r : R2} (h : ta σ H fun x H1 => tb σ H1 fun y H2 => r x y H2 Q) : tOp r ta tb σ H Q := h
theorem r_un {r : V → Hp → VK → Prop} (h : ta σ H fun x H1 => r x H1 Q) : tUn r ta σ H Q := h
theorem r_I0 {g : Int → Int → V} (q : Q (g i j) H) : rI0 g (.int i) (.int j) H Q := ⟨i, j, rfl, rfl, q⟩
theorem r_I {C : Int → Int → Prop} {g : Int → Int → V} (c : C i j) (q : Q (g i j) H) : rI C g (.int i) (.int j) H Q := ⟨i, j, rfl, rfl, c, q⟩
theorem r_mulW (c : CMulW i j) (q : Q (.int (i * j)) H) : rMulW (.int i) (.int j) H Q := ⟨i, j, rfl, rfl, c, q⟩
theorem r_divW (c : CDivW i j) (q : Q (.int (i / j)) H) : rDivW (.int i) (.int j) H Q := ⟨i, j, rfl, rfl, c, q⟩
theorem r_modP (c : 0 < j) (q : Q (.int (i % j)) H) : rModP (.int i) (.int j) H Q := ⟨i, j, rfl, rfl, c, q⟩
theorem r_U {g : Int → V} (q : Q (g i) H) : rU g (.int i) H Q := ⟨i, rfl, q⟩
theorem r_addI (q : Q (.int (i + j)) H) : rAddU K (.int i) (.int j) H Q := .inl ⟨i, j, rfl, rfl, q⟩
theorem r_addS {a b : Str} (h : a.length + b.length ≤ sizeLine) (q : Q (.str (a ++ b)) H) : rAddU K (.str a) (.str b) H Q := .inr (.inl ⟨a, b, rfl, rfl, h, q⟩)
theorem r_addL {p q : Addr} {xs ys : List V} (hp : H p = some (.lst xs)) (hq : H q = some (.lst ys)) (hz : xs.length + ys.length ≤ sizeLine) (k : ∀ l, H l = none → Q (.ref l) (upd H l (.lst (xs ++ ys)))) : rAddU K (.ref p) (.ref q) H Q :=
  .inr (.inr (.inl ⟨p, q, xs, ys, rfl, rfl, hp, hq, hz, k⟩))
theorem r_sub (q : Q (.int (i - j)) H) : rI0 (fun i j => .int (i - j)) (.int i) (.int j) H Q := ⟨i, j, rfl, rfl, q⟩
theorem r_inS {c : Nat} {z : Str} (q : Q (.bl (decide (c ∈ z.cps.toList))) H) : rInU K (.str ⟨#[c]⟩) (.str z) H Q := .inl ⟨c, z, rfl, rfl, q⟩
theorem r_niS {c : Nat} {z : Str} (q : Q (.bl (!decide (c ∈ z.cps.toList))) H) : rNotInU K (.str ⟨#[c]⟩) (.str z) H Q := .inl ⟨c, z, rfl, rfl, q⟩
theorem r_eq (h : scal x y = true) (q : Q (.bl (decide (x = y))) H) : rEqU K x y H Q := .inl ⟨h, q⟩
theorem r_ne (h : scal x y = true) (q : Q (.bl (!decide (x = y))) H) : rNeU K x y H Q := .inl ⟨h, q⟩
theorem r_isN (q : Q (.bl (decide (x = .non))) H) : rIsN1 x .non H Q := ⟨rfl, q⟩
theorem r_notN (q : Q (.bl (!decide (x = .non))) H) : rNotN1 x .non H Q := ⟨rfl, q⟩
theorem r_ixL {p : Addr} {xs : List V} (h : SqL K H p xs) (a : atI xs i = some v) (q : Q v H) : rIx K (.ref p) (.int i) H Q := .inl ⟨p, xs, i, v, rfl, rfl, h, a, q⟩
theorem r_ixT {p : Addr} {xs : List V} (h : SqT K H p xs) (a : atI xs i = some v) (q : Q v H) : rIx K (.ref p) (.int i) H Q := .inr (.inl ⟨p, xs, i, v, rfl, rfl, h, a, q⟩)
theorem r_ixS {z : Str} {c : Nat} (h : z.length ≤ sizeLine) (a : atI z.cps.toList i = some c) (q : Q (.str ⟨#[c]⟩) H) : rIx K (.str z) (.int i) H Q := .inr (.inr ⟨z, i, c, rfl, rfl, h, a, q⟩)
theorem r_slS {z : Str} {lo hi : Option Int} (h : z.length ≤ sizeLine) (q : Q (.str (cutS z lo hi)) H) : rSlU K (.str z) lo hi H Q := .inl ⟨z, rfl, h, q⟩
theorem r_slL {p : Addr} {xs : List V} {lo hi : Option Int} (h : SqL K H p xs) (q : ∀ l, H l = none → Q (.ref l) (upd H l (.lst (cutV xs lo hi)))) : rSlU K (.ref p) lo hi H Q := .inr (.inl ⟨p, xs, rfl, h, q⟩)
theorem r_lenS {z : Str} (h : z.length ≤ sizeLine) (q : Q (.int (z.length : Nat)) H) : rLenU K [.str z] H Q := ⟨_, _, rfl, ⟨h, rfl⟩, q⟩
theorem r_lenL {p : Addr} {xs : List V} (h : SqL K H p xs) (q : Q (.int (xs.length : Nat)) H) : rLenU K [.ref p] H Q := ⟨_, _, rfl, .inl ⟨xs, h, rfl⟩, q⟩
theorem r_lenT {p : Addr} {xs : List V} (h : SqT K H p xs) (q : Q (.int (xs.length : Nat)) H) : rLenU K [.ref p] H Q := ⟨_, _, rfl, .inr ⟨xs, h, rfl⟩, q⟩
theorem r_int (q : Q (.int i) H) : rInt1 [.int i] H Q := .inl ⟨i, rfl, q⟩
theorem r_max (q : Q (.int (max i j)) H) : rMax [.int i, .int j] H Q := ⟨i, j, rfl, by
  have e : (if j > i then j else i) = max i j := by omega
  rw [e]
  exact q⟩
theorem r_min (q : Q (.int (min i j)) H) : rMin [.int i, .int j] H Q := ⟨i, j, rfl, by
  have e : (if j < i then j else i) = min i j := by omega
  rw [e]
  exact q⟩
theorem r_listL {p : Addr} {xs : List V} (h : SqL K H p xs) (q : ∀ l, H l = none → Q (.ref l) (upd H l (.lst xs))) : rListU K [.ref p] H Q := ⟨p, xs, rfl, .inl h, q⟩
theorem r_listT {p : Addr} {xs : List V} (h : SqT K H p xs) (q : ∀ l, H l = none → Q (.ref l) (upd H l (.lst xs))) : rListU K [.ref p] H Q := ⟨p, xs, rfl, .inr h, q⟩
theorem r_tupL {p : Addr} {xs : List V} (h : SqL K H p xs) (q : ∀ l, H l = none → Q (.ref l) (upd H l (.tup xs))) : rTupU K [.ref p] H Q := ⟨p, xs, rfl, .inl ⟨h, q⟩⟩
theorem r_tupT {p : Addr} {xs : List V} (h : SqT K H p xs) (q : Q (.ref p) H) : rTupU K [.ref p] H Q := ⟨p, xs, rfl, .inr ⟨h, q⟩⟩
theorem r_isi {n a : String} {b : Bool} (ty : TyX K H x (.type a)) (e : kitB a n = some b) (q : Q (.bl b) H) : rIsi K [x, .ty n] H Q := ⟨x, .ty n, .type a, .type n, b, rfl, .ty n, ty, kit_ty e, q⟩
theorem r_nil (q : QL [] H) : tNil σ H QL := q
theorem r_cons (h : ta σ H fun x H1 => ar σ H1 fun xs H2 => QL (x :: xs) H2) : tCons ta ar σ H QL := h
theorem r_tup (h : ar σ H fun xs H1 => xs.length ≤ sizeLine ∧ ∀ p, H1 p = none → Q (.ref p) (upd H1 p (.tup xs))) : tTup ar σ H Q := h
theorem r_lst (h : ar σ H fun xs H1 => xs.length ≤ sizeLine ∧ ∀ p, H1 p = none → Q (.ref p) (upd H1 p (.lst xs))) : tLst ar σ H Q := h
theorem r_small {xs : List V} {P : Prop} (h : xs.length ≤ 1000) (k : P) : xs.length ≤ sizeLine ∧ P := ⟨Nat.le_of_lt (small1000 h), k⟩
theorem r_CB {r : List V → Hp → VK → Prop} (h : ar σ H fun vs H1 => r vs H1 Q) : tCB r ar σ H Q := h
theorem r_call {sp : Sp} {dvs : List V} {E : XK} (h : ar σ H fun vs H1 => sp (vs ++ dvs) H1 Q E) : tCall sp dvs E ar σ H Q := h
theorem r_callS {sp : Sp} {E : L2.St → XK} (h : ar σ H fun vs H1 => sp vs H1 Q (E σ)) : tCallS sp E ar σ H Q := h
theorem r_bl {b : Bool} (q : QB b H) : ∃ k, V.bl b = .bl k ∧ QB k H := ⟨b, rfl, q⟩
theorem r_test (h : te σ H fun x H1 => ∃ k, x = .bl k ∧ QB k H1) : tTest te σ H QB := h
theorem r_B (h : te σ H fun x H1 => ∃ k, x = .bl k ∧ QB k H1) : tB te σ H QB := h
theorem r_and (h : tt σ H fun c H1 => if c = true then tu σ H1 QB else QB false H1) : tAnd tt tu σ H QB := h
theorem r_andB {b1 b2 : Bool} (h1 : ∀ QB : Bool → Hp → Prop, QB b1 H → tt σ H QB) (h2 : b1 = true → ∀ QB : Bool → Hp → Prop, QB b2 H → tu σ H QB) (k : QB (b1 && b2) H) : tAnd tt tu σ H QB := by
  refine h1 _ ?_
  cases b1 with
  | true => exact h2 rfl _ k
  | false => exact k
theorem r_orB {b1 b2 : Bool} (h1 : ∀ QB : Bool → Hp → Prop, QB b1 H → tt σ H QB) (h2 : b1 = false → ∀ QB : Bool → Hp → Prop, QB b2 H → tu σ H QB) (k : QB (b1 || b2) H) : tOr tt tu σ H QB := by
  refine h1 _ ?_
  cases b1 with
  | true => exact k
  | false => exact h2 rfl _ k
theorem r_or (h : tt σ H fun c H1 => if c = true then QB true H1 else tu σ H1 QB) : tOr tt tu σ H QB := h
theorem r_not (h : tt σ H fun c H1 => QB (!c) H1) : tNot tt σ H QB := h
theorem r_andV (h : ta σ H fun x H1 => ∃ c, x = .bl c ∧ if c = true then tb σ H1 Q else Q (.bl false) H1) : tAndV ta tb σ H Q := h
theorem r_orV (h : ta σ H fun x H1 => ∃ c, x = .bl c ∧ if c = true then Q (.bl true) H1 else tb σ H1 Q) : tOrV ta tb σ H Q := h
theorem r_notV (h : ta σ H fun x H1 => ∃ c, x = .bl c ∧ Q (.bl (!c)) H1) : tNotV ta σ H Q := h
theorem r_ifE (h : tt σ H fun c H1 => if c = true then ta σ H1 Q else tb σ H1 Q) : tIf tt ta tb σ H Q := h
theorem r_blv {b : Bool} {P : Bool → Prop} (q : P b) : ∃ c, V.bl b = .bl c ∧ P c := ⟨b, rfl, q⟩
theorem r_sl {r : V → Option Int → Option Int → Hp → VK → Prop} {tl th : TO} (h : te σ H fun x H1 => tl σ H1 fun l H2 => th σ H2 fun u H3 => r x l u H3 Q) : tSl r te tl th σ H Q := h
theorem r_seq (h : t { D with nx := u D } σ H) : tSeq t u D σ H := h
theorem r_next (q : D.nx σ H) : tNext D σ H := q
theorem r_asg {g : TG} (h : te σ H fun x H1 => g x σ H1 D.nx) : tAsg te g D σ H := h
theorem r_gname {n : Nat} {N : L2.St → Hp → Prop} (q : N (σ.set n (some v)) H) : gName n v σ H N := q
theorem r_ret (h : te σ H D.rt) : tRet te D σ H := h
theorem r_retN (h : D.rt .non H) : tRetN D σ H := h
theorem r_drop (h : te σ H fun _ H1 => D.nx σ H1) : tDrop te D σ H := h
theorem r_ifS (h : tt σ H fun b H1 => if b = true then t D σ H1 else u D σ H1) : tIfS tt t u D σ H := h
theorem r_app {p : Addr} {xs : List V} (h : H p = some (.lst xs)) (z : xs.length < sizeLine) (q : Q .non (upd H p (.lst (xs ++ [v])))) : rAppend (.ref p) [v] H Q := ⟨p, xs, v, rfl, rfl, h, z, q⟩
theorem r_bm {T : String} {r : V → List V → Hp → VK → Prop} (h : te σ H fun x H1 => tyV K T x H1 ∧ ar σ H1 fun xs H2 => r x xs H2 Q) : tBM K T r te ar σ H Q := h
theorem r_tyL {p : Addr} {xs : List V} {P : Prop} (h : SqL K H p xs) (k : P) : tyV K "list" (.ref p) H ∧ P := ⟨.inl ⟨rfl, xs, h⟩, k⟩
theorem r_setL {p : Addr} {xs : List V} {n : Nat} {N : Hp → Prop} (h : H p = some (.lst xs)) (a : ixN xs.length i = some n) (q : N (upd H p (.lst (xs.set n v)))) : rSetL (.ref p) (.int i) v H N := ⟨p, xs, i, n, rfl, rfl, h, a, q⟩
theorem r_gsub {ti : TE} {to : TE} {ts : TSet} {N : L2.St → Hp → Prop} (h : to σ H fun o H1 => ti σ H1 fun i H2 => ts o i v H2 fun H3 => N σ H3) : gSub to ti ts v σ H N := h
theorem r_ite {c A B : Prop} [Decidable c] (h1 : c → A) (h2 : ¬ c → B) : if decide c = true then A else B := by
  by_cases h : c
  · rw [if_pos (decide_eq_true h)]
    exact h1 h
  · rw [if_neg (by rw [decide_eq_false h]; decide)]
    exact h2 h
theorem r_iteN {c A B : Prop} [Decidable c] (h1 : ¬ c → A) (h2 : c → B) : if (!decide c) = true then A else B := by
  by_cases h : c
  · rw [if_neg (by rw [decide_eq_true h]; decide)]
    exact h2 h
  · rw [if_pos (by rw [decide_eq_false h]; rfl)]
    exact h1 h
theorem r_iteB {b : Bool} {A B : Prop} (h1 : b = true → A) (h2 : b = false → B) : if b = true then A else B := by
  cases b with
  | true => exact h1 rfl
  | false => exact h2 rfl
theorem r_itt {A B : Prop} (h : A) : if true = true then A else B := by
  rw [if_pos rfl]
  exact h
theorem r_iff {A B : Prop} (h : B) : if false = true then A else B := by
  rw [if_neg Bool.false_ne_true]
  exact h
theorem r_ittD {b : Bool} {A B : Prop} (e : b = true) (h : A) : if b = true then A else B := by
  rw [if_pos e]
  exact h
theorem r_iffD {b : Bool} {A B : Prop} (e : b = false) (h : B) : if b = true then A else B := by
  rw [e]
  exact r_iff h
theorem r_ittN {A B : Prop} (h : A) : if (!false) = true then A else B := r_itt h
theorem r_iffN {A B : Prop} (h : B) : if (!true) = true then A else B := r_iff h
end

/-! ### growth, further -/
section
variable {A : Addr → Prop} {G H G1 H1 G2 H2 : Hp} {p q m : Addr} {o o' u : HO} {K : PySem.W.Frag} {xs : List V} {Q : VK}
theorem Gr.ex (g : Ex G H) (e : Ex H H1) : Gr A G H G H1 := ⟨Same.refl G, g.trans e, fun b o _ h => e b o h, fun b o h => ⟨o, e b o h⟩, fun _ _ _ n => n⟩
/-- a step of one that leaves everything as it was -/
theorem Gr.then (t : Gr A G H G1 H1) (e : Ex H1 H2) : Gr A G H G1 H2 := t.trans (.ex t.gh e)
theorem Gr.none_of (t : Gr A G H G1 H1) (h : H p = some o) (n : G p = none) : G1 p = none := t.nw p o h n
/-- a new tuple, known for good -/
theorem a_tup (g : Ex G H) (hl : xs.length ≤ 1000) (k : ∀ p G' H', Gr A0 G H G' H' → G' p = some (.tup xs) → H p = none → Q (.ref p) H') :
    xs.length ≤ sizeLine ∧ ∀ p, H p = none → Q (.ref p) (upd H p (.tup xs)) :=
  ⟨Nat.le_of_lt (small1000 hl), fun p hp => k p _ _ (Gr.new g hp) upd_same hp⟩
theorem a_lst (g : Ex G H) (hl : xs.length ≤ 1000) (k : ∀ p G' H', Gr A0 G H G' H' → G' p = some (.lst xs) → H p = none → Q (.ref p) H') :
    xs.length ≤ sizeLine ∧ ∀ p, H p = none → Q (.ref p) (upd H p (.lst xs)) :=
  ⟨Nat.le_of_lt (small1000 hl), fun p hp => k p _ _ (Gr.new g hp) upd_same hp⟩
/-- a new list of our own -/
theorem a_own (g : Ex G H) (hl : xs.length ≤ 1000) (k : ∀ p H', Gr A0 G H G H' → H' p = some (.lst xs) → H p = none → G p = none → Q (.ref p) H') :
    xs.length ≤ sizeLine ∧ ∀ p, H p = none → Q (.ref p) (upd H p (.lst xs)) :=
  ⟨Nat.le_of_lt (small1000 hl), fun p hp => k p _ (Gr.own g hp) upd_same hp (g.free hp)⟩
theorem n_tup (g : Ex G H) (k : ∀ p G' H', Gr A0 G H G' H' → G' p = some (.tup xs) → H p = none → Q (.ref p) H') :
    ∀ p, H p = none → Q (.ref p) (upd H p (.tup xs)) := fun p hp => k p _ _ (Gr.new g hp) upd_same hp
theorem n_lst (g : Ex G H) (k : ∀ p G' H', Gr A0 G H G' H' → G' p = some (.lst xs) → H p = none → Q (.ref p) H') :
    ∀ p, H p = none → Q (.ref p) (upd H p (.lst xs)) := fun p hp => k p _ _ (Gr.new g hp) upd_same hp
theorem n_own (g : Ex G H) (k : ∀ p H', Gr A0 G H G H' → H' p = some (.lst xs) → H p = none → G p = none → Q (.ref p) H') :
    ∀ p, H p = none → Q (.ref p) (upd H p (.lst xs)) := fun p hp => k p _ (Gr.own g hp) upd_same hp (g.free hp)
end
/-! ### raising a class of one field -/
section
variable {K : PySem.W.Frag} {σ : L2.St} {H : Hp} {C : Addr} {f : Str} {v : V} {W : XK}
/-- the promise of its __init__ -/
def spInit1 (C : Addr) (f : Str) : Sp := fun vs H Q _ => ∃ (a : Addr) (v : V), vs = [.ref a, v] ∧ H a = some (exo a C none) ∧
  ∀ dx, H dx = none → dx ≠ a → Q .non (upd (upd H dx (exd dx [(f, v)])) a (exo a C (some dx)))
theorem r_raise1 (q : ∀ d, H d = none → W (.ref C) (some d) (upd H d (.xd [(f, v)]))) :
    ([v] : List V).length ≤ 1000 ∧ ∀ a, H a = none → spInit1 C f (.ref a :: ([v] ++ [])) (upd H a (exo a C none))
      (fun v H2 => v = .non ∧ ∃ (d : Addr) (fs : List (Str × V)), H2 a = some (exo a C (some d)) ∧ H2 d = some (exd d fs) ∧ H d = none ∧ W (.ref C) (some d) (upd (del H2 a) d (.xd fs))) (fun _ _ _ => False) := by
  refine ⟨by show 1 ≤ 1000; decide, fun a ha => ⟨a, v, rfl, upd_same, fun dx hdx hne => ⟨rfl, dx, [(f, v)], upd_same, ?_, ?_, ?_⟩⟩⟩
  · rw [upd_ne hne]
    exact upd_same
  · rw [upd_ne hne] at hdx
    exact hdx
  · rw [upd_ne hne] at hdx
    have e : upd (del (upd (upd (upd H a (exo a C none)) dx (exd dx [(f, v)])) a (exo a C (some dx))) a) dx (.xd [(f, v)]) = upd H dx (.xd [(f, v)]) := by
      funext b
      by_cases h1 : b = dx
      · rw [h1, upd_same, upd_same]
      · rw [upd_ne h1, upd_ne h1]
        by_cases h2 : b = a
        · rw [h2, del_same, ha]
        · rw [del_ne h2, upd_ne h2, upd_ne h1, upd_ne h2]
    rw [e]
    exact q dx hdx
end
theorem Same.mut {H H' : Hp} {p : Addr} {o : HO} (e : Ex H H') (h : H p = none) : Ex H (upd H' p o) := fun a u ha => by
  rw [upd_ne (ne_of_none ha h)]
  exact e a u ha
theorem Same.new {H H' : Hp} {p : Addr} {o : HO} (e : Ex H H') (h : H' p = none) : Ex H (upd H' p o) := fun a u ha => by
  rw [upd_ne (ne_of_none (e a u ha) h)]
  exact e a u ha
/-! ### texts by their codes -/
abbrev cs (z : Str) : List Nat := z.cps.toList
theorem cs_ext {a b : Str} (h : cs a = cs b) : a = b := by
  cases a
  cases b
  exact congrArg Str.mk (Array.toList_inj.mp h)
theorem cs_len (z : Str) : (cs z).length = z.length := Array.length_toList
theorem cs_app (a b : Str) : cs (a ++ b) = cs a ++ cs b := Array.toList_append
theorem cs_join : ∀ ys : List Str, cs (Txt.join "" ys) = (ys.map cs).flatten := fun ys => by
  rw [TL.join_eq]
  induction ys with
  | nil => rfl
  | cons y r ih =>
    cases r with
    | nil => simp [PySem.Str.join, cs]
    | cons x r' =>
      have e : PySem.Str.join "" (y :: x :: r') = y ++ "" ++ PySem.Str.join "" (x :: r') := rfl
      rw [e, cs_app, cs_app, ih]
      have e0 : cs ("" : Str) = [] := by decide
      rw [e0, List.append_nil]
      rfl
theorem cut_list (l : List Nat) (a b : Nat) : (l.drop (min a l.length)).take (min b l.length - min a l.length) = (l.drop a).take (b - a) := by
  by_cases h : a ≤ l.length
  · rw [Nat.min_eq_left h]
    by_cases hb : b ≤ l.length
    · rw [Nat.min_eq_left hb]
    · have hb' : l.length ≤ b := by omega
      rw [Nat.min_eq_right hb', List.take_of_length_le (by rw [List.length_drop]; omega), List.take_of_length_le (by rw [List.length_drop]; omega)]
  · have ha' : l.length ≤ a := by omega
    rw [Nat.min_eq_right ha', List.drop_of_length_le (Nat.le_refl _), List.drop_of_length_le ha', List.take_nil, List.take_nil]
theorem cs_cut (z : Str) (a b : Nat) : cs (cutS z (some (a : Int)) (some (b : Int))) = ((cs z).drop a).take (b - a) := by
  show ((z.cps.toList.drop (HT.sIx z.length 0 (some (a : Int)))).take (HT.sIx z.length z.length (some (b : Int)) - HT.sIx z.length 0 (some (a : Int)))) = _
  rw [HT.sIx_nat, HT.sIx_nat, ← cs_len z]
  exact cut_list _ a b
theorem cs_from (z : Str) (a : Nat) : cs (cutS z (some (a : Int)) none) = (cs z).drop a := by
  show ((z.cps.toList.drop (HT.sIx z.length 0 (some (a : Int)))).take (HT.sIx z.length z.length none - HT.sIx z.length 0 (some (a : Int)))) = _
  rw [HT.sIx_nat, HT.sIx_none, ← cs_len z]
  have h := cut_list (cs z) a (cs z).length
  rw [Nat.min_self] at h
  rw [h, List.take_of_length_le (by rw [List.length_drop]; omega)]
theorem cs_to (z : Str) (b : Nat) : cs (cutS z none (some (b : Int))) = (cs z).take b := by
  show ((z.cps.toList.drop (HT.sIx z.length 0 none)).take (HT.sIx z.length z.length (some (b : Int)) - HT.sIx z.length 0 none)) = _
  rw [HT.sIx_nat, HT.sIx_none, ← cs_len z]
  have h := cut_list (cs z) 0 b
  rw [Nat.zero_min] at h
  exact h
theorem cut_len (z : Str) (lo hi : Option Int) : (cutS z lo hi).length ≤ z.length := cutS_length z lo hi
theorem int_nat {i : Int} (h : 0 ≤ i) : i = ((i.toNat : Nat) : Int) := by omega
theorem at_g {α : Type} {xs : List α} {z : Int} {j : Nat} {v : α} (e : z = (j : Int)) (h : xs[j]? = some v) : atI xs z = some v := by
  rw [e]
  exact atI_nat h
theorem sum_ones {α : Type} : ∀ l : List α, (l.map fun _ => 1).sum = l.length
  | [] => rfl
  | _ :: r => by rw [List.map_cons, List.sum_cons, sum_ones r, List.length_cons, Nat.add_comm]
theorem nsz {xs : List V} (h : Nat.ble xs.length 1000 = true := by rfl) : xs.length ≤ 1000 := Nat.le_of_ble_eq_true h
/-! ### loops -/
section
variable {K : PySem.W.Frag} {σ : L2.St} {H : Hp} {tl : TE} {ta : TA} {g : TG} {tb : TS} {D : Ends}
theorem r_forT (h : tl σ H fun x H1 => ∃ (a : Addr) (xs : List V), x = .ref a ∧ SqT K H1 a xs ∧ ∃ Pv : Nat → L2.St → Hp → Prop, Pv 0 σ H1 ∧ (∀ i σ H, Pv i σ H → SqT K H a xs) ∧
    (∀ i x σ H, xs[i]? = some x → Pv i σ H → g x σ H fun σ2 H2 => tb { D with nx := Pv (i + 1), ct := Pv (i + 1), bk := D.nx } σ2 H2) ∧ ∀ σ H, Pv xs.length σ H → D.nx σ H)
    (mono : ∀ Q Q' : VK, (∀ v H, Q v H → Q' v H) → tl σ H Q → tl σ H Q') : tFor (iTup K tl) g tb D σ H := by
  refine mono _ _ (fun v H1 hh => ?_) h
  obtain ⟨a, xs, rfl, hs, Pv, p0, hl, ht, hd⟩ := hh
  exact ⟨a, rfl, ⟨xs, hs⟩, for_it walk_tup Pv p0 (fun i σ H _ p => hl i σ H p) (fun i x σ H H' hi p y => by
    obtain ⟨rfl, hx⟩ := y
    exact ht i x σ _ hx p) hd⟩
theorem r_forL (h : tl σ H fun x H1 => ∃ (a : Addr) (xs : List V), x = .ref a ∧ SqL K H1 a xs ∧ ∃ Pv : Nat → L2.St → Hp → Prop, Pv 0 σ H1 ∧ (∀ i σ H, Pv i σ H → SqL K H a xs) ∧
    (∀ i x σ H, xs[i]? = some x → Pv i σ H → g x σ H fun σ2 H2 => tb { D with nx := Pv (i + 1), ct := Pv (i + 1), bk := D.nx } σ2 H2) ∧ ∀ σ H, Pv xs.length σ H → D.nx σ H)
    (mono : ∀ Q Q' : VK, (∀ v H, Q v H → Q' v H) → tl σ H Q → tl σ H Q') : tFor (iList K tl) g tb D σ H := by
  refine mono _ _ (fun v H1 hh => ?_) h
  obtain ⟨a, xs, rfl, hs, Pv, p0, hl, ht, hd⟩ := hh
  exact ⟨a, rfl, ⟨xs, hs⟩, for_it walk_list Pv p0 (fun i σ H _ p => hl i σ H p) (fun i x σ H H' hi p y => by
    obtain ⟨rfl, hx⟩ := y
    exact ht i x σ _ hx p) hd⟩
theorem m_var {n : Nat} : ∀ Q Q' : VK, (∀ v H, Q v H → Q' v H) → tVar n σ H Q → tVar n σ H Q' := fun Q Q' h t => by
  obtain ⟨v, e, q⟩ := t
  exact ⟨v, e, h v _ q⟩
/-- over a name's list, tuple, text -/
theorem r_forTv {n : Nat} {a : Addr} {xs : List V} (e : σ[n]? = some (some (.ref a))) (hs : SqT K H a xs) (Pv : Nat → L2.St → Hp → Prop) (p0 : Pv 0 σ H) (hl : ∀ i σ H, Pv i σ H → SqT K H a xs)
    (ht : ∀ i x σ H, xs[i]? = some x → Pv i σ H → g x σ H fun σ2 H2 => tb { D with nx := Pv (i + 1), ct := Pv (i + 1), bk := D.nx } σ2 H2) (hd : ∀ σ H, Pv xs.length σ H → D.nx σ H) : tFor (iTup K (tVar n)) g tb D σ H :=
  r_forT ⟨_, e, a, xs, rfl, hs, Pv, p0, hl, ht, hd⟩ m_var
theorem r_forLv {n : Nat} {a : Addr} {xs : List V} (e : σ[n]? = some (some (.ref a))) (hs : SqL K H a xs) (Pv : Nat → L2.St → Hp → Prop) (p0 : Pv 0 σ H) (hl : ∀ i σ H, Pv i σ H → SqL K H a xs)
    (ht : ∀ i x σ H, xs[i]? = some x → Pv i σ H → g x σ H fun σ2 H2 => tb { D with nx := Pv (i + 1), ct := Pv (i + 1), bk := D.nx } σ2 H2) (hd : ∀ σ H, Pv xs.length σ H → D.nx σ H) : tFor (iList K (tVar n)) g tb D σ H :=
  r_forL ⟨_, e, a, xs, rfl, hs, Pv, p0, hl, ht, hd⟩ m_var
theorem r_forSv {n : Nat} {z : Str} (e : σ[n]? = some (some (.str z))) (Pv : Nat → L2.St → Hp → Prop) (p0 : Pv 0 σ H)
    (ht : ∀ i c σ H, (cs z)[i]? = some c → Pv i σ H → g (.str ⟨#[c]⟩) σ H fun σ2 H2 => tb { D with nx := Pv (i + 1), ct := Pv (i + 1), bk := D.nx } σ2 H2) (hd : ∀ σ H, Pv z.length σ H → D.nx σ H) : tFor (iStr (tVar n)) g tb D σ H := by
  refine ⟨_, e, z, rfl, for_it walk_str Pv p0 (fun _ _ _ _ _ => trivial) (fun i x σ H H' hi p y => ?_) hd⟩
  obtain ⟨rfl, c, hc, rfl⟩ := y
  exact ht i c σ _ (by rw [Array.getElem?_toList]; exact hc) p
theorem walk_E {G : Hp → Prop} {n : Nat} {Y : Nat → Hp → V → Prop} : Walk (ItE G n Y) n G (fun i H v H' => ∃ T x, v = .ref T ∧ H T = none ∧ H' = upd H T (.tup [.int (i : Nat), x]) ∧ Y i H x) :=
  ⟨fun i H hi g => ⟨g, hi⟩, fun H g => ⟨g, rfl⟩, fun i H x H' hi g y => y⟩
theorem r_forETv {n : Nat} {a : Addr} {xs : List V} (e : σ[n]? = some (some (.ref a))) (hs : SqT K H a xs) (Pv : Nat → L2.St → Hp → Prop) (p0 : Pv 0 σ H) (hl : ∀ i σ H, Pv i σ H → SqT K H a xs)
    (ht : ∀ i x σ H p, xs[i]? = some x → Pv i σ H → H p = none → g (.ref p) σ (upd H p (.tup [.int (i : Nat), x])) fun σ2 H2 => tb { D with nx := Pv (i + 1), ct := Pv (i + 1), bk := D.nx } σ2 H2)
    (hd : ∀ σ H, Pv xs.length σ H → D.nx σ H) : tFor (Dk.iEnumT K (tCons (tVar n) tNil)) g tb D σ H := by
  refine ⟨_, e, a, xs, rfl, hs, for_it walk_E Pv p0 (fun i σ H _ p => hl i σ H p) (fun i x σ H H' hi p y => ?_) hd⟩
  obtain ⟨T, x', rfl, hT, rfl, hx⟩ := y
  exact ht i x' σ H T hx p hT
theorem r_forESv {n : Nat} {z : Str} (e : σ[n]? = some (some (.str z))) (Pv : Nat → L2.St → Hp → Prop) (p0 : Pv 0 σ H)
    (ht : ∀ i c σ H p, (cs z)[i]? = some c → Pv i σ H → H p = none → g (.ref p) σ (upd H p (.tup [.int (i : Nat), .str ⟨#[c]⟩])) fun σ2 H2 => tb { D with nx := Pv (i + 1), ct := Pv (i + 1), bk := D.nx } σ2 H2)
    (hd : ∀ σ H, Pv z.length σ H → D.nx σ H) : tFor (Dk.iEnumS (tCons (tVar n) tNil)) g tb D σ H := by
  refine ⟨_, e, z, rfl, for_it walk_E Pv p0 (fun _ _ _ _ _ => trivial) (fun i x σ H H' hi p y => ?_) hd⟩
  obtain ⟨T, x', rfl, hT, rfl, c, hc, rfl⟩ := y
  exact ht i c σ H T (by rw [Array.getElem?_toList]; exact hc) p hT
/-- over range(n) -/
theorem r_forR1 (h : ta σ H fun vs H1 => ∃ n : Int, vs = [.int n] ∧ -1000000 ≤ n ∧ n ≤ 1000000 ∧ ∃ Pv : Nat → L2.St → Hp → Prop, Pv 0 σ H1 ∧
    (∀ (i : Nat) σ H, (i : Int) < n → Pv i σ H → g (.int (i : Nat)) σ H fun σ2 H2 => tb { D with nx := Pv (i + 1), ct := Pv (i + 1), bk := D.nx } σ2 H2) ∧ ∀ σ H, Pv n.toNat σ H → D.nx σ H)
    (mono : ∀ Q Q' : List V → Hp → Prop, (∀ v H, Q v H → Q' v H) → ta σ H Q → ta σ H Q') : tFor (iRng1 ta) g tb D σ H := by
  refine mono _ _ (fun v H1 hh => ?_) h
  obtain ⟨n, rfl, h1, h2, Pv, p0, ht, hd⟩ := hh
  refine ⟨n, rfl, by omega, by omega, for_range Pv p0 (fun i σ H hi p => ?_) hd⟩
  have z := ht i σ H (by omega) p
  rw [Int.zero_add]
  exact z
end
section
variable {K : PySem.W.Frag} {σ : L2.St} {H : Hp} {N : L2.St → Hp → Prop} {v : V} {vs : List V} {t : TG} {u : TGs}
theorem r_gtup {n : Nat} {a : Addr} (h : SqT K H a vs) (hl : vs.length = n) (k : u vs σ H N) : gTup K n u (.ref a) σ H N := ⟨a, vs, rfl, h, hl, k⟩
theorem r_gcons (k : t v σ H fun σ' H' => u vs σ' H' N) : gCons t u (v :: vs) σ H N := ⟨v, vs, rfl, k⟩
theorem r_gnil (k : N σ H) : gNil [] σ H N := ⟨rfl, k⟩
theorem r_mkO {C : Addr} {sp : Sp} {dvs : List V} {ta : TA} {Q : XK} (h : ta σ H fun vs H1 => vs.length ≤ 1000 ∧ ∀ a, H1 a = none → sp (.ref a :: (vs ++ dvs)) (upd H1 a (exo a C none))
  (fun v H2 => v = .non ∧ ∃ (d : Addr) (fs : List (Str × V)), H2 a = some (exo a C (some d)) ∧ H2 d = some (exd d fs) ∧ H1 d = none ∧ Q (.ref C) (some d) (upd (del H2 a) d (.xd fs))) (fun _ _ _ => False)) : tMkO C sp dvs ta σ H Q := h
theorem r_xfo {a C : Addr} {cls : Value} {d : Option Addr} {f : Str} {te : TE} {Q : VK} (h : te σ H fun x H1 => x = .ref a ∧ cls = .ref C ∧ ∃ (dd : Addr) (fs : List (Str × V)) (v : V), d = some dd ∧ H1 dd = some (.xd fs) ∧ fs.lookup f = some v ∧ Q v H1) : tXf a cls d C f te σ H Q := h
theorem r_noP {QO : Option Int → Hp → Prop} (q : QO none H) : tNoPart σ H QO := q
theorem r_part {te : TE} {QO : Option Int → Hp → Prop} (h : te σ H fun x H1 => ∃ i, x = .int i ∧ QO (some i) H1) : tPart te σ H QO := h
theorem r_pI {i : Int} {PO : Int → Prop} (q : PO i) : ∃ j, V.int i = .int j ∧ PO j := ⟨i, rfl, q⟩
end
/-! ### draws -/
def M61 : Int := 2305843009213693951
/-- the state of the draws stands at a -/
def Stt (H : Hp) (a : Addr) : Prop := ∃ z : Int, H a = some (.lst [.int z]) ∧ 0 ≤ z ∧ z < M61
theorem nat61 {z : Int} (h0 : 0 ≤ z) (h : z < M61) : z.natAbs < 2 ^ 61 := by
  unfold M61 at h
  have e : (2 : Nat) ^ 61 = 2305843009213693952 := by decide
  omega
/-- draws were made: the state at a turned, all else is as it was -/
structure Dr (a : Addr) (H H' : Hp) : Prop where
  hh : ∀ b o, b ≠ a → H b = some o → H' b = some o
  st : Stt H' a
section
variable {A : Addr → Prop} {a p : Addr} {G H G1 H1 H2 : Hp} {o : HO}
theorem Stt.up (s : Stt H a) (e : Ex H H1) : Stt H1 a := s.imp fun _ z => ⟨e _ _ z.1, z.2⟩
theorem Stt.ne (s : Stt H a) (h : H p = none) : p ≠ a := fun z => by
  obtain ⟨v, e, _⟩ := s
  rw [← z, h] at e
  cases e
theorem Stt.put (s : Stt H a) (h : p ≠ a) : Stt (upd H p o) a := s.imp fun _ z => ⟨by rw [upd_ne (Ne.symm h)]; exact z.1, z.2⟩
theorem Dr.refl (s : Stt H a) : Dr a H H := ⟨fun _ _ _ h => h, s⟩
theorem Dr.trans (x : Dr a H H1) (y : Dr a H1 H2) : Dr a H H2 := ⟨fun b o n h => y.hh b o n (x.hh b o n h), y.st⟩
theorem Dr.ex (s : Stt H a) (e : Ex H H1) : Dr a H H1 := ⟨fun b o _ h => e b o h, s.up e⟩
theorem Dr.then (x : Dr a H H1) (e : Ex H1 H2) : Dr a H H2 := x.trans (.ex x.st e)
theorem Dr.set {z : Int} (h0 : 0 ≤ z) (h : z < M61) : Dr a H (upd H a (.lst [.int z])) := ⟨fun b o n e => by rw [upd_ne n]; exact e, z, upd_same, h0, h⟩
theorem Dr.mut (x : Dr a H H1) (hp : H p = none) (ne : p ≠ a) : Dr a H (upd H1 p o) :=
  ⟨fun b u n e => by rw [upd_ne (ne_of_none e hp)]; exact x.hh b u n e, x.st.put ne⟩
theorem Dr.new (x : Dr a H H1) (hp : H1 p = none) : Dr a H (upd H1 p o) := x.then (Same.new (Same.refl H1) hp)
theorem Dr.gr (g : Ex G H) (n : G a = none) (s : Stt H a) (d : Dr a H H1) : Gr (· = a) G H G H1 where
  gg := Same.refl G
  gh := fun b x e => d.hh b x (ne_of_none e n) (g b x e)
  hh := fun b x z e => d.hh b x z e
  th := fun b x e => by
    by_cases h : b = a
    · obtain ⟨v, z, _⟩ := d.st
      exact ⟨_, by rw [h]; exact z⟩
    · exact ⟨x, d.hh b x h e⟩
  nw := fun b x e z => z
theorem Gr.na (t : Gr A G H G1 H1) (n : G a = none) (s : Stt H a) : G1 a = none := by
  obtain ⟨z, e, _⟩ := s
  exact t.nw a _ e n
theorem Gr.dr (t : Gr (· = a) G H G1 H1) (n : G a = none) (s : Stt H a) (s1 : Stt H1 a) (d : Dr a H1 H2) : Gr (· = a) G H G1 H2 :=
  t.trans (Dr.gr t.gh (t.na n s) s1 d)
end
/-! ### the laws' own draws -/
def AL : Str := "\n !\"#$&'()*+,-./0123456789:;<=>?@ABCDEFGHIJKLMNOPQRSTUVWXYZ[\\]^_`abcdefghijklmnopqrstuvwxyz{|}~"
def InAL (z : Str) : Prop := ∀ c ∈ cs z, c ∈ cs AL
theorem AL_len : AL.length = 95 := by decide +kernel
def spDraw : Sp := fun vs H Q _ => ∃ (a : Addr) (n : Int), vs = [.ref a, .int n] ∧ Stt H a ∧ 0 < n ∧ ∀ (d : Int) H', 0 ≤ d → d < n → Dr a H H' → Q (.int d) H'
def spStart (K : PySem.W.Frag) : Sp := fun vs H Q _ => ∃ (s : Addr) (ns : List Int), vs = [.ref s] ∧ SqL K H s (ns.map V.int) ∧ ∀ p H', Ex H H' → H p = none → Stt H' p → Q (.ref p) H'
def spSigns : Sp := fun vs H Q _ => vs = [] ∧ Q (.str AL) H
def spText : Sp := fun vs H Q _ => ∃ (a : Addr) (n : Int), vs = [.ref a, .int n] ∧ Stt H a ∧ 0 ≤ n ∧ n ≤ 8000 ∧ ∀ o H', Dr a H H' → (o.length : Int) = n → InAL o → Q (.str o) H'
theorem mix_next {z : Int} (e : Int) : 0 ≤ e % M61 ∧ e % M61 < M61 := ⟨Int.emod_nonneg _ (by decide), Int.emod_lt_of_pos _ (by decide)⟩
/-! ### what is known at a place of a drawing def -/
structure Wd (a : Addr) (G H : Hp) : Prop where
  g : Ex G H
  na : G a = none
  st : Stt H a
section
variable {a p : Addr} {G H G1 H1 G2 H2 : Hp} {o : HO} {xs : List V} {Q : VK}
theorem Wd.step (x : Wd a G H) (t : Gr (· = a) G H G1 H1) (s : Stt H1 a) : Wd a G1 H1 := ⟨t.gh, t.na x.na x.st, s⟩
theorem Wd.pure (x : Wd a G H) (t : Gr A0 G H G1 H1) : Wd a G1 H1 := ⟨t.gh, t.na x.na x.st, x.st.up t.same⟩
theorem Wd.ex (x : Wd a G H) (e : Ex H H1) : Wd a G H1 := ⟨x.g.trans e, x.na, x.st.up e⟩
theorem Wd.dr (x : Wd a G H) (d : Dr a H H1) : Wd a G H1 := ⟨(Dr.gr x.g x.na x.st d).gh, x.na, d.st⟩
theorem Wd.gdr (x : Wd a G H) (d : Dr a H H1) : Gr (· = a) G H G H1 := Dr.gr x.g x.na x.st d
/-- a new list, known for good -/
theorem w_lst (x : Wd a G H) (k : ∀ p G' H', Gr A0 G H G' H' → Wd a G' H' → G' p = some (.lst xs) → Q (.ref p) H') :
    ∀ p, H p = none → Q (.ref p) (upd H p (.lst xs)) := fun p hp => k p _ _ (Gr.new x.g hp) (x.pure (Gr.new x.g hp)) upd_same
theorem w_tup (x : Wd a G H) (k : ∀ p G' H', Gr A0 G H G' H' → Wd a G' H' → G' p = some (.tup xs) → Q (.ref p) H') :
    ∀ p, H p = none → Q (.ref p) (upd H p (.tup xs)) := fun p hp => k p _ _ (Gr.new x.g hp) (x.pure (Gr.new x.g hp)) upd_same
end
theorem new_ex {G H : Hp} {p : Addr} (g : Ex G H) (hp : H p = none) (o : HO) : ∃ G' H', H' = upd H p o ∧ Gr A0 G H G' H' ∧ G' p = some o :=
  ⟨_, _, rfl, Gr.new g hp, upd_same⟩
theorem w_new {a p : Addr} {G H : Hp} (x : Wd a G H) (hp : H p = none) (o : HO) : ∃ G' H', H' = upd H p o ∧ Gr A0 G H G' H' ∧ Wd a G' H' ∧ G' p = some o :=
  ⟨_, _, rfl, Gr.new x.g hp, x.pure (Gr.new x.g hp), upd_same⟩
theorem atI_m1 {xs : List V} (h : xs ≠ []) : ∃ x, atI xs (-1) = some x ∧ x ∈ xs := by
  obtain ⟨l, y, rfl⟩ : ∃ l y, xs = l ++ [y] := ⟨_, _, (List.dropLast_concat_getLast h).symm⟩
  exact ⟨y, atI_last _ _, by simp⟩
theorem own_ex {G H : Hp} {p : Addr} (g : Ex G H) (hp : H p = none) (o : HO) : ∃ H', H' = upd H p o ∧ Gr A0 G H G H' ∧ H' p = some o ∧ G p = none :=
  ⟨_, rfl, Gr.own g hp, upd_same, g.free hp⟩
theorem Gr.fresh {A : Addr → Prop} {G H G1 H1 : Hp} {p : Addr} (t : Gr A G H G1 H1) (h : H1 p = none) : H p = none := by
  cases e : H p with
  | none => rfl
  | some o =>
    obtain ⟨o', z⟩ := t.th p o e
    rw [h] at z
    cases z
theorem ixN_nat {n : Nat} {i : Int} (h0 : 0 ≤ i) (h : i < (n : Int)) : ixN n i = some i.toNat := by
  unfold ixN
  rw [if_pos h0, if_pos h]
/-! loops whose source is reckoned -/
section
variable {K : PySem.W.Frag} {σ : L2.St} {H : Hp} {tl : TE} {ta : TA} {g : TG} {tb : TS} {D : Ends}
def LoopW (J : It) (g : TG) (tb : TS) (D : Ends) (σ : L2.St) (H1 : Hp) : Prop := ∃ W : Nat → Nat → L2.St → Hp → Prop, (∃ m, W 0 m σ H1) ∧ ∀ i m σ H, W i m σ H →
  (J.stop i H ∧ D.nx σ H) ∨ (J.go i H ∧ ∃ N : L2.St → Hp → Prop, (∀ σ' H', N σ' H' → ∃ m', m' < m ∧ W (i + 1) m' σ' H') ∧ ∀ x H', J.yld i H x H' → g x σ H' fun σ2 H2 => tb { D with nx := N, ct := N, bk := D.nx } σ2 H2)
theorem r_forLo (h : tl σ H fun x H1 => ∃ a, x = .ref a ∧ (∃ xs, SqL K H1 a xs) ∧ LoopW (Itl K a) g tb D σ H1) : tFor (iList K tl) g tb D σ H := h
theorem r_forTo (h : tl σ H fun x H1 => ∃ a, x = .ref a ∧ (∃ xs, SqT K H1 a xs) ∧ LoopW (Itt K a) g tb D σ H1) : tFor (iTup K tl) g tb D σ H := h
theorem r_forSo (h : tl σ H fun x H1 => ∃ z, x = .str z ∧ LoopW (Its z) g tb D σ H1) : tFor (iStr tl) g tb D σ H := h
theorem r_forRo (h : ta σ H fun vs H1 => ∃ j : Int, vs = [.int j] ∧ -(2 ^ 62) ≤ j ∧ j < 2 ^ 62 ∧ LoopW (Itr 0 j.toNat) g tb D σ H1) : tFor (iRng1 ta) g tb D σ H := h
theorem r_forR2o (h : ta σ H fun vs H1 => ∃ i j : Int, vs = [.int i, .int j] ∧ (-(2 ^ 62) ≤ i ∧ i < 2 ^ 62 ∧ -(2 ^ 62) ≤ j ∧ j < 2 ^ 62) ∧ LoopW (Itr i (j - i).toNat) g tb D σ H1) : tFor (iRng2 ta) g tb D σ H := h
theorem r_forEo (h : ta σ H fun vs H1 => ∃ a xs, vs = [.ref a] ∧ SqT K H1 a xs ∧ LoopW (ItE (fun H => SqT K H a xs) xs.length fun i _ x => xs[i]? = some x) g tb D σ H1) : tFor (Dk.iEnumT K ta) g tb D σ H := h
theorem r_forESo (h : ta σ H fun vs H1 => ∃ z, vs = [.str z] ∧ LoopW (ItE (fun _ => True) z.cps.size fun i _ x => ∃ c, z.cps[i]? = some c ∧ x = .str ⟨#[c]⟩) g tb D σ H1) : tFor (Dk.iEnumS ta) g tb D σ H := h
theorem l_L {a : Addr} {xs : List V} (hs : SqL K H a xs) (Pv : Nat → L2.St → Hp → Prop) (p0 : Pv 0 σ H) (hl : ∀ i σ H, Pv i σ H → SqL K H a xs)
    (ht : ∀ i x σ H, xs[i]? = some x → Pv i σ H → g x σ H fun σ2 H2 => tb { D with nx := Pv (i + 1), ct := Pv (i + 1), bk := D.nx } σ2 H2) (hd : ∀ σ H, Pv xs.length σ H → D.nx σ H) :
    ∃ b, V.ref a = .ref b ∧ (∃ xs, SqL K H b xs) ∧ LoopW (Itl K b) g tb D σ H :=
  ⟨a, rfl, ⟨xs, hs⟩, for_it walk_list Pv p0 (fun i σ H _ p => hl i σ H p) (fun i x σ H H' hi p y => by
    obtain ⟨rfl, hx⟩ := y
    exact ht i x σ _ hx p) hd⟩
theorem l_T {a : Addr} {xs : List V} (hs : SqT K H a xs) (Pv : Nat → L2.St → Hp → Prop) (p0 : Pv 0 σ H) (hl : ∀ i σ H, Pv i σ H → SqT K H a xs)
    (ht : ∀ i x σ H, xs[i]? = some x → Pv i σ H → g x σ H fun σ2 H2 => tb { D with nx := Pv (i + 1), ct := Pv (i + 1), bk := D.nx } σ2 H2) (hd : ∀ σ H, Pv xs.length σ H → D.nx σ H) :
    ∃ b, V.ref a = .ref b ∧ (∃ xs, SqT K H b xs) ∧ LoopW (Itt K b) g tb D σ H :=
  ⟨a, rfl, ⟨xs, hs⟩, for_it walk_tup Pv p0 (fun i σ H _ p => hl i σ H p) (fun i x σ H H' hi p y => by
    obtain ⟨rfl, hx⟩ := y
    exact ht i x σ _ hx p) hd⟩
theorem l_S {z : Str} (Pv : Nat → L2.St → Hp → Prop) (p0 : Pv 0 σ H)
    (ht : ∀ i c σ H, (cs z)[i]? = some c → Pv i σ H → g (.str ⟨#[c]⟩) σ H fun σ2 H2 => tb { D with nx := Pv (i + 1), ct := Pv (i + 1), bk := D.nx } σ2 H2) (hd : ∀ σ H, Pv z.length σ H → D.nx σ H) :
    ∃ y, V.str z = .str y ∧ LoopW (Its y) g tb D σ H := by
  refine ⟨z, rfl, for_it walk_str Pv p0 (fun _ _ _ _ _ => trivial) (fun i x σ H H' hi p y => ?_) hd⟩
  obtain ⟨rfl, c, hc, rfl⟩ := y
  exact ht i c σ _ (by rw [Array.getElem?_toList]; exact hc) p
theorem l_R {n : Int} (h1 : -1000000 ≤ n) (h2 : n ≤ 1000000) (Pv : Nat → L2.St → Hp → Prop) (p0 : Pv 0 σ H)
    (ht : ∀ (i : Nat) σ H, (i : Int) < n → Pv i σ H → g (.int (i : Nat)) σ H fun σ2 H2 => tb { D with nx := Pv (i + 1), ct := Pv (i + 1), bk := D.nx } σ2 H2) (hd : ∀ σ H, Pv n.toNat σ H → D.nx σ H) :
    ∃ j : Int, [V.int n] = [.int j] ∧ -(2 ^ 62) ≤ j ∧ j < 2 ^ 62 ∧ LoopW (Itr 0 j.toNat) g tb D σ H := by
  refine ⟨n, rfl, by omega, by omega, for_range Pv p0 (fun i σ H hi p => ?_) hd⟩
  have z := ht i σ H (by omega) p
  rw [Int.zero_add]
  exact z
theorem l_E {a : Addr} {xs : List V} (hs : SqT K H a xs) (Pv : Nat → L2.St → Hp → Prop) (p0 : Pv 0 σ H) (hl : ∀ i σ H, Pv i σ H → SqT K H a xs)
    (ht : ∀ i x σ H p, xs[i]? = some x → Pv i σ H → H p = none → g (.ref p) σ (upd H p (.tup [.int (i : Nat), x])) fun σ2 H2 => tb { D with nx := Pv (i + 1), ct := Pv (i + 1), bk := D.nx } σ2 H2)
    (hd : ∀ σ H, Pv xs.length σ H → D.nx σ H) : ∃ b ys, [V.ref a] = [.ref b] ∧ SqT K H b ys ∧ LoopW (ItE (fun H => SqT K H b ys) ys.length fun i _ x => ys[i]? = some x) g tb D σ H := by
  refine ⟨a, xs, rfl, hs, for_it walk_E Pv p0 (fun i σ H _ p => hl i σ H p) (fun i x σ H H' hi p y => ?_) hd⟩
  obtain ⟨T, x', rfl, hT, rfl, hx⟩ := y
  exact ht i x' σ H T hx p hT
end
theorem cutV_mem {xs : List V} {lo hi : Option Int} {x : V} (h : x ∈ cutV xs lo hi) : x ∈ xs := List.mem_of_mem_drop (List.mem_of_mem_take h)
theorem cutV_len {xs : List V} {lo hi : Option Int} : (cutV xs lo hi).length ≤ xs.length := by
  unfold cutV
  rw [List.length_take, List.length_drop]
  omega
theorem cutV_to (xs : List V) (n : Nat) : cutV xs none (some (n : Int)) = xs.take n := by
  unfold cutV
  rw [HT.sIx_nat, HT.sIx_none, List.drop_zero, Nat.sub_zero]
  by_cases h : n ≤ xs.length
  · rw [Nat.min_eq_left h]
  · rw [Nat.min_eq_right (by omega), List.take_of_length_le (Nat.le_refl _), List.take_of_length_le (by omega)]
theorem atI_lt {xs : List V} {i : Int} (h0 : 0 ≤ i) (h : i < (xs.length : Int)) : ∃ x, atI xs i = some x ∧ x ∈ xs := by
  have hi : i.toNat < xs.length := by omega
  exact ⟨xs[i.toNat], at_g (by omega) (List.getElem?_eq_getElem hi), List.getElem_mem _⟩
end Dk
/-! the told order: signs, the relation by its hops, its closure by rounds over a table of bits -/
namespace Tl
abbrev Sg := Nat × Nat
section
variable (L R : Nat → Sg)
/-- told ahead, by hops -/
inductive A : Sg → Sg → Prop where
  | same {x y : Sg} (h : x.1 = y.1) (i : x.2 < y.2) : A x y
  | rEq {x y : Sg} (h : y.1 < x.1) (e : R x.1 = y) : A x y
  | rGo {x y : Sg} (h : y.1 < x.1) (a : A (R x.1) y) : A x y
  | lEq {x y : Sg} (h : x.1 < y.1) (e : x = L y.1) : A x y
  | lGo {x y : Sg} (h : x.1 < y.1) (a : A x (L y.1)) : A x y
def E (x y : Sg) : Prop := x = y ∨ A L R x y
end
section
variable {L R : Nat → Sg} {x y z : Sg}
theorem A.same_iff (h : x.1 = y.1) : A L R x y ↔ x.2 < y.2 :=
  ⟨fun a => by cases a with
    | same _ i => exact i
    | rEq g _ => omega
    | rGo g _ => omega
    | lEq g _ => omega
    | lGo g _ => omega, fun i => .same h i⟩
theorem A.r_iff (h : y.1 < x.1) : A L R x y ↔ E L R (R x.1) y :=
  ⟨fun a => by cases a with
    | same g _ => omega
    | rEq _ e => exact .inl e
    | rGo _ a => exact .inr a
    | lEq g _ => omega
    | lGo g _ => omega, fun e => e.elim (.rEq h) (.rGo h)⟩
theorem A.l_iff (h : x.1 < y.1) : A L R x y ↔ E L R x (L y.1) :=
  ⟨fun a => by cases a with
    | same g _ => omega
    | rEq g _ => omega
    | rGo g _ => omega
    | lEq _ e => exact .inl e
    | lGo _ a => exact .inr a, fun e => e.elim (.lEq h) (.lGo h)⟩
theorem A.irr : ¬ A L R x x := fun a => by
  have z := (A.same_iff (L := L) (R := R) (rfl : x.1 = x.1)).mp a
  omega
/-- births below n: left and right of lesser chunks, the left told ahead of the right -/
structure Bs (L R : Nat → Sg) (n : Nat) : Prop where
  l : ∀ c, 0 < c → c < n → (L c).1 < c
  r : ∀ c, 0 < c → c < n → (R c).1 < c
  lr : ∀ c, 0 < c → c < n → A L R (L c) (R c)
theorem Bs.mono {n m : Nat} (b : Bs L R n) (h : m ≤ n) : Bs L R m := ⟨fun c h0 h1 => b.l c h0 (by omega), fun c h0 h1 => b.r c h0 (by omega), fun c h0 h1 => b.lr c h0 (by omega)⟩
theorem Bs.trans {n : Nat} (b : Bs L R n) : ∀ m, m ≤ n → ∀ x y z : Sg, x.1 < m → y.1 < m → z.1 < m → A L R x y → A L R y z → A L R x z := by
  intro m
  induction m with
  | zero => intro _ x y z h; omega
  | succ m ih =>
    intro hm x y z hx hy hz a1 a2
    have ih' := ih (by omega)
    have eT : ∀ {u v t : Sg}, u.1 < m → v.1 < m → t.1 < m → E L R u v → A L R v t → A L R u t := fun h1 h2 h3 e a => by
      rcases e with rfl | e
      · exact a
      · exact ih' _ _ _ h1 h2 h3 e a
    have tE : ∀ {u v t : Sg}, u.1 < m → v.1 < m → t.1 < m → A L R u v → E L R v t → A L R u t := fun h1 h2 h3 a e => by
      rcases e with rfl | e
      · exact a
      · exact ih' _ _ _ h1 h2 h3 a e
    by_cases cx : x.1 = m
    · by_cases cy : y.1 = m
      · by_cases cz : z.1 = m
        · have i1 := (A.same_iff (by omega)).mp a1
          have i2 := (A.same_iff (by omega)).mp a2
          exact .same (by omega) (by omega)
        · have e2 := (A.r_iff (by omega)).mp a2
          exact (A.r_iff (by omega)).mpr (by rw [show x.1 = y.1 by omega]; exact e2)
      · by_cases cz : z.1 = m
        · exfalso
          have m0 : 0 < m := by omega
          have hl := b.l m m0 (by omega)
          have hr := b.r m m0 (by omega)
          have hlr := b.lr m m0 (by omega)
          have e1 := (A.r_iff (by omega)).mp a1
          have e2 := (A.l_iff (by omega)).mp a2
          rw [cx] at e1
          rw [cz] at e2
          have a3 : A L R (L m) y := tE hl hr (by omega) hlr e1
          have a4 : A L R (L m) (L m) := tE hl (by omega) hl a3 e2
          exact A.irr a4
        · have e1 := (A.r_iff (by omega)).mp a1
          have hr := b.r x.1 (by omega) (by omega)
          exact (A.r_iff (by omega)).mpr (.inr (eT (by omega) (by omega) (by omega) e1 a2))
    · by_cases cy : y.1 = m
      · by_cases cz : z.1 = m
        · have e1 := (A.l_iff (by omega)).mp a1
          exact (A.l_iff (by omega)).mpr (by rw [show z.1 = y.1 by omega]; exact e1)
        · have e1 := (A.l_iff (by omega)).mp a1
          have e2 := (A.r_iff (by omega)).mp a2
          have hl := b.l y.1 (by omega) (by omega)
          have hr := b.r y.1 (by omega) (by omega)
          have hlr := b.lr y.1 (by omega) (by omega)
          have a3 := eT (by omega) (by omega) (by omega) e1 hlr
          exact tE (by omega) (by omega) (by omega) a3 e2
      · by_cases cz : z.1 = m
        · have e2 := (A.l_iff (by omega)).mp a2
          have hl := b.l z.1 (by omega) (by omega)
          exact (A.l_iff (by omega)).mpr (.inr (tE (by omega) (by omega) (by omega) a1 e2))
        · exact ih' x y z (by omega) (by omega) (by omega) a1 a2
theorem Bs.tr {n : Nat} (b : Bs L R n) (hx : x.1 < n) (hy : y.1 < n) (hz : z.1 < n) (a1 : A L R x y) (a2 : A L R y z) : A L R x z := b.trans n (Nat.le_refl n) x y z hx hy hz a1 a2
/-- only births up to the greater chunk count -/
theorem A.congr {L' R' : Nat → Sg} {n : Nat} (hl : ∀ c, 0 < c → c < n → L c = L' c) (hr : ∀ c, 0 < c → c < n → R c = R' c) (b : ∀ c, 0 < c → c < n → (L c).1 < c ∧ (R c).1 < c) :
    ∀ {x y : Sg}, A L R x y → x.1 < n → y.1 < n → A L' R' x y := fun {x y} a => by
  induction a with
  | same h i => exact fun _ _ => .same h i
  | @rEq x y h e => exact fun hx hy => .rEq h ((hr x.1 (by omega) hx).symm.trans e)
  | @rGo x y h a ih =>
    intro hx hy
    have e := hr x.1 (by omega) hx
    have w := (b x.1 (by omega) hx).2
    exact .rGo h (e ▸ ih (by omega) hy)
  | @lEq x y h e => exact fun hx hy => .lEq h (e.trans (hl y.1 (by omega) hy))
  | @lGo x y h a ih =>
    intro hx hy
    have e := hl y.1 (by omega) hy
    have w := (b y.1 (by omega) hy).1
    exact .lGo h (e ▸ ih hx (by omega))
end
/-! ### paths -/
inductive Pth (S : List (Nat × Nat)) : Nat → Nat → Nat → Prop where
  | one {a b : Nat} (h : (a, b) ∈ S) : Pth S 1 a b
  | step {k a b c : Nat} (h : (a, b) ∈ S) (p : Pth S k b c) : Pth S (k + 1) a c
def Rch (S : List (Nat × Nat)) (a b : Nat) : Prop := ∃ k, Pth S k a b
section
variable {S : List (Nat × Nat)} {a b c : Nat}
theorem Pth.app {k m : Nat} (p : Pth S k a b) (q : Pth S m b c) : Rch S a c := by
  induction p with
  | one h => exact ⟨_, .step h q⟩
  | step h p ih =>
    obtain ⟨k', r⟩ := ih q
    exact ⟨_, .step h r⟩
theorem Rch.tr (p : Rch S a b) (q : Rch S b c) : Rch S a c := by
  obtain ⟨k, p⟩ := p
  obtain ⟨m, q⟩ := q
  exact p.app q
/-- a list without repeats within another one is no longer -/
theorem nodup_le : ∀ {l m : List Nat}, l.Nodup → (∀ x ∈ l, x ∈ m) → l.length ≤ m.length
  | [], m, _, _ => Nat.zero_le _
  | x :: r, m, hn, hm => by
    have hx : x ∈ m := hm x (List.mem_cons_self ..)
    have hn' := List.nodup_cons.mp hn
    have h1 : ∀ y ∈ r, y ∈ m.erase x := fun y hy => (List.mem_erase_of_ne (by
      rintro rfl
      exact hn'.1 hy)).mpr (hm y (List.mem_cons_of_mem _ hy))
    have h2 := nodup_le hn'.2 h1
    rw [List.length_erase_of_mem hx] at h2
    have h3 : 0 < m.length := List.length_pos_of_mem hx
    rw [List.length_cons]
    omega
theorem Pth.bound {k n : Nat} {lt : Nat → Nat → Prop} (hS : ∀ a b, (a, b) ∈ S → lt a b ∧ a < n ∧ b < n) (tr : ∀ a b c, a < n → b < n → c < n → lt a b → lt b c → lt a c) (ir : ∀ a, ¬ lt a a) (p : Pth S k a b) : k + 1 ≤ n := by
  have key : ∀ {k a b}, Pth S k a b → ∃ l : List Nat, l.length = k ∧ (a :: l).Nodup ∧ (∀ x ∈ l, lt a x) ∧ ∀ x ∈ a :: l, x < n := by
    intro k a b p
    induction p with
    | @one a b h =>
      obtain ⟨h1, h2, h3⟩ := hS _ _ h
      refine ⟨[b], rfl, ?_, by simpa using h1, by simp [h2, h3]⟩
      simp
      exact fun e => ir a (e ▸ h1)
    | @step k a b c h p ih =>
      obtain ⟨l, hl, hn, hlt, hb⟩ := ih
      obtain ⟨h1, h2, h3⟩ := hS _ _ h
      have all : ∀ x ∈ b :: l, lt a x := fun x hx => by
        rcases List.mem_cons.mp hx with rfl | hx
        · exact h1
        · exact tr a b x h2 h3 (hb x (List.mem_cons_of_mem _ hx)) h1 (hlt x hx)
      refine ⟨b :: l, by rw [List.length_cons, hl], List.nodup_cons.mpr ⟨fun hm => ir a (all a hm), hn⟩, all, fun x hx => ?_⟩
      rcases List.mem_cons.mp hx with rfl | hx
      · exact h2
      · exact hb x hx
  obtain ⟨l, hl, hn, _, hb⟩ := key p
  have z := nodup_le (m := List.range n) hn fun x hx => List.mem_range.mpr (hb x hx)
  rw [List.length_cons, hl, List.length_range] at z
  exact z
end
/-! ### the table -/
def put (T : List Nat) (e : Nat × Nat) : List Nat := T.set e.1 (T.getD e.1 0 ||| 1 <<< e.2 ||| T.getD e.2 0)
def lap (S : List (Nat × Nat)) (T : List Nat) : List Nat := S.foldl put T
/-- T has b behind a -/
def Bit (T : List Nat) (a b : Nat) : Prop := (T.getD a 0).testBit b = true
section
variable {S : List (Nat × Nat)} {T : List Nat} {n : Nat}
theorem put_len (e : Nat × Nat) : (put T e).length = T.length := List.length_set ..
theorem lap_len : ∀ (S : List (Nat × Nat)) (T : List Nat), (lap S T).length = T.length
  | [], _ => rfl
  | e :: r, T => (lap_len r (put T e)).trans (put_len e)
theorem bit_put {e : Nat × Nat} (h : e.1 < T.length) {a b : Nat} : Bit (put T e) a b ↔ Bit T a b ∨ (a = e.1 ∧ (b = e.2 ∨ Bit T e.2 b)) := by
  unfold Bit put
  by_cases ha : a = e.1
  · subst ha
    have g : (T.set e.1 (T.getD e.1 0 ||| 1 <<< e.2 ||| T.getD e.2 0)).getD e.1 0 = T.getD e.1 0 ||| 1 <<< e.2 ||| T.getD e.2 0 := by
      simp [List.getD, List.getElem?_set, h]
    rw [g, Nat.testBit_or, Nat.testBit_or, Nat.one_shiftLeft, Nat.testBit_two_pow, Bool.or_eq_true, Bool.or_eq_true, decide_eq_true_iff]
    constructor
    · rintro ((h | h) | h)
      · exact .inl h
      · exact .inr ⟨rfl, .inl h.symm⟩
      · exact .inr ⟨rfl, .inr h⟩
    · rintro (h | ⟨_, h | h⟩)
      · exact .inl (.inl h)
      · exact .inl (.inr h.symm)
      · exact .inr h
  · have g : (T.set e.1 (T.getD e.1 0 ||| 1 <<< e.2 ||| T.getD e.2 0)).getD a 0 = T.getD a 0 := by
      simp [List.getD, List.getElem?_set, Ne.symm ha]
    rw [g]
    constructor
    · exact fun h => .inl h
    · rintro (h | ⟨h, _⟩)
      · exact h
      · exact absurd h ha
theorem lap_mono : ∀ (S : List (Nat × Nat)) {T : List Nat}, (∀ e ∈ S, e.1 < T.length) → ∀ {a b}, Bit T a b → Bit (lap S T) a b
  | [], _, _, _, _, h => h
  | e :: r, T, hS, a, b, h => lap_mono r (fun e' he => by rw [put_len]; exact hS e' (List.mem_cons_of_mem _ he)) ((bit_put (hS e (List.mem_cons_self ..))).mpr (.inl h))
theorem lap_edge : ∀ (S : List (Nat × Nat)) {T : List Nat}, (∀ e ∈ S, e.1 < T.length) → ∀ {a b c}, (a, b) ∈ S → c = b ∨ Bit T b c → Bit (lap S T) a c
  | e :: r, T, hS, a, b, c, hm, h => by
    have hr : ∀ e' ∈ r, e'.1 < (put T e).length := fun e' he => by rw [put_len]; exact hS e' (List.mem_cons_of_mem _ he)
    rcases List.mem_cons.mp hm with rfl | hm
    · exact lap_mono r hr ((bit_put (hS _ (List.mem_cons_self ..))).mpr (.inr ⟨rfl, h⟩))
    · refine lap_edge r hr hm (h.imp id fun h => (bit_put (hS e (List.mem_cons_self ..))).mpr (.inl h))
theorem lap_sound : ∀ (S : List (Nat × Nat)) {S0 : List (Nat × Nat)} {T : List Nat}, (∀ e ∈ S, e ∈ S0) → (∀ e ∈ S, e.1 < T.length) → (∀ a b, Bit T a b → Rch S0 a b) → ∀ a b, Bit (lap S T) a b → Rch S0 a b
  | [], _, _, _, _, h => h
  | e :: r, S0, T, h0, hS, h => lap_sound r (fun e' he => h0 e' (List.mem_cons_of_mem _ he)) (fun e' he => by rw [put_len]; exact hS e' (List.mem_cons_of_mem _ he)) fun a b hb => by
    refine Or.elim ((bit_put (hS e (List.mem_cons_self ..))).mp hb) (fun hb => h a b hb) fun hb => ?_
    · obtain ⟨ea, hb2⟩ := hb
      subst ea
      have he : Rch S0 e.1 e.2 := ⟨1, .one (h0 e (List.mem_cons_self ..))⟩
      refine Or.elim hb2 (fun e1 => ?_) (fun hb => he.tr (h _ _ hb))
      rw [e1]
      exact he
/-- behind r laps all paths of at most r steps are there -/
def Upto (S : List (Nat × Nat)) (T : List Nat) (r : Nat) : Prop := ∀ k a b, Pth S k a b → k ≤ r → Bit T a b
theorem Upto.lap {r : Nat} (hS : ∀ e ∈ S, e.1 < T.length) (u : Upto S T r) : Upto S (lap S T) (r + 1) := fun k a b p hk => by
  cases p with
  | one h => exact lap_edge S hS h (.inl rfl)
  | step h p => exact lap_edge S hS h (.inr (u _ _ _ p (by omega)))
/-- where a lap changes nothing all paths are there -/
theorem still_all (hS : ∀ e ∈ S, e.1 < T.length) (h : ∀ a b c, (a, b) ∈ S → c = b ∨ Bit T b c → Bit T a c) {a b : Nat} (p : Rch S a b) : Bit T a b := by
  obtain ⟨k, p⟩ := p
  induction p with
  | one h' => exact h _ _ _ h' (.inl rfl)
  | step h' p ih => exact h _ _ _ h' (.inr ih)
end
end Tl
namespace Tl
/-! ### signs in a row, steps -/
section
variable (sz : Nat → Nat)
def off : Nat → Nat
  | 0 => 0
  | c + 1 => off c + sz c
def rowOf (c : Nat) : List Sg := (List.range (sz c)).map fun i => (c, i)
def marks : Nat → List Sg
  | 0 => []
  | c + 1 => marks c ++ rowOf sz c
def ps (x : Sg) : Nat := off sz x.1 + x.2
/-- a sign of the births below n -/
def Ok (n : Nat) (x : Sg) : Prop := x.1 < n ∧ x.2 < sz x.1
end
section
variable {sz : Nat → Nat} {n : Nat} {x y : Sg}
theorem rowOf_len (c : Nat) : (rowOf sz c).length = sz c := by simp [rowOf]
theorem marks_len : ∀ n, (marks sz n).length = off sz n
  | 0 => rfl
  | n + 1 => by
    show (marks sz n ++ rowOf sz n).length = off sz n + sz n
    rw [List.length_append, marks_len n, rowOf_len]
theorem marks_at : ∀ {n : Nat} {x : Sg}, Ok sz n x → (marks sz n)[ps sz x]? = some x
  | 0, x, h => absurd h.1 (Nat.not_lt_zero _)
  | n + 1, x, h => by
    show (marks sz n ++ rowOf sz n)[ps sz x]? = some x
    by_cases hx : x.1 < n
    · have ih := marks_at (n := n) ⟨hx, h.2⟩
      obtain ⟨hl, _⟩ := List.getElem?_eq_some_iff.mp ih
      rw [List.getElem?_append_left hl]
      exact ih
    · have e : x.1 = n := by have := h.1; omega
      have e2 : ps sz x = (marks sz n).length + x.2 := by unfold ps; rw [marks_len, e]
      rw [e2, List.getElem?_append_right (by omega), Nat.add_sub_cancel_left]
      unfold rowOf
      rw [List.getElem?_map, List.getElem?_range (by rw [← e]; exact h.2)]
      show some (n, x.2) = some x
      rw [← e]
theorem mem_marks : ∀ {n : Nat} {x : Sg}, x ∈ marks sz n ↔ Ok sz n x
  | 0, x => by simp [marks, Ok]
  | n + 1, x => by
    show x ∈ marks sz n ++ rowOf sz n ↔ _
    rw [List.mem_append, mem_marks]
    unfold rowOf Ok
    simp only [List.mem_map, List.mem_range]
    constructor
    · rintro (⟨h1, h2⟩ | ⟨i, hi, rfl⟩)
      · exact ⟨by omega, h2⟩
      · exact ⟨by show n < n + 1; omega, hi⟩
    · rintro ⟨h1, h2⟩
      by_cases hx : x.1 < n
      · exact .inl ⟨hx, h2⟩
      · have e : x.1 = n := by omega
        refine .inr ⟨x.2, by rw [← e]; exact h2, ?_⟩
        rw [← e]
theorem ps_lt (h : Ok sz n x) : ps sz x < off sz n := by
  have := (List.getElem?_eq_some_iff.mp (marks_at h)).1
  rw [marks_len] at this
  exact this
theorem ps_inj (hx : Ok sz n x) (hy : Ok sz n y) (e : ps sz x = ps sz y) : x = y := by
  have h1 := marks_at hx
  rw [e, marks_at hy] at h1
  exact (Option.some.inj h1).symm
theorem sign_at {j : Nat} (h : j < off sz n) : ∃ x, Ok sz n x ∧ ps sz x = j := by
  have hj : j < (marks sz n).length := by rw [marks_len]; exact h
  have hm : (marks sz n)[j] ∈ marks sz n := List.getElem_mem hj
  have ok := mem_marks.mp hm
  refine ⟨_, ok, ?_⟩
  have key : ∀ {n j : Nat} {x : Sg}, (marks sz n)[j]? = some x → ps sz x = j := by
    intro n
    induction n with
    | zero => intro j x h; simp [marks] at h
    | succ n ih =>
      intro j x h
      have h' : (marks sz n ++ rowOf sz n)[j]? = some x := h
      by_cases hl : j < (marks sz n).length
      · rw [List.getElem?_append_left hl] at h'
        exact ih h'
      · rw [List.getElem?_append_right (by omega)] at h'
        unfold rowOf at h'
        rw [List.getElem?_map] at h'
        obtain ⟨i, hi, rfl⟩ := Option.map_eq_some_iff.mp h'
        have e := (List.getElem?_eq_some_iff.mp hi).2
        simp at e
        unfold ps
        show off sz n + i = j
        rw [marks_len] at e hl
        omega
  exact key (List.getElem?_eq_getElem hj)
end
section
variable (L R : Nat → Sg) (sz : Nat → Nat)
def stepsOf (c : Nat) : List (Nat × Nat) := (ps sz (L c), off sz c) :: ((List.range (sz c - 1)).map fun i => (off sz c + i, off sz c + i + 1)) ++ [(off sz c + sz c - 1, ps sz (R c))]
/-- the steps of the births 1 to n -/
def steps : Nat → List (Nat × Nat)
  | 0 => [(0, 1)]
  | n + 1 => steps n ++ stepsOf L R sz (n + 1)
/-- births below n, as a sheet may make them -/
structure Wv (n : Nat) : Prop extends Bs L R n where
  n0 : 0 < n
  s0 : sz 0 = 2
  s1 : ∀ c, 0 < c → c < n → 0 < sz c
  lo : ∀ c, 0 < c → c < n → (L c).2 < sz (L c).1
  ro : ∀ c, 0 < c → c < n → (R c).2 < sz (R c).1
end
section
variable {L R : Nat → Sg} {sz : Nat → Nat} {n : Nat}
theorem Wv.okL (w : Wv L R sz n) {c : Nat} (h0 : 0 < c) (h : c < n) : Ok sz n (L c) := ⟨Nat.lt_trans (w.l c h0 h) h, w.lo c h0 h⟩
theorem Wv.okR (w : Wv L R sz n) {c : Nat} (h0 : 0 < c) (h : c < n) : Ok sz n (R c) := ⟨Nat.lt_trans (w.r c h0 h) h, w.ro c h0 h⟩
theorem Wv.mono (w : Wv L R sz n) {m : Nat} (h0 : 0 < m) (h : m ≤ n) : Wv L R sz m :=
  { Bs.mono w.toBs h with n0 := h0, s0 := w.s0, s1 := fun c h1 h2 => w.s1 c h1 (by omega), lo := fun c h1 h2 => w.lo c h1 (by omega), ro := fun c h1 h2 => w.ro c h1 (by omega) }
theorem mem_steps {m : Nat} {e : Nat × Nat} : e ∈ steps L R sz m ↔ e = (0, 1) ∨ ∃ c, 0 < c ∧ c ≤ m ∧ e ∈ stepsOf L R sz c := by
  induction m with
  | zero =>
    show e ∈ [(0, 1)] ↔ _
    rw [List.mem_singleton]
    constructor
    · exact .inl
    · rintro (h | ⟨c, h1, h2, _⟩)
      · exact h
      · omega
  | succ m ih =>
    show e ∈ steps L R sz m ++ stepsOf L R sz (m + 1) ↔ _
    rw [List.mem_append, ih]
    constructor
    · rintro ((h | ⟨c, h1, h2, h3⟩) | h)
      · exact .inl h
      · exact .inr ⟨c, h1, by omega, h3⟩
      · exact .inr ⟨m + 1, by omega, by omega, h⟩
    · rintro (h | ⟨c, h1, h2, h3⟩)
      · exact .inl (.inl h)
      · by_cases hc : c ≤ m
        · exact .inl (.inr ⟨c, h1, hc, h3⟩)
        · have e : c = m + 1 := by omega
          rw [e] at h3
          exact .inr h3
theorem mem_stepsOf {c : Nat} {e : Nat × Nat} : e ∈ stepsOf L R sz c ↔ e = (ps sz (L c), off sz c) ∨ (∃ i, i < sz c - 1 ∧ e = (off sz c + i, off sz c + i + 1)) ∨ e = (off sz c + sz c - 1, ps sz (R c)) := by
  unfold stepsOf
  simp only [List.cons_append, List.mem_cons, List.mem_append, List.mem_map, List.mem_range, List.not_mem_nil, or_false]
  constructor
  · rintro (h | ⟨i, hi, rfl⟩ | h)
    · exact .inl h
    · exact .inr (.inl ⟨i, hi, rfl⟩)
    · exact .inr (.inr h)
  · rintro (h | ⟨i, hi, rfl⟩ | h)
    · exact .inl h
    · exact .inr (.inl ⟨i, hi, rfl⟩)
    · exact .inr (.inr h)
/-- each step is one of the order -/
theorem step_A (w : Wv L R sz n) {a b : Nat} (h : (a, b) ∈ steps L R sz (n - 1)) : ∃ x y, Ok sz n x ∧ Ok sz n y ∧ ps sz x = a ∧ ps sz y = b ∧ A L R x y := by
  have n0 := w.n0
  rcases mem_steps.mp h with h | ⟨c, h1, h2, h3⟩
  · cases h
    refine ⟨(0, 0), (0, 1), ⟨n0, by rw [w.s0]; decide⟩, ⟨n0, by rw [w.s0]; decide⟩, rfl, rfl, .same rfl (by decide)⟩
  · have hc : c < n := by omega
    have hs := w.s1 c h1 hc
    rcases mem_stepsOf.mp h3 with e | ⟨i, hi, e⟩ | e
    · cases e
      exact ⟨L c, (c, 0), w.okL h1 hc, ⟨hc, hs⟩, rfl, rfl, .lEq (w.l c h1 hc) rfl⟩
    · cases e
      exact ⟨(c, i), (c, i + 1), ⟨hc, by show i < sz c; omega⟩, ⟨hc, by show i + 1 < sz c; omega⟩, rfl, by unfold ps; show off sz c + (i + 1) = _; omega, .same rfl (by show i < i + 1; omega)⟩
    · cases e
      exact ⟨(c, sz c - 1), R c, ⟨hc, by show sz c - 1 < sz c; omega⟩, w.okR h1 hc, by unfold ps; show off sz c + (sz c - 1) = _; omega, rfl, .rEq (w.r c h1 hc) rfl⟩
theorem rch_row (w : Wv L R sz n) {c : Nat} (hc : c < n) : ∀ {i j : Nat}, i < j → j < sz c → Rch (steps L R sz (n - 1)) (off sz c + i) (off sz c + j) := by
  intro i j hij
  obtain ⟨d, rfl⟩ : ∃ d, j = i + 1 + d := ⟨j - (i + 1), by omega⟩
  clear hij
  have one : ∀ i, i + 1 < sz c → Rch (steps L R sz (n - 1)) (off sz c + i) (off sz c + i + 1) := by
    intro i hi
    refine ⟨1, .one (mem_steps.mpr ?_)⟩
    by_cases h0 : c = 0
    · subst h0
      have z := w.s0
      have e : i = 0 := by omega
      subst e
      exact .inl rfl
    · exact .inr ⟨c, by omega, by omega, mem_stepsOf.mpr (.inr (.inl ⟨i, by omega, rfl⟩))⟩
  induction d with
  | zero => intro h; exact one i h
  | succ d ih =>
    intro h
    have p := ih (by omega)
    have q := one (i + 1 + d) (by omega)
    exact p.tr q
theorem rch_A (w : Wv L R sz n) {x y : Sg} (a : A L R x y) : Ok sz n x → Ok sz n y → Rch (steps L R sz (n - 1)) (ps sz x) (ps sz y) := by
  have toR : ∀ {x : Sg}, Ok sz n x → 0 < x.1 → Rch (steps L R sz (n - 1)) (ps sz x) (ps sz (R x.1)) := by
    intro x hx h0
    have e : Rch (steps L R sz (n - 1)) (off sz x.1 + sz x.1 - 1) (ps sz (R x.1)) := ⟨1, .one (mem_steps.mpr (.inr ⟨x.1, h0, by have := hx.1; omega, mem_stepsOf.mpr (.inr (.inr rfl))⟩))⟩
    by_cases hl : x.2 = sz x.1 - 1
    · have e2 : ps sz x = off sz x.1 + sz x.1 - 1 := by unfold ps; have := hx.2; omega
      rw [e2]
      exact e
    · have p := rch_row w hx.1 (i := x.2) (j := sz x.1 - 1) (by have := hx.2; omega) (by have := hx.2; omega)
      have e2 : off sz x.1 + (sz x.1 - 1) = off sz x.1 + sz x.1 - 1 := by have := hx.2; omega
      rw [e2] at p
      exact p.tr e
  have toL : ∀ {y : Sg}, Ok sz n y → 0 < y.1 → Rch (steps L R sz (n - 1)) (ps sz (L y.1)) (ps sz y) := by
    intro y hy h0
    have e : Rch (steps L R sz (n - 1)) (ps sz (L y.1)) (off sz y.1) := ⟨1, .one (mem_steps.mpr (.inr ⟨y.1, h0, by have := hy.1; omega, mem_stepsOf.mpr (.inl rfl)⟩))⟩
    by_cases hl : y.2 = 0
    · have e2 : ps sz y = off sz y.1 := by unfold ps; omega
      rw [e2]
      exact e
    · exact e.tr (rch_row w hy.1 (i := 0) (j := y.2) (by omega) hy.2)
  induction a with
  | @same x y h i =>
    intro hx hy
    unfold ps
    rw [← h]
    exact rch_row w hx.1 i (by rw [h]; exact hy.2)
  | @rEq x y h e => intro hx hy; exact e ▸ toR hx (by omega)
  | @rGo x y h a ih => intro hx hy; exact (toR hx (by omega)).tr (ih (w.okR (by omega) hx.1) hy)
  | @lEq x y h e => intro hx hy; exact e ▸ toL hy (by omega)
  | @lGo x y h a ih => intro hx hy; exact (ih hx (w.okL (by omega) hy.1)).tr (toL hy (by omega))
theorem A_rch (w : Wv L R sz n) {x y : Sg} (hx : Ok sz n x) (hy : Ok sz n y) (p : Rch (steps L R sz (n - 1)) (ps sz x) (ps sz y)) : A L R x y := by
  obtain ⟨k, p⟩ := p
  have key : ∀ {k a b}, Pth (steps L R sz (n - 1)) k a b → ∃ u v, Ok sz n u ∧ Ok sz n v ∧ ps sz u = a ∧ ps sz v = b ∧ A L R u v := by
    intro k a b p
    induction p with
    | one h => exact step_A w h
    | step h p ih =>
      obtain ⟨u, v, h1, h2, h3, h4, h5⟩ := step_A w h
      obtain ⟨u', v', g1, g2, g3, g4, g5⟩ := ih
      have e := ps_inj h2 g1 (h4.trans g3.symm)
      subst e
      exact ⟨u, v', h1, g2, h3, g4, w.tr h1.1 h2.1 g2.1 h5 g5⟩
  obtain ⟨u, v, h1, h2, h3, h4, h5⟩ := key p
  have e1 := ps_inj hx h1 h3.symm
  have e2 := ps_inj hy h2 h4.symm
  subst e1 e2
  exact h5
theorem rch_iff (w : Wv L R sz n) {x y : Sg} (hx : Ok sz n x) (hy : Ok sz n y) : Rch (steps L R sz (n - 1)) (ps sz x) (ps sz y) ↔ A L R x y := ⟨A_rch w hx hy, fun a => rch_A w a hx hy⟩
theorem step_lt (w : Wv L R sz n) {a b : Nat} (h : (a, b) ∈ steps L R sz (n - 1)) : a < off sz n ∧ b < off sz n := by
  obtain ⟨x, y, hx, hy, rfl, rfl, _⟩ := step_A w h
  exact ⟨ps_lt hx, ps_lt hy⟩
theorem path_bound (w : Wv L R sz n) {k a b : Nat} (p : Pth (steps L R sz (n - 1)) k a b) : k + 1 ≤ off sz n := by
  refine Pth.bound (lt := fun a b => ∃ x y, Ok sz n x ∧ Ok sz n y ∧ ps sz x = a ∧ ps sz y = b ∧ A L R x y) (fun a b h => ⟨step_A w h, step_lt w h⟩) (fun a b c ha hb hc h1 h2 => ?_) (fun a h => ?_) p
  · obtain ⟨x, y, hx, hy, rfl, rfl, a1⟩ := h1
    obtain ⟨y', z, hy', hz, e, rfl, a2⟩ := h2
    have e' := ps_inj hy' hy e
    subst e'
    exact ⟨x, z, hx, hz, rfl, rfl, w.tr hx.1 hy.1 hz.1 a1 a2⟩
  · obtain ⟨x, y, hx, hy, rfl, e, a1⟩ := h
    have e' := ps_inj hy hx e
    subst e'
    exact A.irr a1
theorem steps_len (w : Wv L R sz n) : off sz n ≤ (steps L R sz (n - 1)).length + 1 := by
  have key : ∀ m, m < n → off sz (m + 1) ≤ (steps L R sz m).length + 1 := by
    intro m
    induction m with
    | zero =>
      intro _
      show 0 + sz 0 ≤ 1 + 1
      rw [w.s0]
      decide
    | succ m ih =>
      intro h
      have z := ih (by omega)
      show off sz (m + 1) + sz (m + 1) ≤ (steps L R sz m ++ stepsOf L R sz (m + 1)).length + 1
      rw [List.length_append]
      have e : (stepsOf L R sz (m + 1)).length = sz (m + 1) - 1 + 2 := by
        unfold stepsOf
        simp
      rw [e]
      omega
  have n0 := w.n0
  have z := key (n - 1) (by omega)
  rw [Nat.sub_add_cancel n0] at z
  exact z
/-- the table tells the order -/
def Tells (L R : Nat → Sg) (sz : Nat → Nat) (n : Nat) (T : List Nat) : Prop := T.length = off sz n ∧ ∀ x y, Ok sz n x → Ok sz n y → (Bit T (ps sz x) (ps sz y) ↔ A L R x y)
/-- the table under way: sound, all paths of at most r steps -/
structure Under (L R : Nat → Sg) (sz : Nat → Nat) (n : Nat) (T : List Nat) (r : Nat) : Prop where
  len : T.length = off sz n
  snd : ∀ a b, Bit T a b → Rch (steps L R sz (n - 1)) a b
  upto : Upto (steps L R sz (n - 1)) T r
theorem Under.zero : Under L R sz n (List.replicate (off sz n) 0) 0 := by
  refine ⟨List.length_replicate, fun a b h => ?_, fun k a b p hk => ?_⟩
  · exfalso
    unfold Bit at h
    have e : (List.replicate (off sz n) 0).getD a 0 = 0 := by
      simp [List.getD, List.getElem?_replicate]
      split <;> rfl
    rw [e] at h
    simp at h
  · cases p <;> omega
theorem Under.fst (w : Wv L R sz n) {T : List Nat} {r : Nat} (u : Under L R sz n T r) : ∀ e ∈ steps L R sz (n - 1), e.1 < T.length := fun e he => by
  rw [u.len]
  exact (step_lt w (a := e.1) (b := e.2) he).1
theorem Under.lap (w : Wv L R sz n) {T : List Nat} {r : Nat} (u : Under L R sz n T r) : Under L R sz n (lap (steps L R sz (n - 1)) T) (r + 1) :=
  ⟨(lap_len _ _).trans u.len, lap_sound _ (fun _ h => h) (u.fst w) u.snd, u.upto.lap (u.fst w)⟩
theorem Under.done (w : Wv L R sz n) {T : List Nat} {r : Nat} (u : Under L R sz n T r) (h : off sz n ≤ r + 1) : Tells L R sz n T :=
  ⟨u.len, fun x y hx hy => ⟨fun b => A_rch w hx hy (u.snd _ _ b), fun a => by
    obtain ⟨k, p⟩ := rch_A w a hx hy
    have z := path_bound w p
    exact u.upto k _ _ p (by omega)⟩⟩
theorem Under.still (w : Wv L R sz n) {T : List Nat} {r : Nat} (u : Under L R sz n T r) (h : ∀ a b c, (a, b) ∈ steps L R sz (n - 1) → c = b ∨ Bit T b c → Bit T a c) : Tells L R sz n T :=
  ⟨u.len, fun x y hx hy => ⟨fun b => A_rch w hx hy (u.snd _ _ b), fun a => still_all (u.fst w) h (rch_A w a hx hy)⟩⟩
end
end Tl
namespace Tl
/-! ### hops -/
inductive Hps (L R : Nat → Sg) : Sg → Sg → List (Sg × Sg) → Prop where
  | stop {x y : Sg} (h : x.1 = y.1) : Hps L R x y [(x, y)]
  | rgo {x y : Sg} {hs : List (Sg × Sg)} (h : y.1 < x.1) (t : Hps L R (R x.1) y hs) : Hps L R x y ((x, y) :: hs)
  | lgo {x y : Sg} {hs : List (Sg × Sg)} (h : x.1 < y.1) (t : Hps L R x (L y.1) hs) : Hps L R x y ((x, y) :: hs)
section
variable {L R : Nat → Sg} {x y : Sg} {hs hs' : List (Sg × Sg)}
theorem Hps.det (h : Hps L R x y hs) : ∀ {hs'}, Hps L R x y hs' → hs = hs' := by
  induction h with
  | stop h => intro hs' g; cases g with
    | stop _ => rfl
    | rgo k _ => omega
    | lgo k _ => omega
  | rgo h t ih => intro hs' g; cases g with
    | stop k => omega
    | rgo _ t' => rw [ih t']
    | lgo k _ => omega
  | lgo h t ih => intro hs' g; cases g with
    | stop k => omega
    | rgo k _ => omega
    | lgo _ t' => rw [ih t']
theorem E.iff_le {x y : Sg} (h : x.1 = y.1) : E L R x y ↔ x.2 ≤ y.2 := by
  unfold E
  rw [A.same_iff h]
  constructor
  · rintro (rfl | h) <;> omega
  · intro h2
    by_cases e : x.2 = y.2
    · exact .inl (Prod.ext h e)
    · exact .inr (by omega)
theorem E.iff_A {x y : Sg} (h : x.1 ≠ y.1) : E L R x y ↔ A L R x y := ⟨fun e => e.elim (fun z => absurd (congrArg Prod.fst z) h) id, .inr⟩
theorem Hps.last (h : Hps L R x y hs) : ∃ l r pre, hs = pre ++ [(l, r)] ∧ (E L R x y ↔ l.2 ≤ r.2) ∧ (A L R x y ↔ l.2 < r.2 ∨ (l.2 = r.2 ∧ 1 < hs.length)) := by
  induction h with
  | @stop x y h =>
    refine ⟨x, y, [], rfl, E.iff_le h, ?_⟩
    rw [A.same_iff h]
    simp
  | @rgo x y hs h t ih =>
    obtain ⟨l, r, pre, rfl, h1, h2⟩ := ih
    have e : E L R x y ↔ l.2 ≤ r.2 := by rw [E.iff_A (by omega), A.r_iff h]; exact h1
    refine ⟨l, r, (x, y) :: pre, rfl, e, ?_⟩
    rw [A.r_iff h, h1]
    simp
    omega
  | @lgo x y hs h t ih =>
    obtain ⟨l, r, pre, rfl, h1, h2⟩ := ih
    have e : E L R x y ↔ l.2 ≤ r.2 := by rw [E.iff_A (by omega), A.l_iff h]; exact h1
    refine ⟨l, r, (x, y) :: pre, rfl, e, ?_⟩
    rw [A.l_iff h, h1]
    simp
    omega
end
end Tl
namespace Tl
section
variable {L R : Nat → Sg} {sz : Nat → Nat} {n : Nat} {x y : Sg}
theorem ps_of_mark {j : Nat} (h : (marks sz n)[j]? = some x) : ps sz x = j := by
  have hj := (List.getElem?_eq_some_iff.mp h).1
  rw [marks_len] at hj
  obtain ⟨y, oy, e⟩ := sign_at hj
  have z := marks_at oy
  rw [e, h] at z
  rw [Option.some.inj z]
  exact e
theorem mark_first (o : Ok sz n x) : (marks sz n)[ps sz x]? = some x ∧ ∀ i, i < ps sz x → (marks sz n)[i]? ≠ some x :=
  ⟨marks_at o, fun i hi e => by
    have z := ps_of_mark e
    omega⟩
theorem off_le (h0 : sz 0 ≤ 2) (h : ∀ c, 0 < c → c < n → sz c ≤ 3) : ∀ m, m ≤ n → off sz m ≤ 3 * m
  | 0, _ => Nat.le_refl _
  | m + 1, hm => by
    have z := off_le h0 h m (by omega)
    show off sz m + sz m ≤ _
    by_cases e : m = 0
    · subst e
      omega
    · have := h m (by omega) (by omega)
      omega
theorem Ok.mono {m : Nat} (o : Ok sz n x) (h : n ≤ m) : Ok sz m x := ⟨Nat.lt_of_lt_of_le o.1 h, o.2⟩
theorem marks_one (h : sz 0 = 2) : marks sz 1 = [(0, 0), (0, 1)] := by
  show [] ++ rowOf sz 0 = _
  unfold rowOf
  rw [h]
  rfl
theorem bit_same {T : List Nat} {e : Nat × Nat} (h : put T e = T) (hl : e.1 < T.length) : ∀ c, c = e.2 ∨ Bit T e.2 c → Bit T e.1 c := fun c hc => by
  have z := (bit_put (T := T) hl (a := e.1) (b := c)).mpr (.inr ⟨rfl, hc⟩)
  rw [h] at z
  exact z
theorem put_eq {T : List Nat} {e : Nat × Nat} (hl : e.1 < T.length) (h : T.getD e.1 0 ||| 1 <<< e.2 ||| T.getD e.2 0 = T.getD e.1 0) : put T e = T := by
  unfold put
  rw [h]
  refine List.ext_getElem? fun i => ?_
  rw [List.getElem?_set]
  split
  · rename_i hi
    subst hi
    rw [List.getD_eq_getElem?_getD, List.getElem?_eq_getElem hl]
    rfl
  · rfl
theorem lap_snoc {S : List (Nat × Nat)} {T : List Nat} {e : Nat × Nat} : lap (S ++ [e]) T = put (lap S T) e := by
  unfold lap
  rw [List.foldl_append]
  rfl
/-! ### what is behind, what is ahead -/
def bh (T : List Nat) (j : Nat) : List Nat := (List.range T.length).filter fun k => (T.getD j 0).testBit k
def ah (T : List Nat) (j : Nat) : List Nat := (List.range T.length).filter fun k => (T.getD k 0).testBit j
def cl (T : List Nat) (j : Nat) : List Nat := (bh T j).filter fun k => ((bh T j).filter fun m => (T.getD m 0).testBit k).isEmpty
theorem mem_bh {T : List Nat} {j k : Nat} : k ∈ bh T j ↔ k < T.length ∧ Bit T j k := by
  unfold bh Bit
  rw [List.mem_filter, List.mem_range]
theorem mem_ah {T : List Nat} {j k : Nat} : k ∈ ah T j ↔ k < T.length ∧ Bit T k j := by
  unfold ah Bit
  rw [List.mem_filter, List.mem_range]
theorem cl_sub {T : List Nat} {j k : Nat} (h : k ∈ cl T j) : k ∈ bh T j := (List.mem_filter.mp h).1
/-- a row with a strict order has a least one -/
theorem least {lt : Nat → Nat → Prop} : ∀ (l : List Nat), l ≠ [] → (∀ a ∈ l, ∀ b ∈ l, ∀ c ∈ l, lt a b → lt b c → lt a c) → (∀ a ∈ l, ¬ lt a a) → ∃ k ∈ l, ∀ m ∈ l, ¬ lt m k := by
  intro l
  induction l with
  | nil => intro h; exact absurd rfl h
  | cons x r ih =>
    intro _ tr ir
    by_cases hr : r = []
    · subst hr
      refine ⟨x, List.mem_cons_self .., fun m hm => ?_⟩
      rw [List.mem_singleton.mp hm]
      exact ir x (List.mem_cons_self ..)
    · obtain ⟨k, hk, hm⟩ := ih hr (fun a ha b hb c hc => tr a (List.mem_cons_of_mem _ ha) b (List.mem_cons_of_mem _ hb) c (List.mem_cons_of_mem _ hc)) (fun a ha => ir a (List.mem_cons_of_mem _ ha))
      have hk' := List.mem_cons_of_mem x hk
      by_cases hx : lt x k
      · refine ⟨x, List.mem_cons_self .., fun m hm' hl => ?_⟩
        rcases List.mem_cons.mp hm' with rfl | hm2
        · exact ir _ (List.mem_cons_self ..) hl
        · exact hm m hm2 (tr m hm' x (List.mem_cons_self ..) k hk' hl hx)
      · refine ⟨k, hk', fun m hm' hl => ?_⟩
        rcases List.mem_cons.mp hm' with rfl | hm2
        · exact hx hl
        · exact hm m hm2 hl
theorem Tells.bit_lt {T : List Nat} (t : Tells L R sz n T) {a b : Nat} (ha : a < T.length) (hb : b < T.length) : ∃ x y, Ok sz n x ∧ Ok sz n y ∧ ps sz x = a ∧ ps sz y = b ∧ (Bit T a b ↔ A L R x y) := by
  rw [t.1] at ha hb
  obtain ⟨x, hx, rfl⟩ := sign_at ha
  obtain ⟨y, hy, rfl⟩ := sign_at hb
  exact ⟨x, y, hx, hy, rfl, rfl, t.2 x y hx hy⟩
theorem Tells.cl_ne {T : List Nat} (w : Wv L R sz n) (t : Tells L R sz n T) {j : Nat} (hj : j < T.length) (h : bh T j ≠ []) : cl T j ≠ [] := by
  obtain ⟨k, hk, hm⟩ := least (lt := fun a b => Bit T a b) (bh T j) h (fun a ha b hb c hc h1 h2 => by
    obtain ⟨x, y, ox, oy, ex, ey, i1⟩ := t.bit_lt (mem_bh.mp ha).1 (mem_bh.mp hb).1
    obtain ⟨y', z, oy', oz, ey', ez, i2⟩ := t.bit_lt (mem_bh.mp hb).1 (mem_bh.mp hc).1
    have e := ps_inj oy' oy (ey'.trans ey.symm)
    subst e
    have a3 := w.tr ox.1 oy.1 oz.1 (i1.mp h1) (i2.mp h2)
    have z := (t.2 x z ox oz).mpr a3
    rw [ex, ez] at z
    exact z) (fun a ha h1 => by
    obtain ⟨x, y, ox, oy, ex, ey, i1⟩ := t.bit_lt (mem_bh.mp ha).1 (mem_bh.mp ha).1
    have e := ps_inj ox oy (ex.trans ey.symm)
    subst e
    exact A.irr (i1.mp h1))
  refine List.ne_nil_of_mem (a := k) (List.mem_filter.mpr ⟨hk, ?_⟩)
  rw [List.isEmpty_iff, List.filter_eq_nil_iff]
  exact fun m hm' hb => hm m hm' hb
theorem Tells.bh0 {T : List Nat} (w : Wv L R sz n) (t : Tells L R sz n T) : bh T 0 ≠ [] ∧ 1 < T.length := by
  have n0 := w.n0
  have o0 : Ok sz n (0, 0) := ⟨n0, by show 0 < sz 0; rw [w.s0]; decide⟩
  have o1 : Ok sz n (0, 1) := ⟨n0, by show 1 < sz 0; rw [w.s0]; decide⟩
  have h1 := ps_lt o1
  have e1 : ps sz (0, 1) = 1 := rfl
  rw [e1, ← t.1] at h1
  have b : Bit T 0 1 := (t.2 (0, 0) (0, 1) o0 o1).mpr (.same rfl (by decide))
  exact ⟨List.ne_nil_of_mem (a := 1) (mem_bh.mpr ⟨h1, b⟩), h1⟩
end
end Tl
namespace Tl
theorem steps_le {L R : Nat → Sg} {sz : Nat → Nat} {n : Nat} (w : Wv L R sz n) : ∀ m, m < n → (steps L R sz m).length ≤ off sz (m + 1) + m
  | 0, _ => by
    show 1 ≤ (off sz 0 + sz 0) + 0
    rw [w.s0]
    show 1 ≤ 0 + 2 + 0
    omega
  | m + 1, h => by
    have z := steps_le w m (by omega)
    have s := w.s1 (m + 1) (by omega) h
    show (steps L R sz m ++ stepsOf L R sz (m + 1)).length ≤ (off sz (m + 1) + sz (m + 1)) + (m + 1)
    rw [List.length_append]
    have e : (stepsOf L R sz (m + 1)).length = sz (m + 1) - 1 + 2 := by
      unfold stepsOf
      simp
    rw [e]
    omega
end Tl
namespace Tl
def upn {α : Type} (f : Nat → α) (n : Nat) (x : α) : Nat → α := fun k => if k = n then x else f k
theorem upd_at {α : Type} {f : Nat → α} {n : Nat} {x : α} : upn f n x n = x := if_pos rfl
theorem upn_ne {α : Type} {f : Nat → α} {n k : Nat} {x : α} (h : k < n) : upn f n x k = f k := if_neg (by omega)
section
variable {L R : Nat → Sg} {sz : Nat → Nat} {n s : Nat} {x y : Sg}
theorem Wv.congrUp (w : Wv L R sz n) {u v : Sg} (hu : u.1 < n) (hv : v.1 < n) (a : A L R u v) : A (upn L n x) (upn R n y) u v :=
  A.congr (n := n) (fun c _ h => (upn_ne h).symm) (fun c _ h => (upn_ne h).symm) (fun c h0 h => ⟨w.l c h0 h, w.r c h0 h⟩) a hu hv
theorem Wv.step (w : Wv L R sz n) (ox : Ok sz n x) (oy : Ok sz n y) (a : A L R x y) (s0 : 0 < s) : Wv (upn L n x) (upn R n y) (upn sz n s) (n + 1) := by
  have n0 := w.n0
  have cs : ∀ c, c < n + 1 → c < n ∨ c = n := fun c h => by omega
  refine { l := fun c h0 h => ?_, r := fun c h0 h => ?_, lr := fun c h0 h => ?_, n0 := by omega, s0 := ?_, s1 := fun c h0 h => ?_, lo := fun c h0 h => ?_, ro := fun c h0 h => ?_ }
  · rcases cs c h with h | rfl
    · rw [upn_ne h]; exact w.l c h0 h
    · rw [upd_at]; exact ox.1
  · rcases cs c h with h | rfl
    · rw [upn_ne h]; exact w.r c h0 h
    · rw [upd_at]; exact oy.1
  · rcases cs c h with h | rfl
    · rw [upn_ne h, upn_ne h]
      exact w.congrUp (Nat.lt_trans (w.l c h0 h) h) (Nat.lt_trans (w.r c h0 h) h) (w.lr c h0 h)
    · rw [upd_at, upd_at]
      exact w.congrUp ox.1 oy.1 a
  · rw [upn_ne n0]; exact w.s0
  · rcases cs c h with h | rfl
    · rw [upn_ne h]; exact w.s1 c h0 h
    · rw [upd_at]; exact s0
  · rcases cs c h with h | rfl
    · rw [upn_ne h, upn_ne (Nat.lt_trans (w.l c h0 h) h)]; exact w.lo c h0 h
    · rw [upd_at, upn_ne ox.1]; exact ox.2
  · rcases cs c h with h | rfl
    · rw [upn_ne h, upn_ne (Nat.lt_trans (w.r c h0 h) h)]; exact w.ro c h0 h
    · rw [upd_at, upn_ne oy.1]; exact oy.2
theorem Wv.one : Wv (fun _ => (0, 0)) (fun _ => (0, 1)) (fun _ => 2) 1 :=
  { l := fun c h0 h => by omega, r := fun c h0 h => by omega, lr := fun c h0 h => by omega, n0 := by omega, s0 := rfl, s1 := fun c h0 h => by omega, lo := fun c h0 h => by omega, ro := fun c h0 h => by omega }
end
end Tl
namespace Tl
section
variable {L R : Nat → Sg} {sz : Nat → Nat} {n s : Nat} {x y l r : Sg} {X Y : List Sg}
/-- a row in the order -/
def Srt (L R : Nat → Sg) (row : List Sg) : Prop := row.Pairwise (A L R)
theorem Srt.step (w : Wv L R sz n) (ok : ∀ u ∈ X ++ l :: r :: Y, Ok sz n u) (h : Srt L R (X ++ l :: r :: Y)) : Srt (upn L n l) (upn R n r) (X ++ l :: (n, 0) :: r :: Y) := by
  unfold Srt at *
  have up : ∀ {u v}, u ∈ X ++ l :: r :: Y → v ∈ X ++ l :: r :: Y → A L R u v → A (upn L n l) (upn R n r) u v := fun hu hv a => w.congrUp (ok _ hu).1 (ok _ hv).1 a
  rw [List.pairwise_append] at h ⊢
  obtain ⟨h1, h2, h3⟩ := h
  rw [List.pairwise_cons] at h2
  obtain ⟨h4, h5⟩ := h2
  rw [List.pairwise_cons] at h5
  obtain ⟨h6, h7⟩ := h5
  have mX : ∀ {u}, u ∈ X → u ∈ X ++ l :: r :: Y := fun h => List.mem_append_left _ h
  have mY : ∀ {u}, u ∈ Y → u ∈ X ++ l :: r :: Y := fun h => List.mem_append_right _ (List.mem_cons_of_mem _ (List.mem_cons_of_mem _ h))
  have ml : l ∈ X ++ l :: r :: Y := List.mem_append_right _ (List.mem_cons_self ..)
  have mr : r ∈ X ++ l :: r :: Y := List.mem_append_right _ (List.mem_cons_of_mem _ (List.mem_cons_self ..))
  have lo : ∀ {u}, u ∈ X ++ l :: r :: Y → E (upn L n l) (upn R n r) u l → A (upn L n l) (upn R n r) u (n, 0) := fun hu e => (A.l_iff (ok _ hu).1).mpr (by
    show E _ _ _ (upn L n l n)
    rw [upd_at]
    exact e)
  have hi : ∀ {u}, u ∈ X ++ l :: r :: Y → E (upn L n l) (upn R n r) r u → A (upn L n l) (upn R n r) (n, 0) u := fun hu e => (A.r_iff (ok _ hu).1).mpr (by
    show E _ _ (upn R n r n) _
    rw [upd_at]
    exact e)
  refine ⟨h1.imp_of_mem fun ha hb a => up (mX ha) (mX hb) a, ?_, fun a ha b hb => ?_⟩
  · rw [List.pairwise_cons, List.pairwise_cons, List.pairwise_cons]
    refine ⟨fun a ha => ?_, fun a ha => ?_, fun a ha => up mr (mY ha) (h6 a ha), h7.imp_of_mem fun ha hb a => up (mY ha) (mY hb) a⟩
    · rcases List.mem_cons.mp ha with rfl | ha
      · exact lo ml (.inl rfl)
      · rcases List.mem_cons.mp ha with rfl | ha
        · exact up ml mr (h4 _ (List.mem_cons_self ..))
        · exact up ml (mY ha) (h4 _ (List.mem_cons_of_mem _ ha))
    · rcases List.mem_cons.mp ha with rfl | ha
      · exact hi mr (.inl rfl)
      · exact hi (mY ha) (.inr (up mr (mY ha) (h6 a ha)))
  · rcases List.mem_cons.mp hb with rfl | hb
    · exact up (mX ha) ml (h3 a ha _ (List.mem_cons_self ..))
    · rcases List.mem_cons.mp hb with rfl | hb
      · exact lo (mX ha) (.inr (up (mX ha) ml (h3 a ha _ (List.mem_cons_self ..))))
      · rcases List.mem_cons.mp hb with rfl | hb
        · exact up (mX ha) mr (h3 a ha _ (List.mem_cons_of_mem _ (List.mem_cons_self ..)))
        · exact up (mX ha) (mY hb) (h3 a ha _ (List.mem_cons_of_mem _ (List.mem_cons_of_mem _ hb)))
theorem Srt.lt {row : List Sg} (h : Srt L R row) {i j : Nat} {x y : Sg} (hi : row[i]? = some x) (hj : row[j]? = some y) (hij : i < j) : A L R x y := by
  obtain ⟨h1, rfl⟩ := List.getElem?_eq_some_iff.mp hi
  obtain ⟨h2, rfl⟩ := List.getElem?_eq_some_iff.mp hj
  exact List.pairwise_iff_getElem.mp h i j h1 h2 hij
theorem Srt.iff {row : List Sg} (w : Wv L R sz n) (ok : ∀ u ∈ row, Ok sz n u) (h : Srt L R row) {i j : Nat} {x y : Sg} (hi : row[i]? = some x) (hj : row[j]? = some y) : (A L R x y ↔ i < j) ∧ (E L R x y ↔ i ≤ j) := by
  have ox := ok x (List.mem_of_getElem? hi)
  have oy := ok y (List.mem_of_getElem? hj)
  rcases Nat.lt_trichotomy i j with hij | rfl | hij
  · have a := h.lt hi hj hij
    exact ⟨⟨fun _ => hij, fun _ => a⟩, fun _ => by omega, fun _ => .inr a⟩
  · rw [hi] at hj
    obtain rfl := Option.some.inj hj
    exact ⟨⟨fun a => absurd a A.irr, fun z => by omega⟩, fun _ => by omega, fun _ => .inl rfl⟩
  · have a := h.lt hj hi hij
    have no : ¬ A L R x y := fun b => A.irr (w.tr ox.1 oy.1 ox.1 b a)
    refine ⟨⟨fun b => absurd b no, fun z => by omega⟩, fun e => ?_, fun z => by omega⟩
    rcases e with rfl | e
    · exact absurd a A.irr
    · exact absurd e no
end
end Tl
namespace Tl
/-! ### meets and joins, by going down -/
section
variable (L R : Nat → Sg)
/-- the meet as the point finds it -/
inductive Mt : Sg → Sg → Sg → Prop where
  | same {x y : Sg} (h : x.1 = y.1) : Mt x y (if y.2 < x.2 then y else x)
  | rTop {x y : Sg} (h : y.1 < x.1) (a : A L R x y) : Mt x y x
  | rGo {x y m : Sg} (h : y.1 < x.1) (a : ¬ A L R x y) (t : Mt y (L x.1) m) : Mt x y m
  | lTop {x y : Sg} (h : x.1 < y.1) (a : A L R y x) : Mt x y y
  | lGo {x y m : Sg} (h : x.1 < y.1) (a : ¬ A L R y x) (t : Mt x (L y.1) m) : Mt x y m
inductive Jn : Sg → Sg → Sg → Prop where
  | same {x y : Sg} (h : x.1 = y.1) : Jn x y (if x.2 < y.2 then y else x)
  | rTop {x y : Sg} (h : y.1 < x.1) (a : A L R y x) : Jn x y x
  | rGo {x y m : Sg} (h : y.1 < x.1) (a : ¬ A L R y x) (t : Jn y (R x.1) m) : Jn x y m
  | lTop {x y : Sg} (h : x.1 < y.1) (a : A L R x y) : Jn x y y
  | lGo {x y m : Sg} (h : x.1 < y.1) (a : ¬ A L R x y) (t : Jn x (R y.1) m) : Jn x y m
end
section
variable {L R : Nat → Sg} {n : Nat} {x y z m : Sg}
theorem E.iff_A' {x y : Sg} (h : x.1 ≠ y.1) : E L R x y ↔ A L R x y := ⟨fun e => e.elim (fun z => absurd (congrArg Prod.fst z) h) id, .inr⟩
theorem E.iff_le' {x y : Sg} (h : x.1 = y.1) : E L R x y ↔ x.2 ≤ y.2 := by
  unfold E
  rw [A.same_iff h]
  constructor
  · rintro (rfl | h) <;> omega
  · intro h2
    by_cases e : x.2 = y.2
    · exact .inl (Prod.ext h e)
    · exact .inr (by omega)
theorem Bs.etr (b : Bs L R n) (hx : x.1 < n) (hy : y.1 < n) (hz : z.1 < n) (e1 : E L R x y) (e2 : E L R y z) : E L R x z := by
  rcases e1 with rfl | e1
  · exact e2
  · rcases e2 with rfl | e2
    · exact .inr e1
    · exact .inr (b.tr hx hy hz e1 e2)
theorem Bs.anti (b : Bs L R n) (hx : x.1 < n) (hy : y.1 < n) (e1 : E L R x y) (e2 : E L R y x) : x = y := by
  rcases e1 with rfl | e1
  · rfl
  · rcases e2 with rfl | e2
    · rfl
    · exact absurd (b.tr hx hy hx e1 e2) A.irr
/-- what is at or ahead of both lies at or ahead of the left of the greater chunk, where that chunk's sign is not ahead of the other one -/
theorem Bs.down (b : Bs L R n) (hx : x.1 < n) (hy : y.1 < n) (h : x.1 < y.1) (na : ¬ A L R y x) : ∀ k, ∀ z : Sg, z.1 < k → z.1 < n → E L R z x → E L R z y → E L R z (L y.1) := by
  intro k
  induction k with
  | zero => intro z hz; omega
  | succ k ih =>
    intro z hk hz e1 e2
    rcases Nat.lt_trichotomy z.1 y.1 with hzy | hzy | hzy
    · exact (A.l_iff hzy).mp ((E.iff_A' (by omega)).mp e2)
    · exfalso
      have a1 := (E.iff_A' (x := z) (y := x) (by omega)).mp e1
      have e3 := (A.r_iff (by omega)).mp a1
      rw [hzy] at e3
      exact na ((A.r_iff h).mpr e3)
    · have hr := b.r z.1 (by omega) hz
      have hl := b.l y.1 (by omega) hy
      have e3 := (A.r_iff (by omega)).mp ((E.iff_A' (x := z) (y := x) (by omega)).mp e1)
      have e4 := (A.r_iff (by omega)).mp ((E.iff_A' (x := z) (y := y) (by omega)).mp e2)
      have e5 := ih (R z.1) (by omega) (by omega) e3 e4
      exact .inr ((A.r_iff (by omega)).mpr e5)
theorem Bs.rise (b : Bs L R n) (hx : x.1 < n) (hy : y.1 < n) (h : x.1 < y.1) (na : ¬ A L R x y) : ∀ k, ∀ z : Sg, z.1 < k → z.1 < n → E L R x z → E L R y z → E L R (R y.1) z := by
  intro k
  induction k with
  | zero => intro z hz; omega
  | succ k ih =>
    intro z hk hz e1 e2
    rcases Nat.lt_trichotomy z.1 y.1 with hzy | hzy | hzy
    · exact (A.r_iff hzy).mp ((E.iff_A' (by omega)).mp e2)
    · exfalso
      have a1 := (E.iff_A' (x := x) (y := z) (by omega)).mp e1
      have e3 := (A.l_iff (by omega)).mp a1
      rw [hzy] at e3
      exact na ((A.l_iff h).mpr e3)
    · have hl := b.l z.1 (by omega) hz
      have hr := b.r y.1 (by omega) hy
      have e3 := (A.l_iff (by omega)).mp ((E.iff_A' (x := x) (y := z) (by omega)).mp e1)
      have e4 := (A.l_iff (by omega)).mp ((E.iff_A' (x := y) (y := z) (by omega)).mp e2)
      have e5 := ih (L z.1) (by omega) (by omega) e3 e4
      exact .inr ((A.l_iff (by omega)).mpr e5)
/-- the greatest sign at or ahead of both -/
def Glb (L R : Nat → Sg) (n : Nat) (x y m : Sg) : Prop := m.1 < n ∧ E L R m x ∧ E L R m y ∧ ∀ z : Sg, z.1 < n → E L R z x → E L R z y → E L R z m
def Lub (L R : Nat → Sg) (n : Nat) (x y m : Sg) : Prop := m.1 < n ∧ E L R x m ∧ E L R y m ∧ ∀ z : Sg, z.1 < n → E L R x z → E L R y z → E L R m z
theorem Glb.comm (g : Glb L R n x y m) : Glb L R n y x m := ⟨g.1, g.2.2.1, g.2.1, fun z hz a b => g.2.2.2 z hz b a⟩
theorem Lub.comm (g : Lub L R n x y m) : Lub L R n y x m := ⟨g.1, g.2.2.1, g.2.1, fun z hz a b => g.2.2.2 z hz b a⟩
theorem Bs.left (b : Bs L R n) (hy : y.1 < n) (h0 : 0 < y.1) : E L R (L y.1) y := .inr ((A.l_iff (b.l _ h0 hy)).mpr (.inl rfl))
theorem Bs.right (b : Bs L R n) (hy : y.1 < n) (h0 : 0 < y.1) : E L R y (R y.1) := .inr ((A.r_iff (b.r _ h0 hy)).mpr (.inl rfl))
theorem Glb.go (b : Bs L R n) (hx : x.1 < n) (hy : y.1 < n) (h : x.1 < y.1) (na : ¬ A L R y x) (g : Glb L R n x (L y.1) m) : Glb L R n x y m :=
  ⟨g.1, g.2.1, b.etr g.1 (Nat.lt_trans (b.l _ (by omega) hy) hy) hy g.2.2.1 (b.left hy (by omega)), fun z hz e1 e2 => g.2.2.2 z hz e1 (b.down hx hy h na _ z (Nat.lt_succ_self _) hz e1 e2)⟩
theorem Lub.go (b : Bs L R n) (hx : x.1 < n) (hy : y.1 < n) (h : x.1 < y.1) (na : ¬ A L R x y) (g : Lub L R n x (R y.1) m) : Lub L R n x y m :=
  ⟨g.1, g.2.1, b.etr hy (Nat.lt_trans (b.r _ (by omega) hy) hy) g.1 (b.right hy (by omega)) g.2.2.1, fun z hz e1 e2 => g.2.2.2 z hz e1 (b.rise hx hy h na _ z (Nat.lt_succ_self _) hz e1 e2)⟩
theorem Mt.glb (b : Bs L R n) (t : Mt L R x y m) : x.1 < n → y.1 < n → Glb L R n x y m := by
  induction t with
  | @same x y h =>
    intro hx hy
    by_cases c : y.2 < x.2
    · rw [if_pos c]
      exact ⟨hy, .inr (.same h.symm c), .inl rfl, fun z hz _ e => e⟩
    · rw [if_neg c]
      exact ⟨hx, .inl rfl, (E.iff_le' h).mpr (by omega), fun z hz e _ => e⟩
  | rTop h a => intro hx hy; exact ⟨hx, .inl rfl, .inr a, fun z hz e _ => e⟩
  | rGo h a t ih => intro hx hy; exact (Glb.go b hy hx h a (ih hy (Nat.lt_trans (b.l _ (by omega) hx) hx))).comm
  | lTop h a => intro hx hy; exact ⟨hy, .inr a, .inl rfl, fun z hz _ e => e⟩
  | lGo h a t ih => intro hx hy; exact Glb.go b hx hy h a (ih hx (Nat.lt_trans (b.l _ (by omega) hy) hy))
theorem Jn.lub (b : Bs L R n) (t : Jn L R x y m) : x.1 < n → y.1 < n → Lub L R n x y m := by
  induction t with
  | @same x y h =>
    intro hx hy
    by_cases c : x.2 < y.2
    · rw [if_pos c]
      exact ⟨hy, .inr (.same h c), .inl rfl, fun z hz _ e => e⟩
    · rw [if_neg c]
      exact ⟨hx, .inl rfl, (E.iff_le' h.symm).mpr (by omega), fun z hz e _ => e⟩
  | rTop h a => intro hx hy; exact ⟨hx, .inl rfl, .inr a, fun z hz e _ => e⟩
  | rGo h a t ih => intro hx hy; exact (Lub.go b hy hx h a (ih hy (Nat.lt_trans (b.r _ (by omega) hx) hx))).comm
  | lTop h a => intro hx hy; exact ⟨hy, .inr a, .inl rfl, fun z hz _ e => e⟩
  | lGo h a t ih => intro hx hy; exact Lub.go b hx hy h a (ih hx (Nat.lt_trans (b.r _ (by omega) hy) hy))
theorem Glb.uniq (b : Bs L R n) {k : Sg} (g : Glb L R n x y m) (h : Glb L R n x y k) : m = k := b.anti g.1 h.1 (h.2.2.2 m g.1 g.2.1 g.2.2.1) (g.2.2.2 k h.1 h.2.1 h.2.2.1)
theorem Lub.uniq (b : Bs L R n) {k : Sg} (g : Lub L R n x y m) (h : Lub L R n x y k) : m = k := b.anti g.1 h.1 (g.2.2.2 k h.1 h.2.1 h.2.2.1) (h.2.2.2 m g.1 g.2.1 g.2.2.1)
end
end Tl
namespace Tl
section
variable {L R L' R' : Nat → Sg} {sz : Nat → Nat} {n : Nat} {x y m : Sg}
theorem Mt.ex (w : Wv L R sz n) : ∀ k, ∀ x y : Sg, x.1 + y.1 < k → Ok sz n x → Ok sz n y → ∃ m, Mt L R x y m ∧ Ok sz n m := by
  intro k
  induction k with
  | zero => intro x y h; omega
  | succ k ih =>
    intro x y h ox oy
    rcases Nat.lt_trichotomy x.1 y.1 with c | c | c
    · by_cases a : A L R y x
      · exact ⟨y, .lTop c a, oy⟩
      · have hl := w.l y.1 (by omega) oy.1
        obtain ⟨m, h1, h2⟩ := ih x (L y.1) (by omega) ox (w.okL (by omega) oy.1)
        exact ⟨m, .lGo c a h1, h2⟩
    · refine ⟨_, .same c, ?_⟩
      split
      · exact oy
      · exact ox
    · by_cases a : A L R x y
      · exact ⟨x, .rTop c a, ox⟩
      · have hl := w.l x.1 (by omega) ox.1
        obtain ⟨m, h1, h2⟩ := ih y (L x.1) (by omega) oy (w.okL (by omega) ox.1)
        exact ⟨m, .rGo c a h1, h2⟩
theorem Jn.ex (w : Wv L R sz n) : ∀ k, ∀ x y : Sg, x.1 + y.1 < k → Ok sz n x → Ok sz n y → ∃ m, Jn L R x y m ∧ Ok sz n m := by
  intro k
  induction k with
  | zero => intro x y h; omega
  | succ k ih =>
    intro x y h ox oy
    rcases Nat.lt_trichotomy x.1 y.1 with c | c | c
    · by_cases a : A L R x y
      · exact ⟨y, .lTop c a, oy⟩
      · have hl := w.r y.1 (by omega) oy.1
        obtain ⟨m, h1, h2⟩ := ih x (R y.1) (by omega) ox (w.okR (by omega) oy.1)
        exact ⟨m, .lGo c a h1, h2⟩
    · refine ⟨_, .same c, ?_⟩
      split
      · exact oy
      · exact ox
    · by_cases a : A L R y x
      · exact ⟨x, .rTop c a, ox⟩
      · have hl := w.r x.1 (by omega) ox.1
        obtain ⟨m, h1, h2⟩ := ih y (R x.1) (by omega) oy (w.okR (by omega) ox.1)
        exact ⟨m, .rGo c a h1, h2⟩
/-- in wider births the same -/
theorem A.wide (w : Wv L R sz n) (hl : ∀ c, c < n → L c = L' c) (hr : ∀ c, c < n → R c = R' c) (hx : x.1 < n) (hy : y.1 < n) : A L R x y ↔ A L' R' x y :=
  ⟨fun a => A.congr (n := n) (fun c _ h => hl c h) (fun c _ h => hr c h) (fun c h0 h => ⟨w.l c h0 h, w.r c h0 h⟩) a hx hy,
   fun a => A.congr (n := n) (fun c _ h => (hl c h).symm) (fun c _ h => (hr c h).symm) (fun c h0 h => ⟨hl c h ▸ w.l c h0 h, hr c h ▸ w.r c h0 h⟩) a hx hy⟩
theorem Mt.wide (w : Wv L R sz n) (hl : ∀ c, c < n → L c = L' c) (hr : ∀ c, c < n → R c = R' c) (t : Mt L R x y m) : x.1 < n → y.1 < n → Mt L' R' x y m := by
  induction t with
  | same h => exact fun _ _ => .same h
  | rTop h a => exact fun hx hy => .rTop h ((A.wide w hl hr hx hy).mp a)
  | @rGo x y m h a t ih =>
    intro hx hy
    have z := w.l x.1 (by omega) hx
    exact .rGo h (fun b => a ((A.wide w hl hr hx hy).mpr b)) (hl x.1 hx ▸ ih hy (by omega))
  | lTop h a => exact fun hx hy => .lTop h ((A.wide w hl hr hy hx).mp a)
  | @lGo x y m h a t ih =>
    intro hx hy
    have z := w.l y.1 (by omega) hy
    exact .lGo h (fun b => a ((A.wide w hl hr hy hx).mpr b)) (hl y.1 hy ▸ ih hx (by omega))
theorem Jn.wide (w : Wv L R sz n) (hl : ∀ c, c < n → L c = L' c) (hr : ∀ c, c < n → R c = R' c) (t : Jn L R x y m) : x.1 < n → y.1 < n → Jn L' R' x y m := by
  induction t with
  | same h => exact fun _ _ => .same h
  | rTop h a => exact fun hx hy => .rTop h ((A.wide w hl hr hy hx).mp a)
  | @rGo x y m h a t ih =>
    intro hx hy
    have z := w.r x.1 (by omega) hx
    exact .rGo h (fun b => a ((A.wide w hl hr hy hx).mpr b)) (hr x.1 hx ▸ ih hy (by omega))
  | lTop h a => exact fun hx hy => .lTop h ((A.wide w hl hr hx hy).mp a)
  | @lGo x y m h a t ih =>
    intro hx hy
    have z := w.r y.1 (by omega) hy
    exact .lGo h (fun b => a ((A.wide w hl hr hx hy).mpr b)) (hr y.1 hy ▸ ih hx (by omega))
theorem Mt.det (b : Bs L R n) {k : Sg} (hx : x.1 < n) (hy : y.1 < n) (t : Mt L R x y m) (s : Mt L R x y k) : m = k := Glb.uniq b (t.glb b hx hy) (s.glb b hx hy)
theorem Jn.det (b : Bs L R n) {k : Sg} (hx : x.1 < n) (hy : y.1 < n) (t : Jn L R x y m) (s : Jn L R x y k) : m = k := Lub.uniq b (t.lub b hx hy) (s.lub b hx hy)
end
/-- one alone -/
theorem filter_one {p : Nat → Bool} {k : Nat} : ∀ {N : Nat}, k < N → (∀ i, i < N → (p i = true ↔ i = k)) → (List.range N).filter p = [k]
  | 0, h, _ => absurd h (Nat.not_lt_zero _)
  | N + 1, h, hp => by
    rw [List.range_succ, List.filter_append]
    by_cases c : k < N
    · rw [filter_one c fun i hi => hp i (by omega)]
      have z : p N = false := by
        rw [Bool.eq_false_iff]
        intro e
        have := (hp N (by omega)).mp e
        omega
      simp [z]
    · have e : k = N := by omega
      subst e
      have z : p k = true := (hp k (by omega)).mpr rfl
      have z2 : (List.range k).filter p = [] := List.filter_eq_nil_iff.mpr fun i hi he => by
        have h1 := List.mem_range.mp hi
        have := (hp i (by omega)).mp he
        omega
      rw [z2]
      simp [z]
/-- a mask within another one -/
theorem and_within {c d : Nat} : c &&& d = c ↔ ∀ j, c.testBit j = true → d.testBit j = true := by
  constructor
  · intro h j hj
    rw [← h, Nat.testBit_and, Bool.and_eq_true] at hj
    exact hj.2
  · intro h
    refine Nat.eq_of_testBit_eq fun j => ?_
    rw [Nat.testBit_and]
    cases hc : c.testBit j with
    | false => rfl
    | true => rw [h j hc]; rfl
end Tl
namespace Dk
open PySem PySem.Spec PyProof.Rows L2
/-! ### what never runs -/
def tNv : TE := fun _ _ _ => False
theorem pe_never {X : Cx} {e : Expr} : PE X e tNv := ⟨fun _ _ _ _ _ _ h => h.elim⟩
/-! ### keywords alone -/
section
variable {X : Cx} {CX : CXT} {k : Nat} {f : Addr} {fd : FuncData} {ps ks : List Str} {sp : Sp} {E : XK} {x : Str} {p pos : Pos} {kws : List Keyword} {tk : TA} {g : List Value → List Value → List Value} {gV : List V → List V → List V}
def tCallK0 (sp : Sp) (gV : List V → List V → List V) (E : XK) (tk : TA) : TE := fun σ H Q => tk σ H fun zs H2 => sp (gV [] zs) H2 Q E
theorem pe_callK0 (F : FnOk X.prog X.w X.K X.mg X.base CX k f fd ps sp) (hr : Room k X.A) (hg : Gl X x) (hm : X.mg x = some (.ref f)) (hk : PySem.W.keepIn X.K (.ref f) = true) (hb : KBinds X.K fd ps ks g gV) (hx : Passes CX X E)
    (hkw : PK X kws tk) (hall : (backToKw pos (keywordEach kws X.env)).all (·.1.isSome) = true := by rfl) (hks : (backToKw pos (keywordEach kws X.env)).filterMap (·.1) = ks := by rfl)
    (hdb : (x == ("__debug__" : Str)) = false := by decide)
    (hpl : ((backTo pos (starEach [] X.env)).any (·.1) || (backToKw pos (keywordEach kws X.env)).any (·.1.isNone)) = false := by rfl) :
    PE X (.Call (.Name x p) [] kws pos) (tCallK0 sp gV E tk) := by
  refine ⟨fun pins s σ H Q I h => ?_⟩
  refine wpAny_Call_Name_kw (ld_glob I hg hm ?_ hdb)
  refine PySem.W.callWith_KW0 (h₀ := X.base) I.ok.mod.kin hk hall (thn (hkw.run pos pins s σ H _ I h) fun ws s2 ⟨zs, H2, I2, rz, q2⟩ => ⟨I2.kIn, ?_⟩) hpl
  rw [hks]
  exact run_fnk (us := []) (vs := []) F hr hb hx I2 .nil rz q2
theorem r_callK0 {σ : L2.St} {H : Hp} {Q : VK} (h : tk σ H fun zs H2 => sp (gV [] zs) H2 Q E) : tCallK0 sp gV E tk σ H Q := h
end
/-- three values put in another order -/
def p201 {α : Type} : List α → List α → List α
  | [], [a, b, c] => [b, c, a]
  | _, _ => []
def p210 {α : Type} : List α → List α → List α
  | [], [a, b, c] => [c, b, a]
  | _, _ => []
def p120 {α : Type} : List α → List α → List α
  | [], [a, b, c] => [c, a, b]
  | _, _ => []
theorem p201_rel {vs zs : List V} {us ws : List Value} (r : Vals vs us) (q : Vals zs ws) : Vals (p201 vs zs) (p201 us ws) := by
  cases r with
  | cons => exact .nil
  | nil => rcases q with _ | ⟨a, _ | ⟨b, _ | ⟨c, _ | _⟩⟩⟩
           · exact .nil
           · exact .nil
           · exact .nil
           · exact .cons b (.cons c (.cons a .nil))
           · exact .nil
theorem p210_rel {vs zs : List V} {us ws : List Value} (r : Vals vs us) (q : Vals zs ws) : Vals (p210 vs zs) (p210 us ws) := by
  cases r with
  | cons => exact .nil
  | nil => rcases q with _ | ⟨a, _ | ⟨b, _ | ⟨c, _ | _⟩⟩⟩
           · exact .nil
           · exact .nil
           · exact .nil
           · exact .cons c (.cons b (.cons a .nil))
           · exact .nil
theorem p120_rel {vs zs : List V} {us ws : List Value} (r : Vals vs us) (q : Vals zs ws) : Vals (p120 vs zs) (p120 us ws) := by
  cases r with
  | cons => exact .nil
  | nil => rcases q with _ | ⟨a, _ | ⟨b, _ | ⟨c, _ | _⟩⟩⟩
           · exact .nil
           · exact .nil
           · exact .nil
           · exact .cons c (.cons a (.cons b .nil))
           · exact .nil
def rAbs : List V → Hp → VK → Prop := fun xs H Q => ∃ i, xs = [.int i] ∧ Q (.int (if i < 0 then -i else i)) H
theorem call_absU {X : Cx} : CallR X (.builtin "abs") rAbs := call_abs
/-! ### steps -/
section
variable {K : PySem.W.Frag} {σ : L2.St} {H H' : Hp} {Q : VK} {v x y : V} {i j : Int}
theorem r_bool {b : Bool} (q : Q (.int (if b then 1 else 0)) H) : rInt1 [.bl b] H Q := .inr ⟨b, rfl, q⟩
theorem r_abs (q : Q (.int (i.natAbs : Nat)) H) : rAbs [.int i] H Q := ⟨i, rfl, by
  have e : (if i < 0 then -i else i) = (i.natAbs : Int) := by split <;> omega
  rw [e]
  exact q⟩
theorem r_catT {p q : Addr} {xs ys : List V} (hp : SqT K H p xs) (hq : SqT K H q ys) (nx : xs ≠ []) (ny : ys ≠ []) (hz : xs.length + ys.length ≤ 1000) (k : ∀ l, H l = none → Q (.ref l) (upd H l (.tup (xs ++ ys)))) : rAddU K (.ref p) (.ref q) H Q :=
  .inr (.inr (.inr ⟨p, q, xs, ys, rfl, rfl, hp, hq, by rw [sizeLine_eq]; omega, fun z => absurd z nx, fun _ z => absurd z ny, fun _ _ => k⟩))
theorem r_pop0 {p : Addr} {xs : List V} (h : H p = some (.lst (x :: xs))) (q : Q x (upd H p (.lst xs))) : rPopAt (.ref p) [.int 0] H Q :=
  ⟨p, x :: xs, 0, 0, x, rfl, rfl, h, by decide, by decide, by
    show (if _ then _ else _) = _
    simp, rfl, q⟩
theorem r_isiT2 {a n m : String} {b c : Bool} {tp : Addr} (hT : H tp = some (.tup [.ty n, .ty m])) (ty : TyX K H x (.type a)) (e1 : kitB a n = some b) (e2 : kitB a m = some c) (q : Q (.bl (b || c)) H) : rIsiT K [x, .ref tp] H Q := by
  refine ⟨x, tp, [.ty n, .ty m], .type a, [.type n, .type m], b || c, rfl, hT, .cons (.ty n) (.cons (.ty m) .nil), ty, ?_, q⟩
  refine kitAny_cons (kit_ty e1) (r := b || c) (fun hb => ?_) (fun hb => by rw [hb]; rfl)
  subst hb
  refine kitAny_cons (kit_ty e2) (fun hc => ?_) (fun hc => by rw [hc]; rfl)
  subst hc
  exact kitAny_nil
end
theorem r_eqP {x y : V} {H : Hp} {Q : VK} (h : scal x y = true) (q : Q (.bl (decide (x = y))) H) : rEq x y H Q := ⟨h, q⟩
theorem r_gunl {K : PySem.W.Frag} {σ : L2.St} {H : Hp} {N : L2.St → Hp → Prop} {vs : List V} {u : TGs} {n : Nat} {a : Addr} (h : SqL K H a vs) (hl : vs.length = n) (k : u vs σ H N) : gUnl K n u (.ref a) σ H N := ⟨a, vs, rfl, h, hl, k⟩
theorem r_slT {K : PySem.W.Frag} {H : Hp} {Q : VK} {p : Addr} {xs : List V} {n : Nat} (h : SqT K H p xs) (k1 : xs.length ≤ n → Q (.ref p) H) (k2 : ∀ l, H l = none → Q (.ref l) (upd H l (.tup (xs.take n)))) : rSlU K (.ref p) none (some (n : Int)) H Q := by
  refine .inr (.inr ⟨p, xs, rfl, h, fun z => k1 ?_, fun _ l hl => ?_⟩)
  · have e := z.2
    rw [HT.sIx_nat] at e
    omega
  · rw [cutV_to]
    exact k2 l hl
theorem cutV_from (xs : List V) (n : Nat) : cutV xs (some (n : Int)) none = xs.drop n := by
  unfold cutV
  rw [HT.sIx_nat, HT.sIx_none]
  by_cases h : n ≤ xs.length
  · rw [Nat.min_eq_left h, List.take_of_length_le (by rw [List.length_drop]; omega)]
  · rw [Nat.min_eq_right (by omega), Nat.sub_self, List.take_zero, List.drop_eq_nil_of_le (by omega)]
theorem r_break {σ : L2.St} {H : Hp} {D : Ends} (q : D.bk σ H) : tBreak D σ H := q
theorem r_yes {σ : L2.St} {H : Hp} {QB : Bool → Hp → Prop} (q : QB true H) : tYes σ H QB := q
theorem _root_.L2.Room.units65 {k : Nat} {A : Around} (r : L2.Room k A) : A.units + 65 < cLine := by
  have := r.un
  omega
theorem r_lcRo {ta : TA} {g : TG} {tt : TT} {te : TE} {vs : List Nat} {σ : L2.St} {H : Hp} {Q : VK} (h : ta σ H fun us H1 => ∃ j : Int, us = [.int j] ∧ -(2 ^ 62) ≤ j ∧ j < 2 ^ 62 ∧ ∀ D, H1 D = none → ∃ W : Nat → Nat → Hp → Prop, (∃ m, W 0 m (upd H1 D (.lst []))) ∧ ∀ i m H, W i m H →
  ((Itr 0 j.toNat).stop i H ∧ Q (.ref D) H) ∨ ((Itr 0 j.toNat).go i H ∧ ∃ Nx : Hp → Prop, (∀ H', Nx H' → ∃ m', m' < m ∧ W (i + 1) m' H') ∧ ∀ x H', (Itr 0 j.toNat).yld i H x H' → g x (wipe σ vs) H' fun σ2 H2 => wipe σ2 vs = wipe σ vs ∧ tt σ2 H2 fun b H3 =>
    if b = true then te σ2 H3 fun y H4 => ∃ acc, H4 D = some (.lst acc) ∧ acc.length < sizeLine ∧ Nx (upd H4 D (.lst (acc ++ [y]))) else Nx H3)) : tLc (iRng1 ta) g tt te vs σ H Q := h
/-- [.. for x in range(n)] -/
theorem l_lcR {n : Int} {g : TG} {tt : TT} {te : TE} {vs : List Nat} {σ : L2.St} {H1 : Hp} {Qd : Addr → Hp → Prop} (n0 : -1000000 ≤ n) (n1 : n ≤ 1000000) (Pv : Addr → Nat → Hp → Prop) (h0 : ∀ D, H1 D = none → Pv D 0 (upd H1 D (.lst [])))
    (hs : ∀ D (i : Nat) H, H1 D = none → (i : Int) < n → Pv D i H → g (.int (i : Nat)) (wipe σ vs) H fun σ2 H2 => wipe σ2 vs = wipe σ vs ∧ tt σ2 H2 fun b H3 =>
      if b = true then te σ2 H3 fun y H4 => ∃ acc, H4 D = some (.lst acc) ∧ acc.length < sizeLine ∧ Pv D (i + 1) (upd H4 D (.lst (acc ++ [y]))) else Pv D (i + 1) H3) (hd : ∀ D H, H1 D = none → Pv D n.toNat H → Qd D H) :
    ∃ j : Int, [V.int n] = [.int j] ∧ -(2 ^ 62) ≤ j ∧ j < 2 ^ 62 ∧ ∀ D, H1 D = none → ∃ W : Nat → Nat → Hp → Prop, (∃ m, W 0 m (upd H1 D (.lst []))) ∧ ∀ i m H, W i m H →
  ((Itr 0 j.toNat).stop i H ∧ Qd D H) ∨ ((Itr 0 j.toNat).go i H ∧ ∃ Nx : Hp → Prop, (∀ H', Nx H' → ∃ m', m' < m ∧ W (i + 1) m' H') ∧ ∀ x H', (Itr 0 j.toNat).yld i H x H' → g x (wipe σ vs) H' fun σ2 H2 => wipe σ2 vs = wipe σ vs ∧ tt σ2 H2 fun b H3 =>
    if b = true then te σ2 H3 fun y H4 => ∃ acc, H4 D = some (.lst acc) ∧ acc.length < sizeLine ∧ Nx (upd H4 D (.lst (acc ++ [y]))) else Nx H3) := by
  refine ⟨n, rfl, by omega, by omega, fun D hD => lc_range (lo := 0) (Pv D) (h0 D hD) (fun i H hi p => ?_) fun H p => hd D H hD p⟩
  have z := hs D i H hD (by omega) p
  rw [Int.zero_add]
  exact z
/-- for c in range(1, n) -/
theorem l_R1n {n : Nat} {g : TG} {tb : TS} {σ : L2.St} {H : Hp} {D : Ends} (h1 : 1 ≤ n) (h2 : n ≤ 1000000) (Pv : Nat → L2.St → Hp → Prop) (p0 : Pv 1 σ H)
    (ht : ∀ (c : Nat) σ H, 1 ≤ c → c < n → Pv c σ H → g (.int (c : Nat)) σ H fun σ2 H2 => tb { D with nx := Pv (c + 1), ct := Pv (c + 1), bk := D.nx } σ2 H2) (hd : ∀ σ H, Pv n σ H → D.nx σ H) :
    ∃ i j : Int, [V.int 1, V.int (n : Nat)] = [.int i, .int j] ∧ (-(2 ^ 62) ≤ i ∧ i < 2 ^ 62 ∧ -(2 ^ 62) ≤ j ∧ j < 2 ^ 62) ∧ LoopW (Itr i (j - i).toNat) g tb D σ H := by
  refine ⟨1, n, rfl, ⟨by omega, by omega, by omega, by omega⟩, for_range (fun i => Pv (i + 1)) p0 (fun i σ H hi p => ?_) fun σ H p => hd σ H ?_⟩
  · have z := ht (i + 1) σ H (by omega) (by omega) p
    rw [show (1 : Int) + (i : Nat) = ((i + 1 : Nat) : Int) by omega]
    exact z
  · have e : ((n : Int) - 1).toNat + 1 = n := by omega
    rw [e] at p
    exact p
theorem r_lcLo {K : PySem.W.Frag} {tl : TE} {g : TG} {tt : TT} {te : TE} {vs : List Nat} {σ : L2.St} {H : Hp} {Q : VK} (h : tl σ H fun x H1 => ∃ a, x = .ref a ∧ (∃ xs, SqL K H1 a xs) ∧ ∀ D, H1 D = none → ∃ W : Nat → Nat → Hp → Prop, (∃ m, W 0 m (upd H1 D (.lst []))) ∧ ∀ i m H, W i m H →
  ((Itl K a).stop i H ∧ Q (.ref D) H) ∨ ((Itl K a).go i H ∧ ∃ Nx : Hp → Prop, (∀ H', Nx H' → ∃ m', m' < m ∧ W (i + 1) m' H') ∧ ∀ x H', (Itl K a).yld i H x H' → g x (wipe σ vs) H' fun σ2 H2 => wipe σ2 vs = wipe σ vs ∧ tt σ2 H2 fun b H3 =>
    if b = true then te σ2 H3 fun y H4 => ∃ acc, H4 D = some (.lst acc) ∧ acc.length < sizeLine ∧ Nx (upd H4 D (.lst (acc ++ [y]))) else Nx H3)) : tLc (iList K tl) g tt te vs σ H Q := h
theorem l_lcL {K : PySem.W.Frag} {a : Addr} {xs : List V} {g : TG} {tt : TT} {te : TE} {vs : List Nat} {σ : L2.St} {H1 : Hp} {Qd : Addr → Hp → Prop} (hs0 : SqL K H1 a xs) (Pv : Addr → Nat → Hp → Prop) (h0 : ∀ D, H1 D = none → Pv D 0 (upd H1 D (.lst []))) (hl : ∀ D i H, Pv D i H → SqL K H a xs)
    (hs : ∀ D (i : Nat) x H, H1 D = none → xs[i]? = some x → Pv D i H → g x (wipe σ vs) H fun σ2 H2 => wipe σ2 vs = wipe σ vs ∧ tt σ2 H2 fun b H3 =>
      if b = true then te σ2 H3 fun y H4 => ∃ acc, H4 D = some (.lst acc) ∧ acc.length < sizeLine ∧ Pv D (i + 1) (upd H4 D (.lst (acc ++ [y]))) else Pv D (i + 1) H3) (hd : ∀ D H, H1 D = none → Pv D xs.length H → Qd D H) :
    ∃ b, V.ref a = .ref b ∧ (∃ xs, SqL K H1 b xs) ∧ ∀ D, H1 D = none → ∃ W : Nat → Nat → Hp → Prop, (∃ m, W 0 m (upd H1 D (.lst []))) ∧ ∀ i m H, W i m H →
  ((Itl K b).stop i H ∧ Qd D H) ∨ ((Itl K b).go i H ∧ ∃ Nx : Hp → Prop, (∀ H', Nx H' → ∃ m', m' < m ∧ W (i + 1) m' H') ∧ ∀ x H', (Itl K b).yld i H x H' → g x (wipe σ vs) H' fun σ2 H2 => wipe σ2 vs = wipe σ vs ∧ tt σ2 H2 fun b H3 =>
    if b = true then te σ2 H3 fun y H4 => ∃ acc, H4 D = some (.lst acc) ∧ acc.length < sizeLine ∧ Nx (upd H4 D (.lst (acc ++ [y]))) else Nx H3) :=
  ⟨a, rfl, ⟨xs, hs0⟩, fun D hD => lc_list (Pv D) (h0 D hD) (fun i H _ p => hl D i H p) (fun i x H hx p => hs D i x H hD hx p) fun H p => hd D H hD p⟩
/-- a test whose outcome does not matter -/
theorem any_test {tt : TT} {σ : L2.St} {H : Hp} {QB : Bool → Hp → Prop} {S : Bool → Hp → Prop} (h : ∀ QB : Bool → Hp → Prop, (∀ c H1, S c H1 → QB c H1) → tt σ H QB) (k : ∀ c H1, S c H1 → QB c H1) : tt σ H QB := h QB k
theorem any_val {te : TE} {σ : L2.St} {H : Hp} {Q : VK} {S : V → Hp → Prop} (h : ∀ Q : VK, (∀ v H1, S v H1 → Q v H1) → te σ H Q) (k : ∀ v H1, S v H1 → Q v H1) : te σ H Q := h Q k
/-! ### bits -/
theorem or_val (x b y : Nat) : Builtin.bitOr (Builtin.bitOr (x : Int) (1 * 2 ^ ((b : Int)).toNat)) (y : Int) = ((x ||| 1 <<< b ||| y : Nat) : Int) := by
  have e : (1 * 2 ^ ((b : Int)).toNat : Int) = ((1 <<< b : Nat) : Int) := by
    rw [Int.toNat_natCast, Nat.one_shiftLeft]
    push_cast
    omega
  have e1 : Builtin.bitOr (x : Int) ((1 <<< b : Nat) : Int) = ((x ||| 1 <<< b : Nat) : Int) := by
    rw [Bits.bitOr_pp (Int.natCast_nonneg _) (Int.natCast_nonneg _), Int.toNat_natCast, Int.toNat_natCast]
  rw [e, e1, Bits.bitOr_pp (Int.natCast_nonneg _) (Int.natCast_nonneg _), Int.toNat_natCast, Int.toNat_natCast]
theorem bit_val (x k : Nat) : decide (V.int (Builtin.bitAnd ((x : Int) / 2 ^ ((k : Int)).toNat) 1) = V.int 1) = x.testBit k := by
  have e : Builtin.bitAnd ((x : Int) / 2 ^ ((k : Int)).toNat) 1 = (x : Int) / 2 ^ k % 2 := by
    have z := Bits.bit_at (x := (x : Int)) k
    have hp : (0 : Int) ≤ 2 ^ k := Int.pow_nonneg (by decide)
    rw [Int.fdiv_eq_ediv_of_nonneg _ hp] at z
    rw [Int.toNat_natCast]
    exact z
  rw [e, Bool.eq_iff_iff, decide_eq_true_iff, Nat.testBit_eq_decide_div_mod_eq, decide_eq_true_iff]
  have e2 : (x : Int) / 2 ^ k % 2 = ((x / 2 ^ k % 2 : Nat) : Int) := by push_cast; rfl
  rw [e2]
  constructor
  · intro h
    have := V.int.inj h
    omega
  · intro h
    rw [h]
    rfl
/-! ### the box of the draws: a number and a list of heaps -/
def M31 : Int := 2147483629
structure Bx (H : Hp) (b h : Addr) : Prop where
  ne : b ≠ h
  ex : ∃ (z : Int) (ns : List Int), H b = some (.lst [.int z, .ref h]) ∧ 0 ≤ z ∧ z < M31 ∧ H h = some (.lst (ns.map V.int)) ∧ ns.length ≤ 63
structure Dr2 (b h : Addr) (H H' : Hp) : Prop where
  hh : ∀ x o, x ≠ b → x ≠ h → H x = some o → H' x = some o
  st : Bx H' b h
abbrev A2 (b h : Addr) : Addr → Prop := fun x => x = b ∨ x = h
structure W2 (b h : Addr) (G H : Hp) : Prop where
  g : Ex G H
  nb : G b = none
  nh : G h = none
  st : Bx H b h
section
variable {A : Addr → Prop} {b h p : Addr} {G H G1 H1 H2 : Hp} {o : HO}
theorem Bx.gb (s : Bx H b h) : ∃ o, H b = some o := by
  obtain ⟨_, z, ns, h1, _⟩ := s
  exact ⟨_, h1⟩
theorem Bx.gh (s : Bx H b h) : ∃ o, H h = some o := by
  obtain ⟨_, z, ns, _, _, _, h1, _⟩ := s
  exact ⟨_, h1⟩
theorem Bx.up (s : Bx H b h) (e : Ex H H1) : Bx H1 b h := by
  obtain ⟨n, z, ns, h1, h2, h3, h4, h5⟩ := s
  exact ⟨n, z, ns, e _ _ h1, h2, h3, e _ _ h4, h5⟩
theorem Bx.nb (s : Bx H b h) (hp : H p = none) : p ≠ b := fun z => by
  obtain ⟨o, e⟩ := s.gb
  rw [← z, hp] at e
  cases e
theorem Bx.nh (s : Bx H b h) (hp : H p = none) : p ≠ h := fun z => by
  obtain ⟨o, e⟩ := s.gh
  rw [← z, hp] at e
  cases e
theorem Bx.put (s : Bx H b h) (h1 : p ≠ b) (h2 : p ≠ h) : Bx (upd H p o) b h := by
  obtain ⟨n, z, ns, e1, e2, e3, e4, e5⟩ := s
  exact ⟨n, z, ns, by rw [upd_ne (Ne.symm h1)]; exact e1, e2, e3, by rw [upd_ne (Ne.symm h2)]; exact e4, e5⟩
theorem Bx.na (s : Bx H b h) (hp : H p = none) : ¬ A2 b h p := fun z => z.elim (s.nb hp) (s.nh hp)
theorem Dr2.refl (s : Bx H b h) : Dr2 b h H H := ⟨fun _ _ _ _ e => e, s⟩
theorem Dr2.trans (x : Dr2 b h H H1) (y : Dr2 b h H1 H2) : Dr2 b h H H2 := ⟨fun u o n m e => y.hh u o n m (x.hh u o n m e), y.st⟩
theorem Dr2.ex (s : Bx H b h) (e : Ex H H1) : Dr2 b h H H1 := ⟨fun u o _ _ q => e u o q, s.up e⟩
theorem Dr2.then (x : Dr2 b h H H1) (e : Ex H1 H2) : Dr2 b h H H2 := x.trans (.ex x.st e)
theorem Dr2.new (x : Dr2 b h H H1) (hp : H1 p = none) : Dr2 b h H (upd H1 p o) := x.then (Same.new (Same.refl H1) hp)
theorem Dr2.mut (x : Dr2 b h H H1) (hp : H p = none) (h1 : p ≠ b) (h2 : p ≠ h) : Dr2 b h H (upd H1 p o) :=
  ⟨fun u q n m e => by rw [upd_ne (ne_of_none e hp)]; exact x.hh u q n m e, x.st.put h1 h2⟩
theorem Dr2.fresh (x : Dr2 b h H H1) (hp : H1 p = none) : H p = none := by
  cases e : H p with
  | none => rfl
  | some o =>
    rw [x.hh p o (x.st.nb hp) (x.st.nh hp) e] at hp
    cases hp
theorem Dr2.gr (g : Ex G H) (nb : G b = none) (nh : G h = none) (s : Bx H b h) (d : Dr2 b h H H1) : Gr (A2 b h) G H G H1 where
  gg := Same.refl G
  gh := fun u x e => d.hh u x (ne_of_none e nb) (ne_of_none e nh) (g u x e)
  hh := fun u x z e => d.hh u x (fun q => z (.inl q)) (fun q => z (.inr q)) e
  th := fun u x e => by
    by_cases h1 : u = b
    · rw [h1]
      exact d.st.gb
    by_cases h2 : u = h
    · rw [h2]
      exact d.st.gh
    exact ⟨x, d.hh u x h1 h2 e⟩
  nw := fun u x e z => z
theorem W2.nb1 (x : W2 b h G H) (t : Gr A G H G1 H1) : G1 b = none := by
  obtain ⟨o, e⟩ := x.st.gb
  exact t.nw b _ e x.nb
theorem W2.nh1 (x : W2 b h G H) (t : Gr A G H G1 H1) : G1 h = none := by
  obtain ⟨o, e⟩ := x.st.gh
  exact t.nw h _ e x.nh
theorem W2.step (x : W2 b h G H) (t : Gr (A2 b h) G H G1 H1) (s : Bx H1 b h) : W2 b h G1 H1 := ⟨t.gh, x.nb1 t, x.nh1 t, s⟩
theorem W2.pure (x : W2 b h G H) (t : Gr A0 G H G1 H1) : W2 b h G1 H1 := ⟨t.gh, x.nb1 t, x.nh1 t, x.st.up t.same⟩
theorem W2.ex (x : W2 b h G H) (e : Ex H H1) : W2 b h G H1 := ⟨x.g.trans e, x.nb, x.nh, x.st.up e⟩
theorem W2.gdr (x : W2 b h G H) (d : Dr2 b h H H1) : Gr (A2 b h) G H G H1 := Dr2.gr x.g x.nb x.nh x.st d
theorem W2.dr (x : W2 b h G H) (d : Dr2 b h H H1) : W2 b h G H1 := x.step (x.gdr d) d.st
end
def spPick : Sp := fun vs H Q _ => ∃ (b h : Addr) (n : Int), vs = [.ref b, .int n] ∧ Bx H b h ∧ 0 < n ∧ n ≤ 1000 ∧ ∀ (d : Int) H', 0 ≤ d → d < n → Dr2 b h H H' → Q (.int d) H'
def spDraws (K : PySem.W.Frag) : Sp := fun vs H Q _ => ∃ (s : Addr) (ns : List Int), vs = [.ref s] ∧ SqL K H s (ns.map V.int) ∧ ns.length ≤ 63 ∧ ∀ b h H', Ex H H' → H b = none → H h = none → Bx H' b h → Q (.ref b) H'
def spSay : Sp := fun vs H Q _ => ∃ (b h : Addr) (n : Int), vs = [.ref b, .int n] ∧ Bx H b h ∧ 0 < n ∧ n ≤ 100 ∧ ∀ (t : Str) H', 0 < t.length → (t.length : Int) ≤ n → Dr2 b h H H' → Q (.str t) H'
theorem nat31 {z : Int} (h0 : 0 ≤ z) (h : z < M31) : z.natAbs < 2 ^ 31 := by
  unfold M31 at h
  have e : (2 : Nat) ^ 31 = 2147483648 := by decide
  omega
theorem mix31 (e : Int) : 0 ≤ e % M31 ∧ e % M31 < M31 := ⟨Int.emod_nonneg _ (by decide), Int.emod_lt_of_pos _ (by decide)⟩
/-! ### signs -/
/-- a sign's two numbers -/
def SgV (G : Hp) (v : V) (x : Tl.Sg) : Prop := ∃ p, v = .ref p ∧ G p = some (.tup [.int (x.1 : Nat), .int (x.2 : Nat)])
theorem SgV.up {G G' : Hp} {v : V} {x : Tl.Sg} (e : Ex G G') (h : SgV G v x) : SgV G' v x := h.imp fun _ z => ⟨z.1, e _ _ z.2⟩
abbrev sgD (x : Tl.Sg) : PyData := .tuple [.int (x.1 : Nat), .int (x.2 : Nat)]
theorem SgV.dp {K : PySem.W.Frag} {G : Hp} {v : V} {x : Tl.Sg} (h : SgV G v x) : Dp K G v (sgD x) := by
  obtain ⟨p, rfl, hp⟩ := h
  exact .tup (sqT hp) (.cons (.int _) (.cons (.int _) .nil))
theorem sg_shaped (x : Tl.Sg) : SeqAt.shaped (sgD x) = true := by
  rfl
theorem sg_eqv (x y : Tl.Sg) : PyData.eqv (sgD x) (sgD y) = decide (x = y) := by
  obtain ⟨a, b⟩ := x
  obtain ⟨c, d⟩ := y
  show (PyData.eqv (.int a) (.int c) && (PyData.eqv (.int b) (.int d) && true)) = _
  show (((a : Int) == c) && (((b : Int) == d) && true)) = _
  rw [Bool.eq_iff_iff]
  simp
  omega
theorem r_eqSg {K : PySem.W.Frag} {H : Hp} {Q : VK} {v w : V} {x y : Tl.Sg} (h1 : SgV H v x) (h2 : SgV H w y) (q : Q (.bl (decide (x = y))) H) : rEqU K v w H Q :=
  .inr ⟨_, _, h1.dp, h2.dp, sg_shaped x, sg_shaped y, by rw [sg_eqv]; exact q⟩
/-! ### two lists side by side -/
inductive P2 {α β : Type} (R : α → β → Prop) : List α → List β → Prop where
  | nil : P2 R [] []
  | cons {a : α} {b : β} {l : List α} {m : List β} (h : R a b) (t : P2 R l m) : P2 R (a :: l) (b :: m)
section
variable {α β : Type} {R S : α → β → Prop} {l l' : List α} {m m' : List β}
theorem P2.len (h : P2 R l m) : l.length = m.length := by
  induction h with
  | nil => rfl
  | cons h t ih => rw [List.length_cons, List.length_cons, ih]
theorem P2.get (h : P2 R l m) : ∀ {i : Nat} {a : α}, l[i]? = some a → ∃ b, m[i]? = some b ∧ R a b := by
  induction h with
  | nil => intro i a e; simp at e
  | @cons a b l m h t ih =>
    intro i x e
    cases i with
    | zero => exact ⟨b, rfl, by simp at e; exact e ▸ h⟩
    | succ i =>
      simp at e
      simpa using ih e
theorem P2.get' (h : P2 R l m) : ∀ {i : Nat} {b : β}, m[i]? = some b → ∃ a, l[i]? = some a ∧ R a b := by
  induction h with
  | nil => intro i a e; simp at e
  | @cons a b l m h t ih =>
    intro i x e
    cases i with
    | zero => exact ⟨a, rfl, by simp at e; exact e ▸ h⟩
    | succ i =>
      simp at e
      simpa using ih e
theorem P2.imp (h : P2 R l m) (k : ∀ a b, R a b → S a b) : P2 S l m := by
  induction h with
  | nil => exact .nil
  | cons h t ih => exact .cons (k _ _ h) ih
theorem P2.app (h : P2 R l m) (h' : P2 R l' m') : P2 R (l ++ l') (m ++ m') := by
  induction h with
  | nil => exact h'
  | cons h t ih => exact .cons h ih
theorem P2.snoc {a : α} {b : β} (h : P2 R l m) (k : R a b) : P2 R (l ++ [a]) (m ++ [b]) := h.app (.cons k .nil)
theorem P2.take (h : P2 R l m) : ∀ n, P2 R (l.take n) (m.take n) := by
  induction h with
  | nil => intro n; simp; exact .nil
  | cons h t ih =>
    intro n
    cases n with
    | zero => exact .nil
    | succ n => exact .cons h (ih n)
theorem P2.drop (h : P2 R l m) : ∀ n, P2 R (l.drop n) (m.drop n) := by
  induction h with
  | nil => intro n; simp; exact .nil
  | cons h t ih =>
    intro n
    cases n with
    | zero => exact .cons h t
    | succ n => exact ih n
end
theorem P2.join {α β γ : Type} {R : α → γ → Prop} {S : β → γ → Prop} {U : α → β → Prop} {l : List α} {m : List β} {n : List γ} (h : P2 R l n) (k : ∀ a b c, R a c → S b c → U a b) (g : P2 S m n) : P2 U l m := by
  induction h generalizing m with
  | nil => cases g; exact .nil
  | cons h t ih => cases g with
    | cons h' t' => exact .cons (k _ _ _ h h') (ih t')
/-- a list of signs -/
abbrev SgL (G : Hp) : List V → List Tl.Sg → Prop := P2 (SgV G)
theorem SgL.up {G G' : Hp} {l : List V} {m : List Tl.Sg} (e : Ex G G') (h : SgL G l m) : SgL G' l m := h.imp fun _ _ z => z.up e
theorem SgL.dps {K : PySem.W.Frag} {G : Hp} {l : List V} {m : List Tl.Sg} (h : SgL G l m) : DpAll K G l (m.map sgD) := by
  induction h with
  | nil => exact .nil
  | cons h t ih => exact .cons h.dp ih
theorem sgs_shaped (m : List Tl.Sg) : SeqAt.shaped (.list (m.map sgD)) = true := by
  have key : PyData.canLayAll0 (m.map sgD) = true ∧ PyData.depthAll (m.map sgD) ≤ 2 := by
    induction m with
    | nil => exact ⟨rfl, by decide⟩
    | cons x r ih =>
      refine ⟨?_, ?_⟩
      · show ((sgD x).canLay0 && PyData.canLayAll0 (r.map sgD)) = true
        rw [ih.1]
        rfl
      · show max (sgD x).depth (PyData.depthAll (r.map sgD)) ≤ 2
        have e : (sgD x).depth ≤ 2 := by simp [sgD, PyData.depth, PyData.depthAll]
        omega
  show (PyData.canLayAll0 (m.map sgD) && decide (_ ≤ 64)) = true
  rw [key.1]
  have e : (PyData.list (m.map sgD)).depth = PyData.depthAll (m.map sgD) + 1 := by first | rfl | exact Nat.add_comm _ _
  show decide (_ ≤ 64) = true
  rw [decide_eq_true_iff, e]
  omega
/-- l.index(x), l a list of signs -/
theorem r_indexSg {K : PySem.W.Frag} {H : Hp} {Q : VK} {a : Addr} {xs : List V} {v : V} {m : List Tl.Sg} {x : Tl.Sg} {j : Nat} (hl : SqL K H a xs) (hm : SgL H xs m) (hv : SgV H v x) (hj : m[j]? = some x) (hno : ∀ i, i < j → m[i]? ≠ some x) (q : Q (.int (j : Nat)) H) :
    rIndexD K (.ref a) [v] H Q := by
  refine ⟨a, v, sgD x, m.map sgD, j, sgD x, rfl, rfl, .lst hl hm.dps, hv.dp, sgs_shaped m, sg_shaped x, by rw [List.getElem?_map, hj]; rfl, by rw [sg_eqv]; simp, fun i z hi hz => ?_, q⟩
  rw [List.getElem?_map] at hz
  obtain ⟨y, hy, rfl⟩ := Option.map_eq_some_iff.mp hz
  rw [sg_eqv]
  refine decide_eq_false fun e => hno i hi ?_
  rw [hy, e]
end Dk
/-! min(a, b), max(a, b) of two tuples of numbers; sorted of two -/
namespace Dk
open PySem PySem.Spec PyProof.Rows L2 PySem.SeqAt PySem.W
section
variable {prog : Program} {w : World} {A : Around} {E : Value → Shared → Prop} {s : Shared}
theorem call_min_twoH {a b : Value} {Q : Value → Shared → Prop}
    (h : wpAny (model prog w) A.in1 (pyIter (.ref s.heap.objs.size)) (fun it s₂ => ∃ I fp wr G n P St H bt, it = .ref I ∧ WalksS prog w A.in1 I fp wr G n P St ∧ St 0 s₂ ∧ (∀ b ∈ fp, b < s₂.heap.objs.size) ∧ 0 < n ∧
      (∀ b o, H.get? b = some o → b ∉ wr) ∧ (∀ b o, H.get? b = some o → s₂.heap.get? b = some o) ∧ CmpIn prog w A.in1 .Lt H P bt ∧ ∀ v s', P (argBest bt (n - 1)) v → Moved wr G s₂ s' → Q v s') E
      { s with heap := s.heap.push { cls := .type "tuple", data := .seq #[a, b] } }) :
    wpAny (model prog w) A (call (.builtin "min") [a, b]) Q E s := by
  have hname : (toString "min" ++ toString ".loop" : String) = "min.loop" := by decide
  refine call_function_tree F.kind_min F.plain_min F.entry_min (F.args_min2 _ _) ?_
  show wpAny _ A.in1 (Builtin.Builtins.bindParams "min" ["key", "default"] 0 ⟨[], []⟩ >>= _) _ _ s
  refine wpAny_bind (wpAny_of_eq (show Builtin.Builtins.bindParams "min" ["key", "default"] 0 ⟨[], []⟩ = pure [none, none] from rfl) ?_)
  show wpAny _ A.in1 (newTuple [a, b] >>= _) _ _ s
  refine wpAny_bind (wpAny_newObj_type ?_)
  refine wpAny_bind (wpAny_mono h (fun it s₂ h₂ => ?_) fun _ _ e => e)
  obtain ⟨I, fp, wr, G, n, P, St, H, bt, rfl, W, hst, hfp, hn, hw, hkeep, hcmp, hQ⟩ := h₂
  refine wpAny_bind (wpAny_newObj_type ?_)
  have hSf : s₂.heap.objs.size ∉ fp := fun hm => Nat.lt_irrefl _ (hfp _ hm)
  rw [hname]
  refine wpAny_pure ⟨plainId_quiet F.plain_min_loop _, codeAny_min_loop_firstH W H hw bt hcmp s₂.heap.objs.size hSf (fresh_in hkeep) _ hn (fun b o e => Heap.get?_push_of_some _ (hkeep b o e)) (W.frame 0 s₂ _ s₂.toks hst (Nat.le_refl _) fun b _ o e => Heap.get?_push_of_some _ e) (Heap.get?_push_size _ rfl) fun v s' hP hm => ?_⟩
  exact hQ v s' hP (Moved.drop_new (tk := s₂.toks) hm (Nat.le_refl _))
theorem call_max_twoH {a b : Value} {Q : Value → Shared → Prop}
    (h : wpAny (model prog w) A.in1 (pyIter (.ref s.heap.objs.size)) (fun it s₂ => ∃ I fp wr G n P St H bt, it = .ref I ∧ WalksS prog w A.in1 I fp wr G n P St ∧ St 0 s₂ ∧ (∀ b ∈ fp, b < s₂.heap.objs.size) ∧ 0 < n ∧
      (∀ b o, H.get? b = some o → b ∉ wr) ∧ (∀ b o, H.get? b = some o → s₂.heap.get? b = some o) ∧ CmpIn prog w A.in1 .Gt H P bt ∧ ∀ v s', P (argBest bt (n - 1)) v → Moved wr G s₂ s' → Q v s') E
      { s with heap := s.heap.push { cls := .type "tuple", data := .seq #[a, b] } }) :
    wpAny (model prog w) A (call (.builtin "max") [a, b]) Q E s := by
  have hname : (toString "max" ++ toString ".loop" : String) = "max.loop" := by decide
  refine call_function_tree F.kind_max F.plain_max F.entry_max (F.args_max2 _ _) ?_
  show wpAny _ A.in1 (Builtin.Builtins.bindParams "max" ["key", "default"] 0 ⟨[], []⟩ >>= _) _ _ s
  refine wpAny_bind (wpAny_of_eq (show Builtin.Builtins.bindParams "max" ["key", "default"] 0 ⟨[], []⟩ = pure [none, none] from rfl) ?_)
  show wpAny _ A.in1 (newTuple [a, b] >>= _) _ _ s
  refine wpAny_bind (wpAny_newObj_type ?_)
  refine wpAny_bind (wpAny_mono h (fun it s₂ h₂ => ?_) fun _ _ e => e)
  obtain ⟨I, fp, wr, G, n, P, St, H, bt, rfl, W, hst, hfp, hn, hw, hkeep, hcmp, hQ⟩ := h₂
  refine wpAny_bind (wpAny_newObj_type ?_)
  have hSf : s₂.heap.objs.size ∉ fp := fun hm => Nat.lt_irrefl _ (hfp _ hm)
  rw [hname]
  refine wpAny_pure ⟨plainId_quiet F.plain_max_loop _, codeAny_max_loop_firstH W H hw bt hcmp s₂.heap.objs.size hSf (fresh_in hkeep) _ hn (fun b o e => Heap.get?_push_of_some _ (hkeep b o e)) (W.frame 0 s₂ _ s₂.toks hst (Nat.le_refl _) fun b _ o e => Heap.get?_push_of_some _ e) (Heap.get?_push_size _ rfl) fun v s' hP hm => ?_⟩
  exact hQ v s' hP (Moved.drop_new (tk := s₂.toks) hm (Nat.le_refl _))
theorem min_two_data {a b : Value} {x y : PyData} {as bs : List Addr} {Q : Value → Shared → Prop} (hh : A.handled = none) (ra : Reads s.heap a x as) (rb : Reads s.heap b y bs) (ha : PySem.W.AlikeAll [x, y]) (hu : A.units + 1 + PyData.depthAll [x, y] < cLine)
    (h : ∀ h' tk, (∀ c o, s.heap.get? c = some o → h'.get? c = some o) → Q (if dataLt y x = true then b else a) { s with heap := h', toks := tk }) :
    wpAny (model prog w) A (call (.builtin "min") [a, b]) Q E s := by
  have k0 : ∀ c o, s.heap.get? c = some o → (s.heap.push { cls := .type "tuple", data := .seq #[a, b] }).get? c = some o := fun c o e => Heap.get?_push_of_some _ e
  have hl : ({ s with heap := s.heap.push { cls := .type "tuple", data := .seq #[a, b] } } : Shared).heap.IsTuple s.heap.objs.size #[a, b] := ⟨_, Heap.get?_push_size _ rfl, rfl, 0, rfl⟩
  have hr : ReadsAll (s.heap.push { cls := .type "tuple", data := .seq #[a, b] }) (#[a, b] : Array Value).toList [x, y] _ := ReadsAll.cons (Reads.keeps k0 ra) (ReadsAll.cons (Reads.keeps k0 rb) ReadsAll.nil)
  refine call_min_twoH (iter_tupleW (s := { s with heap := s.heap.push { cls := .type "tuple", data := .seq #[a, b] } }) (A := A.in1) hh hl fun s₂ e W st hfp hw hk => ?_)
  refine ⟨_, _, _, _, _, _, _, (s.heap.push { cls := .type "tuple", data := .seq #[a, b] }), _, rfl, W, st, hfp, by simp, hw, hk, PySem.W.cmpIn_lt (s := { s with heap := s.heap.push { cls := .type "tuple", data := .seq #[a, b] } }) (A := A.in1) hr ha (by show A.units + 1 + _ < _; exact hu), fun v s' hP m => ?_⟩
  obtain ⟨h', tk, rfl, hk'⟩ := moved_old e rfl m
  have hv : v = if dataLt y x = true then b else a := by
    have hP' : (#[a, b] : Array Value)[if dataLt y x = true then 1 else 0]? = some v := hP
    by_cases c : dataLt y x = true
    · rw [if_pos c] at hP' ⊢
      exact (Option.some.inj hP').symm
    · rw [if_neg c] at hP' ⊢
      exact (Option.some.inj hP').symm
  rw [hv]
  exact h h' tk fun c o e => hk' c o (k0 c o e)
theorem max_two_data {a b : Value} {x y : PyData} {as bs : List Addr} {Q : Value → Shared → Prop} (hh : A.handled = none) (ra : Reads s.heap a x as) (rb : Reads s.heap b y bs) (ha : PySem.W.AlikeAll [x, y]) (hu : A.units + 1 + PyData.depthAll [x, y] < cLine)
    (h : ∀ h' tk, (∀ c o, s.heap.get? c = some o → h'.get? c = some o) → Q (if dataLt x y = true then b else a) { s with heap := h', toks := tk }) :
    wpAny (model prog w) A (call (.builtin "max") [a, b]) Q E s := by
  have k0 : ∀ c o, s.heap.get? c = some o → (s.heap.push { cls := .type "tuple", data := .seq #[a, b] }).get? c = some o := fun c o e => Heap.get?_push_of_some _ e
  have hl : ({ s with heap := s.heap.push { cls := .type "tuple", data := .seq #[a, b] } } : Shared).heap.IsTuple s.heap.objs.size #[a, b] := ⟨_, Heap.get?_push_size _ rfl, rfl, 0, rfl⟩
  have hr : ReadsAll (s.heap.push { cls := .type "tuple", data := .seq #[a, b] }) (#[a, b] : Array Value).toList [x, y] _ := ReadsAll.cons (Reads.keeps k0 ra) (ReadsAll.cons (Reads.keeps k0 rb) ReadsAll.nil)
  refine call_max_twoH (iter_tupleW (s := { s with heap := s.heap.push { cls := .type "tuple", data := .seq #[a, b] } }) (A := A.in1) hh hl fun s₂ e W st hfp hw hk => ?_)
  refine ⟨_, _, _, _, _, _, _, (s.heap.push { cls := .type "tuple", data := .seq #[a, b] }), _, rfl, W, st, hfp, by simp, hw, hk, PySem.W.cmpIn_gt (s := { s with heap := s.heap.push { cls := .type "tuple", data := .seq #[a, b] } }) (A := A.in1) hr ha (by show A.units + 1 + _ < _; exact hu), fun v s' hP m => ?_⟩
  obtain ⟨h', tk, rfl, hk'⟩ := moved_old e rfl m
  have hv : v = if dataLt x y = true then b else a := by
    have hP' : (#[a, b] : Array Value)[if dataLt x y = true then 1 else 0]? = some v := hP
    by_cases c : dataLt x y = true
    · rw [if_pos c] at hP' ⊢
      exact (Option.some.inj hP').symm
    · rw [if_neg c] at hP' ⊢
      exact (Option.some.inj hP').symm
  rw [hv]
  exact h h' tk fun c o e => hk' c o (k0 c o e)
end
def rMinD (K : PySem.W.Frag) : List V → Hp → VK → Prop := fun xs H Q => ∃ (u v : V) (d e : PyData), xs = [u, v] ∧ Dp K H u d ∧ Dp K H v e ∧ AlikeAll [d, e] ∧ PyData.depthAll [d, e] ≤ 60 ∧ Q (if dataLt e d = true then v else u) H
def rMaxD2 (K : PySem.W.Frag) : List V → Hp → VK → Prop := fun xs H Q => ∃ (u v : V) (d e : PyData), xs = [u, v] ∧ Dp K H u d ∧ Dp K H v e ∧ AlikeAll [d, e] ∧ PyData.depthAll [d, e] ≤ 60 ∧ Q (if dataLt d e = true then v else u) H
section
variable {X : Cx}
theorem call_minD (hc : X.calm = true) (hu : X.A.units + 65 < cLine) : CallR X (.builtin "min") (rMinD X.K) := by
  intro pins s σ H xs us Q I r h
  obtain ⟨u, v, d, e, rfl, hd, he, ha, hz, q⟩ := h
  obtain ⟨u', v', rfl, ru, rv⟩ := vals2 r
  obtain ⟨as, r1⟩ := Dp.reads I d u u' hd ru
  obtain ⟨bs, r2⟩ := Dp.reads I e v v' he rv
  refine min_two_data (I.ok.hd hc) r1 r2 ha (by omega) fun h' tk k => ⟨_, H, I.kept k, ?_, q⟩
  split
  · exact rv
  · exact ru
theorem call_maxD (hc : X.calm = true) (hu : X.A.units + 65 < cLine) : CallR X (.builtin "max") (rMaxD2 X.K) := by
  intro pins s σ H xs us Q I r h
  obtain ⟨u, v, d, e, rfl, hd, he, ha, hz, q⟩ := h
  obtain ⟨u', v', rfl, ru, rv⟩ := vals2 r
  obtain ⟨as, r1⟩ := Dp.reads I d u u' hd ru
  obtain ⟨bs, r2⟩ := Dp.reads I e v v' he rv
  refine max_two_data (I.ok.hd hc) r1 r2 ha (by omega) fun h' tk k => ⟨_, H, I.kept k, ?_, q⟩
  split
  · exact rv
  · exact ru
end
def kf (p : Addr) (x y : Tl.Sg) (z : V) : Int × Int := if z = V.ref p then ((x.1 : Int), (x.2 : Int)) else ((y.1 : Int), (y.2 : Int))
theorem kf_1 {p : Addr} {x y : Tl.Sg} : kf p x y (.ref p) = ((x.1 : Int), (x.2 : Int)) := if_pos rfl
theorem kf_2 {p q : Addr} {x y : Tl.Sg} (h : V.ref q ≠ V.ref p) : kf p x y (.ref q) = ((y.1 : Int), (y.2 : Int)) := if_neg h
theorem perm2 {α : Type} {l : List α} {a b : α} (h : l.Perm [a, b]) : l = [a, b] ∨ l = [b, a] := by
  have hl := h.length_eq
  match l, hl with
  | [c, d], _ =>
    have hc : c ∈ [a, b] := h.mem_iff.mp (List.mem_cons_self ..)
    rcases List.mem_cons.mp hc with rfl | hc
    · have z := (List.perm_cons c).mp h
      have e := List.perm_singleton.mp z
      rw [e]
      exact .inl rfl
    · have e1 := List.mem_singleton.mp hc
      subst e1
      have z := (List.perm_cons c).mp (h.trans (List.Perm.swap c a []))
      have e := List.perm_singleton.mp z
      rw [e]
      exact .inr rfl
theorem sg_alike (x y : Tl.Sg) : AlikeAll [sgD x, sgD y] := by
  refine ⟨fun a ha b hb => ?_, fun a ha => ?_⟩
  · rcases List.mem_cons.mp ha with rfl | ha <;> rcases List.mem_cons.mp hb with rfl | hb
    · rfl
    · rw [List.mem_singleton.mp hb]; rfl
    · rw [List.mem_singleton.mp ha]; rfl
    · rw [List.mem_singleton.mp ha, List.mem_singleton.mp hb]; rfl
  · rcases List.mem_cons.mp ha with rfl | ha
    · exact fun z => nomatch z
    · rw [List.mem_singleton.mp ha]; exact fun z => nomatch z
theorem sg_lt (x y : Tl.Sg) : dataLt (sgD x) (sgD y) = decide (x.1 < y.1 ∨ (x.1 = y.1 ∧ x.2 < y.2)) := by
  rw [show dataLt (sgD x) (sgD y) = _ from dataLt_ii _ _ _ _, Bool.eq_iff_iff, decide_eq_true_iff, decide_eq_true_iff]
  omega
theorem sg_depth (x y : Tl.Sg) : PyData.depthAll [sgD x, sgD y] ≤ 60 := by simp [sgD, PyData.depth, PyData.depthAll]
section
variable {K : PySem.W.Frag} {H : Hp} {Q : VK} {u v : V} {x y : Tl.Sg}
theorem r_par {i j : Nat} {ta : TA} {σ : L2.St} {H : Hp} {D : Ends} (h : ta σ H fun vs H1 => ∃ v w, vs = [v, w] ∧ D.nx ((σ.set i (some v)).set j (some w)) H1) : tPar i j ta D σ H := h
/-- min of two signs of one chunk -/
theorem r_minSg (h : x.1 = y.1) (su : SgV H u x) (sv : SgV H v y) (q : Q (if y.2 < x.2 then v else u) H) : rMinD K [u, v] H Q := by
  refine ⟨u, v, _, _, rfl, su.dp, sv.dp, sg_alike x y, sg_depth x y, ?_⟩
  have e : (if dataLt (sgD y) (sgD x) = true then v else u) = if y.2 < x.2 then v else u := by
    by_cases c : y.2 < x.2
    · rw [if_pos c, if_pos (by rw [sg_lt, decide_eq_true_iff]; exact .inr ⟨h.symm, c⟩)]
    · rw [if_neg c, if_neg (by rw [sg_lt, decide_eq_true_iff]; omega)]
  rw [e]
  exact q
theorem r_maxSg (h : x.1 = y.1) (su : SgV H u x) (sv : SgV H v y) (q : Q (if x.2 < y.2 then v else u) H) : rMaxD2 K [u, v] H Q := by
  refine ⟨u, v, _, _, rfl, su.dp, sv.dp, sg_alike x y, sg_depth x y, ?_⟩
  have e : (if dataLt (sgD x) (sgD y) = true then v else u) = if x.2 < y.2 then v else u := by
    by_cases c : x.2 < y.2
    · rw [if_pos c, if_pos (by rw [sg_lt, decide_eq_true_iff]; exact .inr ⟨h, c⟩)]
    · rw [if_neg c, if_neg (by rw [sg_lt, decide_eq_true_iff]; omega)]
  rw [e]
  exact q
/-- sorted([one, other]), the chunks differ -/
theorem r_sortSg {p : Addr} (h : x.1 ≠ y.1) (hp : SqL K H p [u, v]) (su : SgV H u x) (sv : SgV H v y) (q : ∀ l, H l = none → Q (.ref l) (upd H l (.lst (if x.1 < y.1 then [u, v] else [v, u])))) : rSortedPO K [.ref p] H Q := by
  obtain ⟨p1, rfl, h1⟩ := su
  obtain ⟨p2, rfl, h2⟩ := sv
  have ne : V.ref p2 ≠ V.ref p1 := fun z => by
    rw [V.ref.inj z, h1] at h2
    injection h2 with h2
    injection h2 with h2
    injection h2 with h3
    have := V.int.inj h3
    omega
  refine ⟨p, _, kf p1 x y, rfl, hp, fun z hz => ?_, fun ys l hs hb hl => ?_⟩
  · rcases List.mem_cons.mp hz with rfl | hz
    · exact ⟨p1, rfl, by rw [kf_1]; exact h1⟩
    · rw [List.mem_singleton.mp hz]
      exact ⟨p2, rfl, by rw [kf_2 ne]; exact h2⟩
  · rcases perm2 hb.perm with rfl | rfl
    · have z := (List.pairwise_cons.mp hs).1 _ (List.mem_singleton.mpr rfl)
      have z' : SrtO.lexB (kf p1 x y (.ref p2)) (kf p1 x y (.ref p1)) = false := z
      rw [kf_1, kf_2 ne] at z'
      have z2 := SrtO.lexB_no.mp z'
      have c : x.1 < y.1 := by
        have : ¬ ((y.1 : Int) < x.1) := fun k => by
          have := (SrtO.lexB_iff (p := ((y.1 : Int), (y.2 : Int))) (q := ((x.1 : Int), (x.2 : Int)))).mpr (.inl k)
          rw [this] at z'
          cases z'
        omega
      have k := q l hl
      rw [if_pos c] at k
      exact k
    · have z := (List.pairwise_cons.mp hs).1 _ (List.mem_singleton.mpr rfl)
      have z' : SrtO.lexB (kf p1 x y (.ref p1)) (kf p1 x y (.ref p2)) = false := z
      rw [kf_1, kf_2 ne] at z'
      have c : ¬ x.1 < y.1 := fun k => by
        have := (SrtO.lexB_iff (p := ((x.1 : Int), (x.2 : Int))) (q := ((y.1 : Int), (y.2 : Int)))).mpr (.inl (by show (x.1 : Int) < y.1; omega))
        rw [this] at z'
        cases z'
      have k := q l hl
      rw [if_neg c] at k
      exact k
end
end Dk
/-! immutable data: kept as long as tuples are kept -/
namespace Dk
open PySem PySem.Spec PyProof.Rows L2
def Tk (H H' : Hp) : Prop := ∀ p xs, H p = some (.tup xs) → H' p = some (.tup xs)
section
variable {H H' H1 H2 : Hp} {b h p l : Addr} {xs ys : List V} {o : HO}
theorem Tk.refl (H : Hp) : Tk H H := fun _ _ e => e
theorem Tk.trans (x : Tk H H1) (y : Tk H1 H2) : Tk H H2 := fun p xs e => y p xs (x p xs e)
theorem Tk.ex (e : Ex H H') : Tk H H' := fun p xs h => e _ _ h
theorem Tk.put (e : H l = some (.lst xs)) : Tk H (upd H l o) := fun p ys h => by
  have n : p ≠ l := fun z => by rw [z, e] at h; cases h
  rw [upd_ne n]
  exact h
theorem Tk.new (e : H p = none) : Tk H (upd H p o) := .ex (Same.new (Same.refl H) e)
theorem Bx.tk (s : Bx H b h) (d : Dr2 b h H H') : Tk H H' := fun p xs e => by
  obtain ⟨_, z, ns, h1, _, _, h2, _⟩ := s
  exact d.hh p _ (fun q => by rw [q, h1] at e; cases e) (fun q => by rw [q, h2] at e; cases e) e
end
/-- a relation between values and data that tuples alone bear -/
class Imm {α : Type} (R : Hp → V → α → Prop) : Prop where
  tk : ∀ {H H' : Hp} {v : V} {x : α}, Tk H H' → R H v x → R H' v x
theorem imm {α : Type} {R : Hp → V → α → Prop} [i : Imm R] {H H' : Hp} {v : V} {x : α} (t : Tk H H') (r : R H v x) : R H' v x := i.tk t r
def IntV (H : Hp) (v : V) (n : Nat) : Prop := v = .int (n : Nat)
def StrV (H : Hp) (v : V) (z : Str) : Prop := v = .str z
def PairV {α β : Type} (R : Hp → V → α → Prop) (S : Hp → V → β → Prop) (H : Hp) (v : V) (x : α × β) : Prop := ∃ (p : Addr) (a b : V), v = .ref p ∧ H p = some (.tup [a, b]) ∧ R H a x.1 ∧ S H b x.2
def TupV {α : Type} (R : Hp → V → α → Prop) (H : Hp) (v : V) (l : List α) : Prop := ∃ (p : Addr) (xs : List V), v = .ref p ∧ H p = some (.tup xs) ∧ P2 (R H) xs l
instance : Imm IntV := ⟨fun _ h => h⟩
instance : Imm StrV := ⟨fun _ h => h⟩
instance : Imm SgV := ⟨fun t h => h.imp fun p z => ⟨z.1, t _ _ z.2⟩⟩
instance {α β : Type} {R : Hp → V → α → Prop} {S : Hp → V → β → Prop} [Imm R] [Imm S] : Imm (PairV R S) := ⟨fun t h => by
  obtain ⟨p, a, b, h1, h2, h3, h4⟩ := h
  exact ⟨p, a, b, h1, t _ _ h2, imm t h3, imm t h4⟩⟩
theorem p2_imm {α : Type} {R : Hp → V → α → Prop} [Imm R] {H H' : Hp} {xs : List V} {l : List α} (t : Tk H H') (h : P2 (R H) xs l) : P2 (R H') xs l := h.imp fun _ _ z => imm t z
instance {α : Type} {R : Hp → V → α → Prop} [Imm R] : Imm (TupV R) := ⟨fun t h => by
  obtain ⟨p, xs, h1, h2, h3⟩ := h
  exact ⟨p, xs, h1, t _ _ h2, p2_imm t h3⟩⟩
section
variable {α β : Type} {R : Hp → V → α → Prop} {S : Hp → V → β → Prop} {K : PySem.W.Frag} {σ : L2.St} {H H' : Hp} {Q : VK} {v u a b : V} {x : α} {y : β} {l m : List α} {xs : List V} {N : L2.St → Hp → Prop}
theorem TupV.ref (h : TupV R H v l) : ∃ p xs, v = .ref p ∧ H p = some (.tup xs) ∧ P2 (R H) xs l := h
theorem r_ixTV {i : Nat} (h : TupV R H v l) (hx : l[i]? = some x) (q : ∀ u, R H u x → Q u H) : rIx K v (.int (i : Nat)) H Q := by
  obtain ⟨p, xs, rfl, hp, hl⟩ := h
  obtain ⟨u, hu, hr⟩ := hl.get' hx
  exact r_ixT (sqT hp) (atI_nat hu) (q u hr)
theorem r_ixTm (h : TupV R H v (l ++ [x])) (q : ∀ u, R H u x → Q u H) : rIx K v (.int (-1)) H Q := by
  obtain ⟨p, xs, rfl, hp, hl⟩ := h
  have hlen := hl.len
  obtain ⟨u, hu, hr⟩ := hl.get' (i := l.length) (b := x) (by simp)
  rw [List.length_append, List.length_singleton] at hlen
  have e : xs = xs.dropLast ++ [u] := by
    have hne : xs ≠ [] := fun z => by rw [z] at hlen; simp at hlen
    have h1 := (List.dropLast_concat_getLast hne).symm
    have h2 : xs.getLast hne = u := by
      have h3 : xs[xs.length - 1]? = some (xs.getLast hne) := by rw [← List.getLast?_eq_getElem?]; exact List.getLast?_eq_some_getLast hne
      rw [hlen, Nat.add_sub_cancel, hu] at h3
      exact (Option.some.inj h3).symm
    rw [h2] at h1
    exact h1
  rw [e] at hp
  exact r_ixT (sqT hp) (atI_last _ _) (q u hr)
theorem r_ixP0 {z : α × β} (h : PairV R S H v z) (q : ∀ u, R H u z.1 → Q u H) : rIx K v (.int 0) H Q := by
  obtain ⟨p, a, b, rfl, hp, ha, hb⟩ := h
  exact r_ixT (sqT hp) (atI_nat (j := 0) rfl) (q a ha)
theorem r_ixP1 {z : α × β} (h : PairV R S H v z) (q : ∀ u, S H u z.2 → Q u H) : rIx K v (.int 1) H Q := by
  obtain ⟨p, a, b, rfl, hp, ha, hb⟩ := h
  exact r_ixT (sqT hp) (atI_nat (j := 1) rfl) (q b hb)
theorem r_ixS0 {z : Tl.Sg} (h : SgV H v z) (q : Q (.int (z.1 : Nat)) H) : rIx K v (.int 0) H Q := by
  obtain ⟨p, rfl, hp⟩ := h
  exact r_ixT (sqT hp) (atI_nat (j := 0) rfl) q
theorem r_ixS1 {z : Tl.Sg} (h : SgV H v z) (q : Q (.int (z.2 : Nat)) H) : rIx K v (.int 1) H Q := by
  obtain ⟨p, rfl, hp⟩ := h
  exact r_ixT (sqT hp) (atI_nat (j := 1) rfl) q
theorem r_lenTV (h : TupV R H v l) (q : Q (.int (l.length : Nat)) H) : rLenU K [v] H Q := by
  obtain ⟨p, xs, rfl, hp, hl⟩ := h
  refine r_lenT (sqT hp) ?_
  rw [hl.len]
  exact q
theorem r_gP {t : TGs} {z : α × β} (h : PairV R S H v z) (k : ∀ a b, R H a z.1 → S H b z.2 → t [a, b] σ H N) : gTup K 2 t v σ H N := by
  obtain ⟨p, a, b, rfl, hp, ha, hb⟩ := h
  exact r_gtup (sqT hp) rfl (k a b ha hb)
theorem r_mkP [Imm R] [Imm S] (ha : R H a x) (hb : S H b y) (q : ∀ p H', H p = none → Ex H H' → PairV R S H' (.ref p) (x, y) → Q (.ref p) H') : [a, b].length ≤ sizeLine ∧ ∀ p, H p = none → Q (.ref p) (upd H p (.tup [a, b])) :=
  r_small nsz fun p hp => q p _ hp (Same.new (Same.refl H) hp) ⟨p, a, b, rfl, upd_same, imm (.new hp) ha, imm (.new hp) hb⟩
theorem r_mkS {i j : Nat} (q : ∀ p H', H p = none → Ex H H' → SgV H' (.ref p) (i, j) → Q (.ref p) H') : [V.int (i : Nat), V.int (j : Nat)].length ≤ sizeLine ∧ ∀ p, H p = none → Q (.ref p) (upd H p (.tup [V.int (i : Nat), V.int (j : Nat)])) :=
  r_small nsz fun p hp => q p _ hp (Same.new (Same.refl H) hp) ⟨p, rfl, upd_same⟩
theorem r_mkT [Imm R] (h : P2 (R H) xs l) (hl : l.length ≤ 1000) (q : ∀ p H', H p = none → Ex H H' → TupV R H' (.ref p) l → Q (.ref p) H') : xs.length ≤ sizeLine ∧ ∀ p, H p = none → Q (.ref p) (upd H p (.tup xs)) :=
  r_small (by rw [h.len]; exact hl) fun p hp => q p _ hp (Same.new (Same.refl H) hp) ⟨p, xs, rfl, upd_same, p2_imm (.new hp) h⟩
theorem r_catTV [Imm R] (h1 : TupV R H v l) (h2 : TupV R H u m) (hz : l.length + m.length ≤ 1000) (q : ∀ w H', Ex H H' → TupV R H' w (l ++ m) → Q w H') : rAddU K v u H Q := by
  obtain ⟨p, xs, rfl, hp, hl⟩ := h1
  obtain ⟨p2, ys, rfl, hp2, hm⟩ := h2
  refine .inr (.inr (.inr ⟨p, p2, xs, ys, rfl, rfl, sqT hp, sqT hp2, Nat.le_of_lt (small1000 (by rw [hl.len, hm.len]; exact hz)), fun z => ?_, fun _ z => ?_, fun _ _ p3 hp3 => ?_⟩))
  · subst z
    cases hl
    exact q _ H (Same.refl H) ⟨p2, ys, rfl, hp2, hm⟩
  · subst z
    cases hm
    rw [List.append_nil] at q
    exact q _ H (Same.refl H) ⟨p, xs, rfl, hp, hl⟩
  · exact q _ _ (Same.new (Same.refl H) hp3) ⟨p3, _, rfl, upd_same, p2_imm (.new hp3) (hl.app hm)⟩
theorem P2.all {l' : List V} {m' : List α} {P : V → α → Prop} (h : P2 P l' m') (lo hi : Option Int) : P2 P (cutV l' lo hi) ((m'.drop (HT.sIx m'.length 0 lo)).take (HT.sIx m'.length m'.length hi - HT.sIx m'.length 0 lo)) := by
  unfold cutV
  rw [h.len]
  exact (h.drop _).take _
theorem r_slTV [Imm R] {lo hi : Option Int} (h : TupV R H v l) (q : ∀ w H', Ex H H' → TupV R H' w ((l.drop (HT.sIx l.length 0 lo)).take (HT.sIx l.length l.length hi - HT.sIx l.length 0 lo)) → Q w H') : rSlU K v lo hi H Q := by
  obtain ⟨p, xs, rfl, hp, hl⟩ := h
  refine .inr (.inr ⟨p, xs, rfl, sqT hp, fun z => ?_, fun _ p2 hp2 => ?_⟩)
  · have e : ((l.drop (HT.sIx l.length 0 lo)).take (HT.sIx l.length l.length hi - HT.sIx l.length 0 lo)) = l := by
      rw [hl.len] at z
      rw [z.1, z.2, List.drop_zero, Nat.sub_zero, List.take_length]
    rw [e] at q
    exact q _ H (Same.refl H) ⟨p, xs, rfl, hp, hl⟩
  · exact q _ _ (Same.new (Same.refl H) hp2) ⟨p2, _, rfl, upd_same, p2_imm (.new hp2) (hl.all lo hi)⟩
theorem cut_to {l : List α} {k : Nat} : (l.drop (HT.sIx l.length 0 none)).take (HT.sIx l.length l.length (some (k : Int)) - HT.sIx l.length 0 none) = l.take k := by
  rw [HT.sIx_nat, HT.sIx_none, List.drop_zero, Nat.sub_zero]
  by_cases h : k ≤ l.length
  · rw [Nat.min_eq_left h]
  · rw [Nat.min_eq_right (by omega), List.take_length, List.take_of_length_le (by omega)]
theorem cut_from {l : List α} {k : Nat} : (l.drop (HT.sIx l.length 0 (some (k : Int)))).take (HT.sIx l.length l.length none - HT.sIx l.length 0 (some (k : Int))) = l.drop k := by
  rw [HT.sIx_nat, HT.sIx_none]
  by_cases h : k ≤ l.length
  · rw [Nat.min_eq_left h, List.take_of_length_le (by rw [List.length_drop]; omega)]
  · rw [Nat.min_eq_right (by omega), Nat.sub_self, List.take_zero, List.drop_eq_nil_of_le (by omega)]
theorem r_slTo [Imm R] {k : Nat} (h : TupV R H v l) (q : ∀ w H', Ex H H' → TupV R H' w (l.take k) → Q w H') : rSlU K v none (some (k : Int)) H Q := r_slTV h (by rw [cut_to]; exact q)
theorem r_slFrom [Imm R] {k : Nat} (h : TupV R H v l) (q : ∀ w H', Ex H H' → TupV R H' w (l.drop k) → Q w H') : rSlU K v (some (k : Int)) none H Q := r_slTV h (by rw [cut_from]; exact q)
/-- tuple(list) -/
theorem r_tupLV [Imm R] {p : Addr} (hp : H p = some (.lst xs)) (h : P2 (R H) xs l) (q : ∀ p H', H p = none → Ex H H' → TupV R H' (.ref p) l → Q (.ref p) H') : rTupU K [.ref p] H Q :=
  r_tupL (sqL hp) fun p2 hp2 => q p2 _ hp2 (Same.new (Same.refl H) hp2) ⟨p2, xs, rfl, upd_same, p2_imm (.new hp2) h⟩
/-- an item of a list -/
theorem r_ixLV {p : Addr} {i : Nat} (hp : H p = some (.lst xs)) (h : P2 (R H) xs l) (hx : l[i]? = some x) (q : ∀ u, R H u x → Q u H) : rIx K (.ref p) (.int (i : Nat)) H Q := by
  obtain ⟨u, hu, hr⟩ := h.get' hx
  exact r_ixL (sqL hp) (atI_nat hu) (q u hr)
theorem r_ixLm {p : Addr} (hp : H p = some (.lst xs)) (h : P2 (R H) xs (l ++ [x])) (q : ∀ u, R H u x → Q u H) : rIx K (.ref p) (.int (-1)) H Q := by
  have hlen := h.len
  obtain ⟨u, hu, hr⟩ := h.get' (i := l.length) (b := x) (by simp)
  rw [List.length_append, List.length_singleton] at hlen
  have e : xs = xs.dropLast ++ [u] := by
    have hne : xs ≠ [] := fun z => by rw [z] at hlen; simp at hlen
    have h1 := (List.dropLast_concat_getLast hne).symm
    have h2 : xs.getLast hne = u := by
      have h3 : xs[xs.length - 1]? = some (xs.getLast hne) := by rw [← List.getLast?_eq_getElem?]; exact List.getLast?_eq_some_getLast hne
      rw [hlen, Nat.add_sub_cancel, hu] at h3
      exact (Option.some.inj h3).symm
    rw [h2] at h1
    exact h1
  rw [e] at hp
  exact r_ixL (sqL hp) (atI_last _ _) (q u hr)
end
/-! equality of pairs of signs -/
abbrev SpV := PairV SgV SgV
abbrev spD (x : Tl.Sg × Tl.Sg) : PyData := .tuple [sgD x.1, sgD x.2]
theorem SpV.dp {K : PySem.W.Frag} {G : Hp} {v : V} {x : Tl.Sg × Tl.Sg} (h : SpV G v x) : Dp K G v (spD x) := by
  obtain ⟨p, a, b, rfl, hp, ha, hb⟩ := h
  exact .tup (sqT hp) (.cons ha.dp (.cons hb.dp .nil))
theorem sp_shaped (x : Tl.Sg × Tl.Sg) : SeqAt.shaped (spD x) = true := by rfl
theorem sp_eqv (x y : Tl.Sg × Tl.Sg) : PyData.eqv (spD x) (spD y) = decide (x = y) := by
  obtain ⟨a, b⟩ := x
  obtain ⟨c, d⟩ := y
  show (PyData.eqv (sgD a) (sgD c) && (PyData.eqv (sgD b) (sgD d) && true)) = _
  rw [sg_eqv, sg_eqv, Bool.and_true, Bool.eq_iff_iff]
  simp
theorem r_eqSp {K : PySem.W.Frag} {H : Hp} {Q : VK} {v w : V} {x y : Tl.Sg × Tl.Sg} (h1 : SpV H v x) (h2 : SpV H w y) (q : Q (.bl (decide (x = y))) H) : rEqU K v w H Q :=
  .inr ⟨_, _, h1.dp, h2.dp, sp_shaped x, sp_shaped y, by rw [sp_eqv]; exact q⟩
theorem r_neSp {K : PySem.W.Frag} {H : Hp} {Q : VK} {v w : V} {x y : Tl.Sg × Tl.Sg} (h1 : SpV H v x) (h2 : SpV H w y) (q : Q (.bl (!decide (x = y))) H) : rNeU K v w H Q :=
  .inr ⟨_, _, h1.dp, h2.dp, sp_shaped x, sp_shaped y, by rw [sp_eqv]; exact q⟩
theorem sps_shaped (m : List (Tl.Sg × Tl.Sg)) : SeqAt.shaped (.list (m.map spD)) = true := by
  have key : PyData.canLayAll0 (m.map spD) = true ∧ PyData.depthAll (m.map spD) ≤ 3 := by
    induction m with
    | nil => exact ⟨rfl, by decide⟩
    | cons x r ih =>
      refine ⟨?_, ?_⟩
      · show ((spD x).canLay0 && PyData.canLayAll0 (r.map spD)) = true
        rw [ih.1]
        rfl
      · show max (spD x).depth (PyData.depthAll (r.map spD)) ≤ 3
        have e : (spD x).depth ≤ 3 := by simp [spD, sgD, PyData.depth, PyData.depthAll]
        omega
  show (PyData.canLayAll0 (m.map spD) && decide (_ ≤ 64)) = true
  rw [key.1]
  have e : (PyData.list (m.map spD)).depth = PyData.depthAll (m.map spD) + 1 := by first | rfl | exact Nat.add_comm _ _
  show decide (_ ≤ 64) = true
  rw [decide_eq_true_iff, e]
  omega
theorem sps_dps {K : PySem.W.Frag} {H : Hp} {xs : List V} {m : List (Tl.Sg × Tl.Sg)} (h : P2 (SpV H) xs m) : DpAll K H xs (m.map spD) := by
  induction h with
  | nil => exact .nil
  | cons h t ih => exact .cons (SpV.dp h) ih
/-- pair not in a list of pairs -/
theorem r_niSp {K : PySem.W.Frag} {H : Hp} {Q : VK} {v : V} {p : Addr} {xs : List V} {x : Tl.Sg × Tl.Sg} {m : List (Tl.Sg × Tl.Sg)} (h1 : SpV H v x) (hp : H p = some (.lst xs)) (h2 : P2 (SpV H) xs m) (q : Q (.bl (!decide (x ∈ m))) H) : rNotInD K v (.ref p) H Q := by
  exact ⟨_, _, h1.dp, .lst (sqL hp) (sps_dps h2), sp_shaped x, sps_shaped m, by
    have e : ((m.map spD).any fun z => PyData.eqv z (spD x)) = decide (x ∈ m) := by
      rw [List.any_map, Bool.eq_iff_iff, List.any_eq_true, decide_eq_true_iff]
      constructor
      · rintro ⟨y, hy, e⟩
        rw [Function.comp_apply, sp_eqv, decide_eq_true_iff] at e
        rw [← e]
        exact hy
      · intro h
        exact ⟨x, h, by rw [Function.comp_apply, sp_eqv]; exact decide_eq_true rfl⟩
    rw [e]
    exact q⟩
end Dk
/-! rules of our own, further -/
namespace Dk
open PySem PySem.Spec PyProof.Rows L2
/-! text * number -/
def rRepS : R2 := fun x y H Q => ∃ (z : Str) (n : Nat), x = .str z ∧ y = .int (n : Nat) ∧ z.length ≤ 100 ∧ n ≤ 8000 ∧ Q (.str (Txt.mul z n)) H
theorem op_repS {X : Cx} : OpR X (binaryOp .Mult) rRepS := by
  intro pins s σ H x y v u Q I rx ry h
  obtain ⟨z, n, rfl, rfl, hz, hn, q⟩ := h
  obtain ⟨t, rfl⟩ := rx
  obtain ⟨t', rfl⟩ := ry
  refine SB.mul ⟨?_, fun h1 h2 => ?_, fun h1 h2 => ?_⟩ fun t' k => ⟨.str (Txt.mul z n), H, I.tok _, ⟨_, rfl⟩, q⟩
  · simp
    omega
  · have e : (z.length : Int) * n ≤ 2 ^ 63 - 1 := by
      have : (z.length : Int) * n ≤ 100 * 8000 := Int.mul_le_mul (by omega) (by omega) (by omega) (by omega)
      omega
    have p : (0 : Int) < n := by omega
    have := (Int.le_ediv_iff_mul_le p).mpr e
    omega
  · have e : z.length * n ≤ 100 * 8000 := Nat.mul_le_mul hz hn
    rw [Int.toNat_natCast]
    show decide (z.length * n > sizeLine) = false
    rw [decide_eq_false_iff_not, sizeLine_eq]
    omega
theorem r_repS {H : Hp} {Q : VK} {z : Str} {n : Nat} (hz : z.length ≤ 100) (hn : n ≤ 8000) (q : Q (.str (Txt.mul z n)) H) : rRepS (.str z) (.int (n : Nat)) H Q := ⟨z, n, rfl, rfl, hz, hn, q⟩
theorem cs_mul (z : Str) (n : Nat) : cs (Txt.mul z n) = (List.replicate n (cs z)).flatten := by
  unfold Txt.mul
  by_cases h1 : (n : Int) < 1
  · have e : n = 0 := by omega
    subst e
    rw [if_pos h1]
    rfl
  · rw [if_neg h1]
    by_cases h2 : ((n : Int) == 1 || z.length == 0) = true
    · rw [if_pos h2]
      rw [Bool.or_eq_true, beq_iff_eq, beq_iff_eq] at h2
      rcases h2 with h2 | h2
      · have e : n = 1 := by omega
        subst e
        simp
      · have e : cs z = [] := List.length_eq_zero_iff.mp (by rw [cs_len]; exact h2)
        rw [e]
        simp
    · rw [if_neg h2, Int.toNat_natCast]
      have key : ∀ (m : Nat) (a : Array Nat), ((List.replicate m z.cps).foldl (fun x y => x ++ y) a).toList = a.toList ++ (List.replicate m (cs z)).flatten := by
        intro m
        induction m with
        | zero => intro a; simp
        | succ m ih =>
          intro a
          rw [List.replicate_succ, List.foldl_cons, ih, List.replicate_succ, List.flatten_cons, Array.toList_append, List.append_assoc]
      have q := key n #[]
      simpa using q
theorem len_mul (z : Str) (n : Nat) : (Txt.mul z n).length = n * z.length := by
  rw [← cs_len, cs_mul, List.length_flatten, List.map_replicate, List.sum_replicate_nat, cs_len]
/-! reversed(a tuple) -/
theorem r_forRvo {K : PySem.W.Frag} {te : TE} {g : TG} {tb : TS} {D : Ends} {σ : L2.St} {H : Hp} (h : te σ H fun v H1 => ∃ (a : Addr) (xs : List V), v = .ref a ∧ ((SqL K H1 a xs ∧ LoopW (Itv K a xs.length) g tb D σ H1) ∨ (SqT K H1 a xs ∧ LoopW (RT.ItvT K a xs.length) g tb D σ H1))) : tFor (RT.iRevA K te) g tb D σ H := h
theorem r_mkSi {H : Hp} {Q : VK} {a b : Int} {i j : Nat} (ea : a = (i : Nat)) (eb : b = (j : Nat)) (q : ∀ p H', H p = none → Ex H H' → SgV H' (.ref p) (i, j) → Q (.ref p) H') : [V.int a, V.int b].length ≤ sizeLine ∧ ∀ p, H p = none → Q (.ref p) (upd H p (.tup [V.int a, V.int b])) := by
  subst ea eb
  exact r_mkS q
section
variable {α β : Type} {R : Hp → V → α → Prop} {S : Hp → V → β → Prop} {H : Hp} {p : Addr} {u v : V} {x : α} {y : β} {l : List α} {xs : List V}
theorem nP [Imm R] [Imm S] (hp : H p = none) (ha : R H u x) (hb : S H v y) : ∃ H', H' = upd H p (.tup [u, v]) ∧ Ex H H' ∧ PairV R S H' (.ref p) (x, y) :=
  ⟨_, rfl, Same.new (Same.refl H) hp, p, u, v, rfl, upd_same, imm (.new hp) ha, imm (.new hp) hb⟩
theorem nS {a b : Int} {i j : Nat} (hp : H p = none) (ea : a = (i : Nat)) (eb : b = (j : Nat)) : ∃ H', H' = upd H p (.tup [V.int a, V.int b]) ∧ Ex H H' ∧ SgV H' (.ref p) (i, j) := by
  subst ea eb
  exact ⟨_, rfl, Same.new (Same.refl H) hp, p, rfl, upd_same⟩
theorem nT [Imm R] (hp : H p = none) (h : P2 (R H) xs l) : ∃ H', H' = upd H p (.tup xs) ∧ Ex H H' ∧ TupV R H' (.ref p) l :=
  ⟨_, rfl, Same.new (Same.refl H) hp, p, xs, rfl, upd_same, p2_imm (.new hp) h⟩
theorem nL (o : HO) (hp : H p = none) : ∃ H', H' = upd H p o ∧ Ex H H' ∧ H' p = some o := ⟨_, rfl, Same.new (Same.refl H) hp, upd_same⟩
end
/-! within a comprehension -/
theorem k_eqU {X : Cx} {K : PySem.W.Frag} (h : X.K = K) (hu : X.A.units + 64 < cLine) : OpR X (compareOp .Eq) (rEqU K) := h ▸ op_eqU hu
theorem k_neU {X : Cx} {K : PySem.W.Frag} (h : X.K = K) (hu : X.A.units + 64 < cLine) : OpR X (compareOp .NotEq) (rNeU K) := h ▸ op_neU hu
/-! ints in lists -/
section
variable {K : PySem.W.Frag} {H : Hp} {Q : VK} {p : Addr} {ns : List Int} {i : Int}
theorem flat_ints : (ns.map V.int).all flatV = true := by
  rw [List.all_map, List.all_eq_true]
  intro x _
  rfl
theorem inV_ints : inV (.int i) (ns.map V.int) = decide (i ∈ ns) := by
  unfold inV
  rw [List.any_map, Bool.eq_iff_iff, List.any_eq_true, decide_eq_true_iff]
  constructor
  · rintro ⟨y, hy, e⟩
    have z : y = i := by
      have := e
      simp [eqV] at this
      omega
    rw [← z]
    exact hy
  · intro h
    exact ⟨i, h, by simp [eqV]⟩
theorem r_inI (hp : SqL K H p (ns.map V.int)) (q : Q (.bl (decide (i ∈ ns))) H) : rInU K (.int i) (.ref p) H Q :=
  .inr ⟨p, _, rfl, .inl hp, rfl, flat_ints, by
    show Q (.bl (inV (.int i) (ns.map V.int))) H
    rw [inV_ints]
    exact q⟩
theorem dps_ints : DpAll K H (ns.map V.int) (ns.map PyData.int) := by
  induction ns with
  | nil => exact .nil
  | cons x r ih => exact .cons (.int _) ih
theorem ints_shaped : SeqAt.shaped (.list (ns.map PyData.int)) = true := by
  have key : PyData.canLayAll0 (ns.map PyData.int) = true ∧ PyData.depthAll (ns.map PyData.int) ≤ 2 := by
    induction ns with
    | nil => exact ⟨rfl, by decide⟩
    | cons x r ih =>
      refine ⟨?_, ?_⟩
      · show ((PyData.int x).canLay0 && PyData.canLayAll0 (r.map PyData.int)) = true
        rw [ih.1]
        rfl
      · show max (PyData.int x).depth (PyData.depthAll (r.map PyData.int)) ≤ 2
        have e : (PyData.int x).depth ≤ 2 := by simp [PyData.depth]
        omega
  show (PyData.canLayAll0 (ns.map PyData.int) && decide (_ ≤ 64)) = true
  rw [key.1]
  have e : (PyData.list (ns.map PyData.int)).depth = PyData.depthAll (ns.map PyData.int) + 1 := by first | rfl | exact Nat.add_comm _ _
  show decide (_ ≤ 64) = true
  rw [decide_eq_true_iff, e]
  omega
/-- l.index(i), l a list of ints -/
theorem r_indexI {j : Nat} (hp : SqL K H p (ns.map V.int)) (hj : ns[j]? = some i) (hno : ∀ m, m < j → ns[m]? ≠ some i) (q : Q (.int (j : Nat)) H) : rIndexD K (.ref p) [.int i] H Q := by
  refine ⟨p, .int i, .int i, ns.map PyData.int, j, .int i, rfl, rfl, .lst hp dps_ints, .int i, ints_shaped, rfl, by rw [List.getElem?_map, hj]; rfl, ?_, fun m z hm hz => ?_, q⟩
  · show ((i : Int) == i) = true
    exact beq_self_eq_true i
  · rw [List.getElem?_map] at hz
    obtain ⟨y, hy, rfl⟩ := Option.map_eq_some_iff.mp hz
    show ((y : Int) == i) = false
    rw [beq_eq_false_iff_ne]
    intro e
    exact hno m hm (by rw [hy, e])
end
end Dk
/-! zip of two things, each a list, a tuple or a text -/
namespace Zp
open PySem PySem.Spec PyProof.Rows L2 Dk
inductive Kd where
  | l (a : Addr)
  | t (a : Addr)
  | s (z : Str)
abbrev sgs (z : Str) : List V := (cs z).map fun c => V.str ⟨#[c]⟩
def Kd.v : Kd → V
  | .l a => .ref a
  | .t a => .ref a
  | .s z => .str z
def Kd.has (K : PySem.W.Frag) : Kd → Hp → List V → Prop
  | .l a, H, xs => SqL K H a xs
  | .t a, H, xs => SqT K H a xs
  | .s z, _, xs => xs = sgs z
def Kd.st (tk : Tok) : Kd → Addr → Nat → Heap → Prop
  | .l a, it, i, h => h.IsListIter it a i
  | .t a, it, i, h => h.IsTupleIter it a i
  | .s z, it, i, h => h.IsStrIter it (strIterType z) z tk i
def Kd.ap : Kd → Addr → Prop
  | .l a, q => a ≠ q
  | .t a, q => a ≠ q
  | .s _, _ => True
section
variable {tk : Tok} {k : Kd} {it : Addr} {i : Nat} {h h' : Heap}
theorem Kd.st_obj (st : k.st tk it i h) : ∃ o, h.get? it = some o ∧ ∀ v, o.data ≠ .cell v := by
  cases k with
  | l a => obtain ⟨o, e, _, d⟩ := st; exact ⟨o, e, fun v q => by rw [d] at q; cases q⟩
  | t a => obtain ⟨o, e, _, d⟩ := st; exact ⟨o, e, fun v q => by rw [d] at q; cases q⟩
  | s z => obtain ⟨o, e, _, d⟩ := st; exact ⟨o, e, fun v q => by rw [d] at q; cases q⟩
theorem Kd.st_keep (st : k.st tk it i h) (q : ∀ o, h.get? it = some o → h'.get? it = some o) : k.st tk it i h' := by
  cases k with
  | l a => exact Heap.IsListIter.at st q
  | t a => exact Heap.IsTupleIter.at st q
  | s z => obtain ⟨o, ho, r⟩ := st; exact ⟨o, q o ho, r⟩
end
theorem vals_at {xs : List V} {its : List Value} (rv : Vals xs its) {j : Nat} {v : Value} (h : its[j]? = some v) : ∃ x, xs[j]? = some x ∧ RelV x v := by
  have hl := rv.length
  have hj := (List.getElem?_eq_some_iff.mp h).1
  obtain ⟨x, hx⟩ : ∃ x, xs[j]? = some x := ⟨_, List.getElem?_eq_getElem (by omega)⟩
  obtain ⟨u, hu, ru⟩ := rv.get hx
  rw [h] at hu
  cases hu
  exact ⟨x, hx, ru⟩
section
variable {X : Cx} {pins : List (Addr × Obj)} {σ : L2.St} {H : Hp} {s : Shared}
theorem Kd.draws (I : Inv X pins σ H s) (hh : X.A.in1.handled = none) {k : Kd} {xs : List V} (hq : k.has X.K H xs) {it : Addr} (hne : k.ap it) {tk : Tok} {i : Nat} (st : k.st tk it i s.heap) :
    ∃ (fp : List Addr) (P : Nat → Value → Prop) (St : Nat → Heap → Prop), Draws X.prog X.w X.A.in1 it fp xs.length P St ∧ St i s.heap ∧ (∀ j v, P j v → ∃ x, xs[j]? = some x ∧ RelV x v) ∧ (∀ j h, St j h → k.st tk it j h) ∧ it ∈ fp ∧ ∀ q ∈ fp, q = it ∨ ¬ k.ap q := by
  cases k with
  | l a =>
    obtain ⟨its, rv, p, _⟩ := I.list hq
    have e : its.toArray.size = xs.length := by rw [List.size_toArray]; exact rv.length.symm
    have D := Draws.list (prog := X.prog) (w := X.w) hh it a hne its.toArray
    rw [e] at D
    refine ⟨_, _, _, D, ⟨st, p.isList⟩, fun j v hv => vals_at rv (by simpa using hv), fun j h z => z.1, by simp, fun q hq => ?_⟩
    rcases List.mem_cons.mp hq with z | z
    · exact .inl z
    · exact .inr fun c => c (List.mem_singleton.mp z).symm
  | t a =>
    obtain ⟨its, rv, p, _⟩ := I.tuple hq
    have e : its.toArray.size = xs.length := by rw [List.size_toArray]; exact rv.length.symm
    have D := Draws.tuple (prog := X.prog) (w := X.w) hh it a hne its.toArray
    rw [e] at D
    refine ⟨_, _, _, D, ⟨st, p⟩, fun j v hv => vals_at rv (by simpa using hv), fun j h z => z.1, by simp, fun q hq => ?_⟩
    rcases List.mem_cons.mp hq with z | z
    · exact .inl z
    · exact .inr fun c => c (List.mem_singleton.mp z).symm
  | s z =>
    obtain rfl : xs = sgs z := hq
    have e : z.cps.size = (sgs z).length := by simp [sgs, cs]
    have D := Draws.text (prog := X.prog) (w := X.w) hh it z tk
    rw [e] at D
    refine ⟨_, _, _, D, st, fun j v hv => ?_, fun j h q => q, by simp, fun q hq => .inl (List.mem_singleton.mp hq)⟩
    obtain ⟨c, u, hc, rfl⟩ := hv
    refine ⟨.str ⟨#[c]⟩, ?_, u, rfl⟩
    show ((cs z).map _)[j]? = _
    rw [List.getElem?_map, show (cs z)[j]? = some c by rw [Array.getElem?_toList]; exact hc]
    rfl
theorem Kd.inj (I : Inv X pins σ H s) {k : Kd} {xs ys : List V} (h1 : k.has X.K H xs) (h2 : k.has X.K H ys) : xs = ys := by
  cases k with
  | l a => exact I.list_inj h1 h2
  | t a => exact I.tuple_inj h1 h2
  | s z => exact Eq.trans h1 (Eq.symm h2)
end
structure Ap (z TI TO i1 i2 : Addr) (k1 k2 : Kd) : Prop where
  TIz : TI ≠ z
  TOz : TO ≠ z
  i1z : i1 ≠ z
  i2z : i2 ≠ z
  TITO : TI ≠ TO
  TIi1 : TI ≠ i1
  TIi2 : TI ≠ i2
  TOi1 : TO ≠ i1
  TOi2 : TO ≠ i2
  i12 : i1 ≠ i2
  a1 : k1.ap z ∧ k1.ap TO ∧ k1.ap i1 ∧ k1.ap i2
  a2 : k2.ap z ∧ k2.ap TO ∧ k2.ap i1 ∧ k2.ap i2
theorem Ap.sep {z TI TO i1 i2 : Addr} {k1 k2 : Kd} (D : Ap z TI TO i1 i2 k1 k2) {fp1 fp2 : List Addr} (m1 : i1 ∈ fp1) (f1 : ∀ q ∈ fp1, q = i1 ∨ ¬ k1.ap q) (m2 : i2 ∈ fp2) (f2 : ∀ q ∈ fp2, q = i2 ∨ ¬ k2.ap q) : ZipSep2 z TI TO i1 i2 fp1 fp2 where
  TIz := D.TIz
  TOz := D.TOz
  TITO := D.TITO
  TIi1 := D.TIi1
  mem1 := m1
  zf1 := fun h => (f1 z h).elim (fun e => D.i1z e.symm) fun n => n D.a1.1
  Tf1 := fun h => (f1 TO h).elim D.TOi1 fun n => n D.a1.2.1
  TIi2 := D.TIi2
  mem2 := m2
  zf2 := fun h => (f2 z h).elim (fun e => D.i2z e.symm) fun n => n D.a2.1
  Tf2 := fun h => (f2 TO h).elim D.TOi2 fun n => n D.a2.2.1
  sep1_2 := fun h => (f2 i1 h).elim D.i12 fun n => n D.a2.2.2.1
  sep2_1 := fun h => (f1 i2 h).elim (fun e => D.i12 e.symm) fun n => n D.a1.2.2.2
def ItzK (K : PySem.W.Frag) (k1 k2 : Kd) : It :=
  ⟨fun i H => ∃ xs ys : List V, k1.has K H xs ∧ k2.has K H ys ∧ i < xs.length ∧ i < ys.length,
    fun i H v H' => ∃ T x y, v = .ref T ∧ H T = none ∧ H' = upd H T (.tup [x, y]) ∧ (∀ xs, k1.has K H xs → xs[i]? = some x) ∧ ∀ ys, k2.has K H ys → ys[i]? = some y,
    fun i H => ∃ xs ys : List V, k1.has K H xs ∧ k2.has K H ys ∧ i ≤ xs.length ∧ i ≤ ys.length ∧ (i = xs.length ∨ i = ys.length)⟩
theorem turn_zipK {P : Program} {w : World} {K : PySem.W.Frag} {elts : List Expr} {kk : Nat} {tpos : Pos} {k1 k2 : Kd} {tk1 tk2 : Tok} {z TI TO i1 i2 : Addr} (D : Ap z TI TO i1 i2 k1 k2) :
    Turn P w K (.Tuple elts kk tpos) (ItzK K k1 k2) [z, TI, TO, i1, i2] z (fun i h => IsZip h z TI TO .none ∧ IsTupOf2 h TI (.ref i1) (.ref i2) ∧ (∃ x y, IsTupOf2 h TO x y) ∧ k1.st tk1 i1 i h ∧ k2.st tk2 i2 i h) where
  mem := by simp
  obj := fun i h st c hc => by
    obtain ⟨hz, hTI, ⟨x, y, hTO⟩, s1, s2⟩ := st
    have e' : c = z ∨ c = TI ∨ c = TO ∨ c = i1 ∨ c = i2 := by simpa using hc
    rcases e' with q | q | q | q | q
    · rw [q]; exact ⟨_, hz, fun v q => nomatch q⟩
    · rw [q]; exact ⟨_, hTI, fun v q => nomatch q⟩
    · rw [q]; exact ⟨_, hTO, fun v q => nomatch q⟩
    · rw [q]; exact Kd.st_obj s1
    · rw [q]; exact Kd.st_obj s2
  keep := fun i h h' st k => by
    obtain ⟨hz, hTI, ⟨x, y, hTO⟩, h1, h2⟩ := st
    exact ⟨k z (by simp) _ hz, k TI (by simp) _ hTI, ⟨x, y, k TO (by simp) _ hTO⟩, Kd.st_keep h1 fun o q => k i1 (by simp) o q, Kd.st_keep h2 fun o q => k i2 (by simp) o q⟩
  item := by
    intro X hP hw hK hc i pins s σ H E I hf st hg
    subst hP hw hK
    obtain ⟨hz, hTI, ⟨x0, y0, hTO⟩, h1, h2⟩ := st
    obtain ⟨xs, ys, hqx, hqy, hx, hy⟩ := hg
    have hh : X.A.in1.handled = none := I.ok.hd hc
    obtain ⟨fp1, P1, St1, D1, st1, g1, b1, m1, f1⟩ := Kd.draws I hh hqx D.a1.2.2.1 h1
    obtain ⟨fp2, P2, St2, D2, st2, g2, b2, m2, f2⟩ := Kd.draws I hh hqy D.a2.2.2.2 h2
    have S := D.sep m1 f1 m2 f2
    have hzl : z < s.heap.objs.size := Heap.lt_size hz
    refine wpAny_pyNext_zipD2_item S D1 D2 hz hTI hTO st1 st2 hx hy fun u u2 h' tk p1 p2 z' TO' s1' s2' hT hsz hk => ?_
    obtain ⟨x, hxx, ru⟩ := g1 _ _ p1
    obtain ⟨y, hyy, ru2⟩ := g2 _ _ p2
    refine ⟨_, rfl, wpAny_letOwnedTupleGo_zip (s := { s with heap := h', toks := tk }) z' fun h'' z'' sb => ?_⟩
    have hT2 : h''.get? s.heap.objs.size = some { cls := .type "tuple", data := .seq #[u, u2] } := (sb.2 _ (Nat.ne_of_gt hzl)).trans hT
    have new : ObjOk X.prog X.w (upd H s.heap.objs.size (.tup [x, y])) h'' s.heap.objs.size (.tup [x, y]) :=
      ⟨by show 2 ≤ sizeLine; decide, [u, u2], .cons ru (.cons ru2 .nil), ⟨_, hT2, rfl, _, rfl⟩⟩
    have I1 : Inv X pins σ (upd H s.heap.objs.size (.tup [x, y])) { s with heap := h'', toks := tk } :=
      I.turnedNew (t' := tk) (ch := [z, TI, TO, i1, i2]) (fun c o hb q => (sb.2 c (fun q' => hb (by simp [q']))).trans (hk c o (fun q' => hb (by simp [q'])) (fun q' => hb (by simp [q'])) (fun q' => hb (by simp [q'])) (fun q' => hb (by simp [q'])) q)) hf (Nat.le_refl _) new
    refine ⟨.ref s.heap.objs.size, _, I1, rfl, ⟨_, x, y, rfl, I.hok.fresh (Nat.le_refl _), rfl, fun l hl => by rw [Kd.inj I hl hqx]; exact hxx, fun l hl => by rw [Kd.inj I hl hqy]; exact hyy⟩, ⟨z'', ?_, ⟨u, u2, ?_⟩, ?_, ?_⟩, fun c hcm => ?_⟩
    · exact (sb.2 _ D.TIz).trans (hk _ _ D.TIz D.TITO D.TIi1 D.TIi2 hTI)
    · exact (sb.2 _ D.TOz).trans TO'
    · exact Kd.st_keep (b1 _ _ s1') fun o q => (sb.2 _ D.i1z).trans q
    · exact Kd.st_keep (b2 _ _ s2') fun o q => (sb.2 _ D.i2z).trans q
    · have hlt : c < s.heap.objs.size := by
        have e' : c = z ∨ c = TI ∨ c = TO ∨ c = i1 ∨ c = i2 := by simpa using hcm
        rcases e' with q | q | q | q | q
        · rw [q]; exact hzl
        · rw [q]; exact Heap.lt_size hTI
        · rw [q]; exact Heap.lt_size hTO
        · rw [q]; obtain ⟨_, e1, _⟩ := Kd.st_obj h1; exact Heap.lt_size e1
        · rw [q]; obtain ⟨_, e2, _⟩ := Kd.st_obj h2; exact Heap.lt_size e2
      rw [upd_ne (Nat.ne_of_lt hlt)]
      exact (hf c hcm).1
  done := by
    intro X hP hw hK hc i pins s σ H E I hf st hg
    subst hP hw hK
    obtain ⟨hz, hTI, ⟨x0, y0, hTO⟩, h1, h2⟩ := st
    obtain ⟨xs, ys, hqx, hqy, l1, l2, hend⟩ := hg
    have hh : X.A.in1.handled = none := I.ok.hd hc
    obtain ⟨fp1, P1, St1, D1, st1, g1, b1, m1, f1⟩ := Kd.draws I hh hqx D.a1.2.2.1 h1
    obtain ⟨fp2, P2, St2, D2, st2, g2, b2, m2, f2⟩ := Kd.draws I hh hqy D.a2.2.2.2 h2
    have S := D.sep m1 f1 m2 f2
    exact wpAny_pyNext_zipD2_end S D1 D2 hz hTI hTO st1 st2 l1 l2 hend fun h' tk hk => ⟨rfl, I.turnedL (t' := tk) (ch := [z, TI, TO, i1, i2]) (fun c o hb q =>
      hk c o (fun q' => hb (by simp [q'])) (fun q' => hb (by simp [q'])) (fun q' => hb (by simp [q'])) (fun q' => hb (by simp [q'])) q) hf⟩
  self := fun A i s Q E st h => wpAny_pyIter_zip st.1 h
/-- how it begins -/
theorem Kd.begins {X : Cx} {pins : List (Addr × Obj)} {σ : L2.St} {H : Hp} {s : Shared} (I : Inv X pins σ H s) {k : Kd} {xs : List V} (hq : k.has X.K H xs) {u : Value} (r : RelV k.v u) :
    ∃ (o : Obj) (HH : Heap → Prop) (tk : Tok), Begins u o HH ∧ HH s.heap ∧ (∀ it h', h'.get? it = some o → k.st tk it 0 h') ∧ ∀ q, s.heap.objs.size ≤ q → k.ap q := by
  cases k with
  | l a =>
    obtain rfl : u = Value.ref a := r
    obtain ⟨its, rv, p, _⟩ := I.list hq
    exact ⟨_, _, 0, begins_list a its.toArray, p.isList, fun it h' e => ⟨_, e, rfl, rfl⟩, fun q hq e => by rw [← e] at hq; exact absurd p.lt (Nat.not_lt.mpr hq)⟩
  | t a =>
    obtain rfl : u = Value.ref a := r
    obtain ⟨its, rv, p, _⟩ := I.tuple hq
    obtain ⟨o1, ho1, _⟩ := id p
    exact ⟨_, _, 0, begins_tuple a its.toArray, p, fun it h' e => ⟨_, e, rfl, rfl⟩, fun q hq e => by rw [← e] at hq; exact absurd (Heap.lt_size ho1) (Nat.not_lt.mpr hq)⟩
  | s z =>
    obtain ⟨t, rfl⟩ := r
    exact ⟨_, _, t, begins_text z t, trivial, fun it h' e => ⟨_, e, rfl, rfl⟩, fun _ _ => trivial⟩
theorem ne_nat {a b : Nat} (h : a ≠ b) : @Ne Addr a b := h
def iZipK (K : PySem.W.Frag) (ta : TA) : TI := fun σ H R => ta σ H fun vs H1 => ∃ k1 k2 : Kd, vs = [k1.v, k2.v] ∧ (∃ xs, k1.has K H1 xs) ∧ (∃ ys, k2.has K H1 ys) ∧ R (ItzK K k1 k2) H1
theorem pi_zipK {X : Cx} {e e2 : Expr} {ta : TA} {p pos tpos : Pos} {elts : List Expr} {kk : Nat} (hg : Gl X "zip") (hm : X.mg "zip" = none) (ha : PA X [e, e2] ta)
    (hs : starEach [e, e2] X.env = (false, eval e X.env) :: starEach [e2] X.env := by rfl) (hpl : (backTo pos (starEach [e2] X.env)).any (·.1) = false := by rfl) :
    PI X (.Tuple elts kk tpos) (.Call (.Name "zip" p) [e, e2] [] pos) (iZipK X.K ta) := by
  refine ⟨fun pins s σ H R I h => ?_⟩
  refine Call_ (ld_blt I hg hm PyProof.Rows.boot_zip (PyProof.Rows.callWith_type1 (thn (ha.run pos pins s σ H _ I h) fun us s1 ⟨vs, H1, I1, r1, q1⟩ => ?_) hs hpl))
  obtain ⟨k1, k2, ex, ⟨xs, hx⟩, ⟨ys, hy⟩, q⟩ := q1
  subst ex
  cases r1 with
  | cons r rr =>
    cases rr with
    | cons r' rr =>
      cases rr
      obtain ⟨o1, HH1, tk1, B1, g1, st1, ap1⟩ := Kd.begins I1 hx r
      obtain ⟨o2, HH2, tk2, B2, g2, st2, ap2⟩ := Kd.begins I1 hy r'
      refine zip_begins2 B1 B2 g1 g2 fun h' hz hTI hTO h1 h2 hsz hk => wpAny_pyIter_zip hz ?_
      have I2 : Inv X pins σ H1 { s1 with heap := h' } := I1.kept (t' := s1.toks) hk
      have fresh5 : ∀ c, c ∈ [s1.heap.objs.size + 4, s1.heap.objs.size + 2, s1.heap.objs.size + 3, s1.heap.objs.size, s1.heap.objs.size + 1] → FpOk X pins H1 c := fun c hcm => by
        have hle : s1.heap.objs.size ≤ c := by
          have e' : c = s1.heap.objs.size + 4 ∨ c = s1.heap.objs.size + 2 ∨ c = s1.heap.objs.size + 3 ∨ c = s1.heap.objs.size ∨ c = s1.heap.objs.size + 1 := by simpa using hcm
          omega
        exact I1.fpOk hle (I1.hok.fresh hle)
      have ap : Ap (s1.heap.objs.size + 4) (s1.heap.objs.size + 2) (s1.heap.objs.size + 3) s1.heap.objs.size (s1.heap.objs.size + 1) k1 k2 :=
        ⟨ne_nat (by omega), ne_nat (by omega), ne_nat (by omega), ne_nat (by omega), ne_nat (by omega), ne_nat (by omega), ne_nat (by omega), ne_nat (by omega), ne_nat (by omega), ne_nat (by omega), ⟨ap1 _ (by omega), ap1 _ (by omega), ap1 _ (by omega), ap1 _ (by omega)⟩, ⟨ap2 _ (by omega), ap2 _ (by omega), ap2 _ (by omega), ap2 _ (by omega)⟩⟩
      exact ⟨s1.heap.objs.size + 4, [s1.heap.objs.size + 4, s1.heap.objs.size + 2, s1.heap.objs.size + 3, s1.heap.objs.size, s1.heap.objs.size + 1], _, _, H1, rfl, I2, turn_zipK (tk1 := tk1) (tk2 := tk2) ap, ⟨hz, hTI, ⟨_, _, hTO⟩, st1 _ _ h1, st2 _ _ h2⟩, fresh5, q⟩
/-! as walks -/
theorem walk_zipK {K : PySem.W.Frag} {k1 k2 : Kd} {xs ys : List V} {n : Nat} (hn : n = min xs.length ys.length) :
    Walk (ItzK K k1 k2) n (fun H => k1.has K H xs ∧ k2.has K H ys) (fun i H v H' => ∃ T x y, v = .ref T ∧ H T = none ∧ H' = upd H T (.tup [x, y]) ∧ xs[i]? = some x ∧ ys[i]? = some y) :=
  ⟨fun i H hi g => ⟨xs, ys, g.1, g.2, by omega, by omega⟩, fun H g => ⟨xs, ys, g.1, g.2, by omega, by omega, by omega⟩, fun i H v H' hi g y => by
    obtain ⟨T, x, y, h1, h2, h3, h4, h5⟩ := y
    exact ⟨T, x, y, h1, h2, h3, h4 xs g.1, h5 ys g.2⟩⟩
end Zp
/-! rules of our own: text[::-1], min of a list of tuples of numbers -/
namespace Dk
open PySem PySem.Spec PyProof.Rows L2 PySem.SeqAt PySem.W
/-! text[::-1] -/
def revS (z : Str) : Str := ⟨(cs z).reverse.toArray⟩
theorem cs_rev (z : Str) : cs (revS z) = (cs z).reverse := List.toList_toArray
theorem rev_len (z : Str) : (revS z).length = z.length := by rw [← cs_len, cs_rev, List.length_reverse, cs_len]
theorem rev_made (z : Str) (t u : Tok) : sliceMade z t none none (some (-1, u)) = Made.str (revS z) := by
  have e : slicePicked z none none (some (-1, u)) = (List.range z.length).reverse := by
    show sliceRange ((z.length : Int) - 1) (-1) (-1) = _
    rw [krv_sliceRange, krv_range]
  unfold sliceMade
  rw [e]
  have e2 : ((Option.map (fun x => x.1) (some ((-1 : Int), u))).getD 1 == 1 && ((List.range z.length).reverse.length == z.length)) = false := by
    have : ((-1 : Int) == 1) = false := by decide
    show (((-1 : Int) == 1) && _) = false
    rw [this, Bool.false_and]
  rw [if_neg (by rw [e2]; exact Bool.false_ne_true)]
  congr 1
  unfold revS
  congr 1
  have e3 : ((List.range z.length).reverse.filterMap (z.cps[·]?)) = (cs z).reverse := by
    rw [List.filterMap_reverse]
    congr 1
    exact krv_all z.cps
  rw [e3]
def tRevS (te : TE) : TE := fun σ H Q => te σ H fun x H1 => ∃ z, x = .str z ∧ z.length ≤ sizeLine ∧ Q (.str (revS z)) H1
theorem pe_revS {X : Cx} {e st : Expr} {te ts : TE} {pos p2 : Pos} (he : PE X e te) (hst : PE X st ts) (hv : ∀ σ H (Q : VK), Q (.int (-1)) H → ts σ H Q) : PE X (.Subscript e (.Slice none none (some st) p2) pos) (tRevS te) := by
  refine ⟨fun pins s σ H Q I h => ?_⟩
  refine Subscript_ (thn (he.run pins s σ H _ I h) fun v s1 ⟨x, H1, I1, r1, q1⟩ => ?_)
  obtain ⟨z, rfl, hz, q⟩ := q1
  obtain ⟨t, rfl⟩ := r1
  refine wpAny_Slice ?_
  rw [evalPart_none]
  refine wpAny_pure ?_
  refine wpAny_pure ?_
  rw [evalPart_some]
  refine thn (hst.run pins s1 σ H1 _ I1 (hv σ H1 (fun y H2 => y = .int (-1) ∧ H2 = H1) ⟨rfl, rfl⟩)) fun u s2 ⟨y, H2, I2, ry, qy, eH⟩ => ?_
  subst qy eH
  obtain ⟨tk, rfl⟩ := ry
  have I3 : Inv X pins σ H2 { s2 with heap := s2.heap.push { cls := .type "slice", data := .fields #[.none, .none, .int (-1) tk] } } := I2.kept (t' := s2.toks) fun b ob q => Heap.get?_push_of_some _ q
  show wpAny (model X.prog X.w) X.A (subscriptTail e (.Slice none none (some st) p2) (.str z t) (.ref s2.heap.objs.size)) (EP X pins σ Q) X.xe { s2 with heap := s2.heap.push { cls := .type "slice", data := .fields #[.none, .none, .int (-1) tk] } }
  refine tail_any (ops := [.ref s2.heap.objs.size, .str z t]) (typeIs_str _ z t) F.slot_str_getitem.lookup ?_ (by with_unfolding_all rfl)
  refine wpAny_getItem_str_slice (l := none) (u := none) (st := some (-1, tk)) ⟨_, Heap.get?_push_size _ rfl, rfl, rfl⟩ rfl ?_
  rw [rev_made]
  exact ⟨by rw [rev_len]; exact hz, .str _, H2, I3.tok _, ⟨_, rfl⟩, q⟩
theorem r_revS {te : TE} {σ : L2.St} {H : Hp} {Q : VK} (h : te σ H fun x H1 => ∃ z, x = .str z ∧ z.length ≤ sizeLine ∧ Q (.str (revS z)) H1) : tRevS te σ H Q := h
theorem r_revZ {z : Str} {H : Hp} {Q : VK} (hz : z.length ≤ 8000) (q : Q (.str (revS z)) H) : ∃ y, V.str z = .str y ∧ y.length ≤ sizeLine ∧ Q (.str (revS y)) H := ⟨z, rfl, by rw [sizeLine_eq]; omega, q⟩
/-! zip -/
theorem r_forZo {K : PySem.W.Frag} {ta : TA} {g : TG} {tb : TS} {D : Ends} {σ : L2.St} {H : Hp} (h : ta σ H fun vs H1 => ∃ k1 k2 : Zp.Kd, vs = [k1.v, k2.v] ∧ (∃ xs, k1.has K H1 xs) ∧ (∃ ys, k2.has K H1 ys) ∧ LoopW (Zp.ItzK K k1 k2) g tb D σ H1) : tFor (Zp.iZipK K ta) g tb D σ H := h
theorem sgs_at {z : Str} {i : Nat} {x : V} (h : (Zp.sgs z)[i]? = some x) : ∃ c, (cs z)[i]? = some c ∧ x = .str ⟨#[c]⟩ := by
  rw [List.getElem?_map] at h
  obtain ⟨c, hc, rfl⟩ := Option.map_eq_some_iff.mp h
  exact ⟨c, hc, rfl⟩
/-- over zip(text, text) -/
theorem l_ZS {K : PySem.W.Frag} {x y : Str} {g : TG} {tb : TS} {D : Ends} {σ : L2.St} {H : Hp} (Pv : Nat → L2.St → Hp → Prop) (p0 : Pv 0 σ H)
    (ht : ∀ i c d σ H p, (cs x)[i]? = some c → (cs y)[i]? = some d → Pv i σ H → H p = none → g (.ref p) σ (upd H p (.tup [.str ⟨#[c]⟩, .str ⟨#[d]⟩])) fun σ2 H2 => tb { D with nx := Pv (i + 1), ct := Pv (i + 1), bk := D.nx } σ2 H2)
    (hd : ∀ σ H, Pv (min x.length y.length) σ H → D.nx σ H) :
    ∃ k1 k2 : Zp.Kd, [V.str x, V.str y] = [k1.v, k2.v] ∧ (∃ xs, k1.has K H xs) ∧ (∃ ys, k2.has K H ys) ∧ LoopW (Zp.ItzK K k1 k2) g tb D σ H := by
  refine ⟨.s x, .s y, rfl, ⟨_, rfl⟩, ⟨_, rfl⟩, for_it (Zp.walk_zipK (xs := Zp.sgs x) (ys := Zp.sgs y) rfl) Pv p0 (fun _ _ _ _ _ => ⟨rfl, rfl⟩) (fun i v σ H H' hi p yy => ?_) fun σ H p => hd σ H ?_⟩
  · obtain ⟨T, a, b, rfl, hT, rfl, ha, hb⟩ := yy
    obtain ⟨c, hc, rfl⟩ := sgs_at ha
    obtain ⟨d, hd', rfl⟩ := sgs_at hb
    exact ht i c d σ H T hc hd' p hT
  · rw [List.length_map, List.length_map, cs_len, cs_len] at p
    exact p
/-! min of a list of data -/
section
variable {prog : Program} {w : World} {A : Around} {E : Value → Shared → Prop} {s : Shared}
theorem min_list_at {l : Addr} {vs : Array Value} {xs : List PyData} {as : List Addr} {Q : Value → Shared → Prop} (hh : A.handled = none) (hl : s.heap.IsList l vs) (hr : ReadsAll s.heap vs.toList xs as) (h0 : 0 < xs.length) (ha : AlikeAll xs) (hu : A.units + 1 + PyData.depthAll xs < cLine)
    (h : ∀ v h' tk, vs[argBest (fun i j => dataLt (xs.getD i .none) (xs.getD j .none)) (xs.length - 1)]? = some v → (∀ b o, s.heap.get? b = some o → h'.get? b = some o) → Q v { s with heap := h', toks := tk }) :
    wpAny (model prog w) A (call (.builtin "min") [.ref l]) Q E s := by
  have hn : vs.size = xs.length := readsAll_len hr
  refine call_min_walkH (iter_listW (A := A.in1) hh hl fun s₂ e W st hfp hw hk => ?_)
  refine ⟨_, _, _, _, _, _, _, s.heap, _, rfl, W, st, hfp, by omega, hw, hk, cmpIn_lt (A := A.in1) hr ha (by show A.units + 1 + _ < _; exact hu), fun v s' hP m => ?_⟩
  obtain ⟨h', tk, rfl, hk'⟩ := moved_old e rfl m
  rw [hn] at hP
  exact h v h' tk hP hk'
end
theorem dpall_reads {X : Cx} {pins : List (Addr × Obj)} {σ : L2.St} {H : Hp} {s : Shared} (I : Inv X pins σ H s) : ∀ {xs : List V} {ds : List PyData} {its : List Value}, DpAll X.K H xs ds → Vals xs its → ∃ as, ReadsAll s.heap its ds as
  | _, _, _, .nil, .nil => ⟨_, .nil⟩
  | _, _, _, .cons h t, .cons r q => by
    obtain ⟨as, r1⟩ := Dp.reads I _ _ _ h r
    obtain ⟨bs, r2⟩ := dpall_reads I t q
    exact ⟨_, .cons r1 r2⟩
def rMinLs (K : PySem.W.Frag) : List V → Hp → VK → Prop := fun vs H Q => ∃ (p : Addr) (xs : List V) (ds : List PyData), vs = [.ref p] ∧ SqL K H p xs ∧ DpAll K H xs ds ∧ 0 < ds.length ∧ AlikeAll ds ∧ PyData.depthAll ds ≤ 60 ∧
  ∀ v, xs[argBest (fun i j => dataLt (ds.getD i .none) (ds.getD j .none)) (ds.length - 1)]? = some v → Q v H
theorem call_minLs {X : Cx} (hc : X.calm = true) (hu : X.A.units + 65 < cLine) : CallR X (.builtin "min") (rMinLs X.K) := by
  intro pins s σ H vs us Q I r h
  obtain ⟨p, xs, ds, rfl, hp, hd, h0, ha, hz, q⟩ := h
  rw [Vals.ref1 r]
  obtain ⟨its, rv, hl, _⟩ := I.list hp
  obtain ⟨as, hr⟩ : ∃ as, ReadsAll s.heap its ds as := dpall_reads I hd rv
  refine min_list_at (I.ok.hd hc) hl.isList (by simpa using hr) h0 ha (by omega) fun v h' tk hv k => ?_
  obtain ⟨x, hx, rx⟩ := Zp.vals_at rv (by simpa using hv)
  exact ⟨x, H, I.kept k, rx, q x hx⟩
/-- the best by a transitive relation: none is less -/
theorem best_least {bt : Nat → Nat → Bool} (tr : ∀ i j k, bt i j = true → bt j k = true → bt i k = true) (irr : ∀ i, bt i i = false) : ∀ n, argBest bt n ≤ n ∧ ∀ j, j ≤ n → bt j (argBest bt n) = false
  | 0 => ⟨Nat.le_refl _, fun j hj => by
    have e : j = 0 := by omega
    subst e
    exact irr 0⟩
  | n + 1 => by
    obtain ⟨h1, h2⟩ := best_least tr irr n
    show (if bt (n + 1) (argBest bt n) = true then n + 1 else argBest bt n) ≤ n + 1 ∧ ∀ j, j ≤ n + 1 → bt j (if bt (n + 1) (argBest bt n) = true then n + 1 else argBest bt n) = false
    by_cases c : bt (n + 1) (argBest bt n) = true
    · rw [if_pos c]
      refine ⟨Nat.le_refl _, fun j hj => ?_⟩
      by_cases e : j = n + 1
      · subst e
        exact irr _
      · cases d : bt j (n + 1) with
        | false => rfl
        | true =>
          have z := tr j (n + 1) _ d c
          rw [h2 j (by omega)] at z
          cases z
    · rw [if_neg c]
      refine ⟨by omega, fun j hj => ?_⟩
      by_cases e : j = n + 1
      · subst e
        simpa using c
      · exact h2 j (by omega)
theorem lt_ints (a b : Int) (xs ys : List PyData) : dataLt (.tuple (.int a :: xs)) (.tuple (.int b :: ys)) = if a = b then dataLt (.tuple xs) (.tuple ys) else decide (a < b) := by
  rw [dataLt_tuple]
  show PyProof.Rows.lexLt itemOrd ([.inl 1] ++ (keyToks (.int a) ++ keyToksAll xs)) ([.inl 1] ++ (keyToks (.int b) ++ keyToksAll ys)) = _
  rw [lex_pre]
  by_cases h : a = b
  · subst h
    rw [lex_pre, if_pos rfl, dataLt_tuple]
  · rw [if_neg h]
    show PyProof.Rows.lexLt itemOrd (.inl a :: keyToksAll xs) (.inl b :: keyToksAll ys) = _
    rw [lex_atom (by intro z; exact h (Sum.inl.inj z))]
    exact dataLt_int a b
/-! four numbers -/
abbrev Q4 := Int × Int × Int × Int
abbrev q4D (x : Q4) : PyData := .tuple [.int x.1, .int x.2.1, .int x.2.2.1, .int x.2.2.2]
def q4Lt (x y : Q4) : Prop := x.1 < y.1 ∨ (x.1 = y.1 ∧ (x.2.1 < y.2.1 ∨ (x.2.1 = y.2.1 ∧ (x.2.2.1 < y.2.2.1 ∨ (x.2.2.1 = y.2.2.1 ∧ x.2.2.2 < y.2.2.2)))))
theorem q4_lt (x y : Q4) : dataLt (q4D x) (q4D y) = true ↔ q4Lt x y := by
  unfold q4Lt
  show dataLt (.tuple (.int x.1 :: _)) (.tuple (.int y.1 :: _)) = true ↔ _
  rw [lt_ints]
  by_cases h1 : x.1 = y.1
  · rw [if_pos h1, lt_ints]
    by_cases h2 : x.2.1 = y.2.1
    · rw [if_pos h2, lt_ints]
      by_cases h3 : x.2.2.1 = y.2.2.1
      · rw [if_pos h3, lt_ints]
        by_cases h4 : x.2.2.2 = y.2.2.2
        · rw [if_pos h4]
          have e : dataLt (.tuple []) (.tuple []) = false := by decide +kernel
          rw [e]
          constructor
          · intro z
            cases z
          · intro z
            omega
        · rw [if_neg h4, decide_eq_true_iff]
          omega
      · rw [if_neg h3, decide_eq_true_iff]
        omega
    · rw [if_neg h2, decide_eq_true_iff]
      omega
  · rw [if_neg h1, decide_eq_true_iff]
    omega
def Q4V (H : Hp) (v : V) (x : Q4) : Prop := ∃ p, v = .ref p ∧ H p = some (.tup [.int x.1, .int x.2.1, .int x.2.2.1, .int x.2.2.2])
instance : Imm Q4V := ⟨fun t h => h.imp fun p z => ⟨z.1, t _ _ z.2⟩⟩
theorem Q4V.dp {K : PySem.W.Frag} {H : Hp} {v : V} {x : Q4} (h : Q4V H v x) : Dp K H v (q4D x) := by
  obtain ⟨p, rfl, hp⟩ := h
  exact .tup (sqT hp) (.cons (.int _) (.cons (.int _) (.cons (.int _) (.cons (.int _) .nil))))
theorem q4_dps {K : PySem.W.Frag} {H : Hp} {xs : List V} {l : List Q4} (h : P2 (Q4V H) xs l) : DpAll K H xs (l.map q4D) := by
  induction h with
  | nil => exact .nil
  | cons h t ih => exact .cons (Q4V.dp h) ih
/-- min(l), l a list of tuples of four numbers -/
theorem r_minQ4 {K : PySem.W.Frag} {H : Hp} {Q : VK} {p : Addr} {xs : List V} {l : List Q4} (hp : H p = some (.lst xs)) (h : P2 (Q4V H) xs l) (h0 : 0 < l.length) (q : ∀ v x, Q4V H v x → x ∈ l → (∀ y ∈ l, ¬ q4Lt y x) → Q v H) : rMinLs K [.ref p] H Q := by
  have dep : PyData.depthAll (l.map q4D) ≤ 60 := by
    clear h0 q h
    induction l with
    | nil => decide
    | cons x r ih =>
      show max (q4D x).depth (PyData.depthAll (r.map q4D)) ≤ 60
      have e : (q4D x).depth ≤ 2 := by simp [q4D, PyData.depth, PyData.depthAll]
      omega
  refine ⟨p, xs, l.map q4D, rfl, sqL hp, q4_dps h, by rw [List.length_map]; exact h0, ⟨fun a ha b hb => ?_, fun a ha z => ?_⟩, dep, fun v hv => ?_⟩
  · obtain ⟨x, _, rfl⟩ := List.mem_map.mp ha
    obtain ⟨y, _, rfl⟩ := List.mem_map.mp hb
    rfl
  · obtain ⟨x, _, rfl⟩ := List.mem_map.mp ha
    cases z
  · rw [List.length_map] at hv
    obtain ⟨x, hx, sx⟩ := h.get hv
    have gd : ∀ {i : Nat} {y : Q4}, l[i]? = some y → (l.map q4D).getD i .none = q4D y := fun {i y} e => by
      rw [List.getD_eq_getElem?_getD, List.getElem?_map, e]; rfl
    have at_ : ∀ i, i < l.length → ∃ y, l[i]? = some y := fun i hi => ⟨_, List.getElem?_eq_getElem hi⟩
    have lt0 : ∀ i, l.length ≤ i → (l.map q4D).getD i .none = PyData.none := fun i hi => by
      rw [List.getD_eq_getElem?_getD, List.getElem?_eq_none (by rw [List.length_map]; exact hi)]; rfl
    refine q v x sx (List.mem_of_getElem? hx) fun y hy hlt => ?_
    obtain ⟨j, hj⟩ := List.getElem?_of_mem hy
    have hjl := (List.getElem?_eq_some_iff.mp hj).1
    -- the best is least: by walking along
    have key : ∀ n, n < l.length → ∃ b, l[argBest (fun i j => dataLt ((l.map q4D).getD i .none) ((l.map q4D).getD j .none)) n]? = some b ∧ ∀ j y, j ≤ n → l[j]? = some y → ¬ q4Lt y b := by
      intro n
      induction n with
      | zero =>
        intro hn
        obtain ⟨b, hb⟩ := at_ 0 hn
        refine ⟨b, hb, fun j y hj hy => ?_⟩
        have e : j = 0 := by omega
        subst e
        rw [hb] at hy
        rw [Option.some.inj hy]
        unfold q4Lt
        omega
      | succ n ih =>
        intro hn
        obtain ⟨b, hb, hmin⟩ := ih (by omega)
        obtain ⟨c, hc⟩ := at_ (n + 1) hn
        show ∃ b, l[if dataLt ((l.map q4D).getD (n + 1) .none) ((l.map q4D).getD (argBest _ n) .none) = true then n + 1 else argBest _ n]? = some b ∧ _
        rw [gd hc, gd hb]
        by_cases e : dataLt (q4D c) (q4D b) = true
        · rw [if_pos e]
          have e' := (q4_lt c b).mp e
          refine ⟨c, hc, fun j y hj hy h => ?_⟩
          by_cases ej : j = n + 1
          · subst ej
            rw [hc] at hy
            cases hy
            unfold q4Lt at h
            omega
          · refine hmin j y (by omega) hy ?_
            unfold q4Lt at h e' ⊢
            omega
        · rw [if_neg e]
          refine ⟨b, hb, fun j y hj hy h => ?_⟩
          by_cases ej : j = n + 1
          · subst ej
            rw [hc] at hy
            cases hy
            exact e ((q4_lt _ _).mpr h)
          · exact hmin j y (by omega) hy h
    obtain ⟨b, hb, hmin⟩ := key (l.length - 1) (by omega)
    rw [hx] at hb
    cases hb
    exact hmin j y (by omega) hj hlt
end Dk
/-! places that are led by splices -/
namespace Mv
open Tl
abbrev S3 := Nat × Nat × Nat
def mv (side p : Nat) (s : S3) : Nat := if p < s.1 then p else if s.1 + s.2.1 < p then p - s.2.1 + s.2.2 else s.1 + side * s.2.2
def mvs (side p : Nat) (l : List S3) : Nat := l.foldr (fun s q => mv side q s) p
theorem mv_le {s s' p p' : Nat} (h1 : s ≤ 1) (h : s ≤ s') (hp : p ≤ p') (x : S3) : mv s p x ≤ mv s' p' x := by
  obtain ⟨a, c, m⟩ := x
  have h2 : s * m ≤ s' * m := Nat.mul_le_mul_right m h
  have h3 : s * m ≤ 1 * m := Nat.mul_le_mul_right m h1
  unfold mv
  dsimp only
  split <;> split <;> (try split) <;> (try split) <;> (try omega)
  all_goals (have : 0 ≤ s' * m := Nat.zero_le _; try omega)
  all_goals skip
theorem mvs_le {s s' p p' : Nat} (h1 : s ≤ 1) (h : s ≤ s') (hp : p ≤ p') : ∀ l : List S3, mvs s p l ≤ mvs s' p' l
  | [] => hp
  | x :: r => mv_le h1 h (mvs_le h1 h hp r) x
/-! ### a right round -/
def Rt (n : Nat) : Nat → List S3 → Prop
  | _, [] => True
  | lo, (a, c, m) :: r => lo ≤ a ∧ a + c ≤ n ∧ Rt n (max (a + 1) (a + c)) r
theorem Rt.lo {n lo lo' : Nat} {l : List S3} (h : Rt n lo l) (e : lo' ≤ lo) : Rt n lo' l := by
  cases l with
  | nil => trivial
  | cons x r =>
    obtain ⟨a, c, m⟩ := x
    exact ⟨by have := h.1; omega, h.2⟩
theorem Rt.drop {n : Nat} : ∀ {l : List S3} {lo : Nat}, Rt n lo l → ∀ i, Rt n lo (l.drop i)
  | [], lo, h, i => by rw [List.drop_nil]; trivial
  | x :: r, lo, h, 0 => h
  | (a, c, m) :: r, lo, h, i + 1 => by
    rw [List.drop_succ_cons]
    exact (h.2.2.lo (by have := h.1; omega)).drop i
theorem Rt.at {n lo i : Nat} {l : List S3} {a c m : Nat} (h : Rt n lo l) (hx : l[i]? = some (a, c, m)) : lo ≤ a ∧ a + c ≤ n ∧ Rt n (max (a + 1) (a + c)) (l.drop (i + 1)) := by
  have e : l.drop i = (a, c, m) :: l.drop (i + 1) := by
    have hi := (List.getElem?_eq_some_iff.mp hx).1
    rw [List.drop_eq_getElem_cons hi]
    have := (List.getElem?_eq_some_iff.mp hx).2
    rw [this]
  have z := h.drop i
  rw [e] at z
  exact z
/-- neighbours -/
theorem Rt.next {n lo i : Nat} {l : List S3} {a c m b d k : Nat} (h : Rt n lo l) (hx : l[i]? = some (a, c, m)) (hy : l[i + 1]? = some (b, d, k)) : a < b ∧ a + c ≤ b := by
  have z := (h.at hx).2.2
  have e : l.drop (i + 1) = (b, d, k) :: l.drop (i + 1 + 1) := by
    have hi := (List.getElem?_eq_some_iff.mp hy).1
    rw [List.drop_eq_getElem_cons hi]
    have := (List.getElem?_eq_some_iff.mp hy).2
    rw [this]
  rw [e] at z
  have := z.1
  omega
/-! ### far: the law's own reckoning -/
/-- all splices below k -/
def mvk (side p : Nat) (l : List S3) (k : Nat) : Nat := mvs side p (l.take k)
theorem mvk_succ {side p k : Nat} {l : List S3} {x : S3} (h : l[k]? = some x) : mvk side p l (k + 1) = mvk side (mv side p x) l k := by
  unfold mvk mvs
  rw [List.take_add_one, h, List.foldr_append]
  rfl
/-- where the k-th splice starts, behind the round -/
def stz (l : List S3) (k : Nat) : Int := ((l.take k).map fun s => (s.2.2 : Int) - s.2.1).sum
theorem stz_succ {k : Nat} {l : List S3} {x : S3} (h : l[k]? = some x) : stz l (k + 1) = stz l k + ((x.2.2 : Int) - x.2.1) := by
  unfold stz
  rw [List.take_add_one, h, List.map_append, List.sum_append]
  simp
section
variable {n side p k : Nat} {l : List S3}
/-- beyond the ends of all below k -/
theorem mvk_far (h : Rt n 0 l) : ∀ k p, (∀ a c m, 0 < k → l[k - 1]? = some (a, c, m) → a + c < p) → k ≤ l.length → ((mvk side p l k : Nat) : Int) = p + stz l k
  | 0, p, _, _ => by simp [mvk, mvs, stz]
  | k + 1, p, hp, hk => by
    obtain ⟨x, hx⟩ : ∃ x, l[k]? = some x := ⟨_, List.getElem?_eq_getElem hk⟩
    obtain ⟨a, c, m⟩ := x
    have h1 := hp a c m (Nat.succ_pos k) (by simpa using hx)
    rw [mvk_succ hx, stz_succ hx]
    have e : mv side p (a, c, m) = p - c + m := by
      unfold mv
      dsimp only
      rw [if_neg (by omega), if_pos h1]
    rw [e, mvk_far h k _ (fun a' c' m' hk' hx' => ?_) (by omega)]
    · dsimp only
      omega
    · have e2 : k - 1 + 1 = k := by omega
      have z := h.next (i := k - 1) hx' (by rw [e2]; exact hx)
      omega
/-- from the k-th splice's own place, side 0: the first of those that touch -/
def grp (l : List S3) : Nat → Nat
  | 0 => 0
  | k + 1 => match l[k]?, l[k + 1]? with
    | some (a, c, _), some (b, _, _) => if a + c = b then grp l k else k + 1
    | _, _ => k + 1
theorem grp_step {a c m b d q : Nat} (hx : l[k]? = some (a, c, m)) (hy : l[k + 1]? = some (b, d, q)) : grp l (k + 1) = if a + c = b then grp l k else k + 1 := by
  show (match l[k]?, l[k + 1]? with
    | some (a, c, _), some (b, _, _) => if a + c = b then grp l k else k + 1
    | _, _ => k + 1) = _
  rw [hx, hy]
theorem grp_le : ∀ k, grp l k ≤ k
  | 0 => Nat.le_refl _
  | k + 1 => by
    unfold grp
    split
    · split
      · exact Nat.le_succ_of_le (grp_le k)
      · exact Nat.le_refl _
    · exact Nat.le_refl _
theorem mvk_own (h : Rt n 0 l) : ∀ k a c m, l[k]? = some (a, c, m) → ∃ b d q, l[grp l k]? = some (b, d, q) ∧ ((mvk 0 a l k : Nat) : Int) = b + stz l (grp l k)
  | 0, a, c, m, hx => ⟨a, c, m, hx, by simp [mvk, mvs, stz, grp]⟩
  | k + 1, a, c, m, hx => by
    obtain ⟨y, hy⟩ : ∃ y, l[k]? = some y := ⟨_, List.getElem?_eq_getElem (by have := (List.getElem?_eq_some_iff.mp hx).1; omega)⟩
    obtain ⟨b, d, q⟩ := y
    have z := h.next hy hx
    rw [grp_step hy hx]
    by_cases t : b + d = a
    · rw [if_pos t]
      obtain ⟨b', d', q', h1, h2⟩ := mvk_own h k b d q hy
      refine ⟨b', d', q', h1, ?_⟩
      rw [mvk_succ hy]
      have e : mv 0 a (b, d, q) = b := by
        unfold mv
        dsimp only
        rw [if_neg (by omega), if_neg (by omega)]
        omega
      rw [e]
      exact h2
    · rw [if_neg t]
      refine ⟨a, c, m, hx, ?_⟩
      refine mvk_far h (k + 1) a (fun a' c' m' _ hx' => ?_) (by have := (List.getElem?_eq_some_iff.mp hx).1; omega)
      rw [Nat.add_sub_cancel, hy] at hx'
      cases hx'
      omega
/-- side 1: from behind what the k-th puts -/
theorem mvk_own1 (h : Rt n 0 l) : ∀ k a c m, l[k]? = some (a, c, m) → ((mvk 1 (a + m) l k : Nat) : Int) = a + m + stz l k
  | 0, a, c, m, hx => by simp [mvk, mvs, stz]
  | k + 1, a, c, m, hx => by
    obtain ⟨y, hy⟩ : ∃ y, l[k]? = some y := ⟨_, List.getElem?_eq_getElem (by have := (List.getElem?_eq_some_iff.mp hx).1; omega)⟩
    obtain ⟨b, d, q⟩ := y
    have z := h.next hy hx
    by_cases t : b + d < a + m
    · have w := mvk_far (side := 1) h (k + 1) (a + m) (fun a' c' m' _ hx' => by
        rw [Nat.add_sub_cancel, hy] at hx'
        cases hx'
        omega) (by have := (List.getElem?_eq_some_iff.mp hx).1; omega)
      rw [w]
      omega
    · rw [mvk_succ hy, stz_succ hy]
      have e : mv 1 (a + m) (b, d, q) = b + q := by
        unfold mv
        dsimp only
        rw [if_neg (by omega), if_neg (by omega)]
        omega
      rw [e, mvk_own1 h k b d q hy]
      dsimp only
      omega
end
end Mv
/-! common beginnings; the least splice -/
namespace Ml
def lcp : List Nat → List Nat → Nat
  | x :: xs, y :: ys => if x = y then lcp xs ys + 1 else 0
  | _, _ => 0
theorem lcp_le : ∀ a b : List Nat, lcp a b ≤ a.length ∧ lcp a b ≤ b.length
  | [], _ => ⟨Nat.zero_le _, Nat.zero_le _⟩
  | _ :: _, [] => ⟨Nat.zero_le _, Nat.zero_le _⟩
  | x :: xs, y :: ys => by
    have ih := lcp_le xs ys
    show (if x = y then lcp xs ys + 1 else 0) ≤ _ ∧ (if x = y then lcp xs ys + 1 else 0) ≤ _
    split <;> simp <;> omega
theorem lcp_iff : ∀ (k : Nat) (a b : List Nat), k ≤ a.length → k ≤ b.length → (a.take k = b.take k ↔ k ≤ lcp a b)
  | 0, a, b, _, _ => by simp
  | k + 1, [], b, h, _ => by simp at h
  | k + 1, _ :: _, [], _, h => by simp at h
  | k + 1, x :: xs, y :: ys, h1, h2 => by
    have ih := lcp_iff k xs ys (by simpa using h1) (by simpa using h2)
    show (x :: xs.take k = y :: ys.take k) ↔ k + 1 ≤ (if x = y then lcp xs ys + 1 else 0)
    rw [List.cons.injEq, ih]
    by_cases c : x = y
    · rw [if_pos c]
      constructor
      · rintro ⟨_, h⟩; omega
      · intro h; exact ⟨c, by omega⟩
    · rw [if_neg c]
      constructor
      · rintro ⟨h, _⟩; exact absurd h c
      · intro h; omega
theorem lcp_take (m n : Nat) (a b : List Nat) (hm : m ≤ a.length) (hn : n ≤ b.length) : lcp (a.take m) (b.take n) = min (lcp a b) (min m n) := by
  have l1 := lcp_le (a.take m) (b.take n)
  have l2 := lcp_le a b
  rw [List.length_take, List.length_take] at l1
  have key : ∀ k, k ≤ m → k ≤ n → (k ≤ lcp (a.take m) (b.take n) ↔ k ≤ lcp a b) := fun k h1 h2 => by
    rw [← lcp_iff k _ _ (by rw [List.length_take]; omega) (by rw [List.length_take]; omega), ← lcp_iff k a b (by omega) (by omega), List.take_take, List.take_take, Nat.min_eq_left h1, Nat.min_eq_left h2]
  have k1 := (key (lcp (a.take m) (b.take n)) (by omega) (by omega)).mp (Nat.le_refl _)
  have k2 := (key (min (lcp a b) (min m n)) (by omega) (by omega)).mpr (by omega)
  omega
/-- the end that two rows have in common behind the first p -/
def lce (p : Nat) (a b : List Nat) : Nat := lcp (a.drop p).reverse (b.drop p).reverse
theorem lce_eq {p : Nat} {a b : List Nat} (ha : p ≤ a.length) (hb : p ≤ b.length) : lce p a b = min (lcp a.reverse b.reverse) (min (a.length - p) (b.length - p)) := by
  unfold lce
  rw [List.reverse_drop, List.reverse_drop]
  exact lcp_take _ _ _ _ (by simp) (by simp)
theorem suf_iff {k : Nat} {a b : List Nat} (ha : k ≤ a.length) (hb : k ≤ b.length) : a.drop (a.length - k) = b.drop (b.length - k) ↔ k ≤ lcp a.reverse b.reverse := by
  rw [← lcp_iff k a.reverse b.reverse (by simpa using ha) (by simpa using hb), List.take_reverse, List.take_reverse]
  constructor
  · intro h; rw [h]
  · intro h; exact List.reverse_inj.mp h
section
variable {b a : List Nat} {at_ cut many : Nat}
/-- what a single splice makes -/
def one (b a : List Nat) (at_ cut many : Nat) : List Nat := b.take at_ ++ (a.drop at_).take many ++ b.drop (at_ + cut)
theorem one_iff (h1 : at_ + cut ≤ b.length) (hm : many + b.length = a.length + cut) :
    one b a at_ cut many = a ↔ at_ ≤ lcp b a ∧ b.length - (at_ + cut) ≤ lcp b.reverse a.reverse ∧ at_ + (b.length - (at_ + cut)) ≤ a.length := by
  have lt : (b.take at_).length = at_ := by rw [List.length_take]; omega
  have lp := lcp_le b a
  have lr := lcp_le b.reverse a.reverse
  rw [List.length_reverse, List.length_reverse] at lr
  unfold one
  constructor
  · intro h
    have hl := congrArg List.length h
    simp only [List.length_append, List.length_take, List.length_drop] at hl
    have ha : at_ + (b.length - (at_ + cut)) ≤ a.length := by omega
    refine ⟨?_, ?_, ha⟩
    · rw [← lcp_iff at_ b a (by omega) (by omega)]
      have h2 := congrArg (List.take at_) h
      rw [List.append_assoc, List.take_append_of_le_length (by omega), List.take_of_length_le (by omega)] at h2
      exact h2
    · rw [← suf_iff (by omega) (by omega)]
      have h2 := congrArg (List.drop (a.length - (b.length - (at_ + cut)))) h
      rw [show b.length - (b.length - (at_ + cut)) = at_ + cut by omega]
      rw [← h2, List.drop_left']
      rw [List.length_append, List.length_take, List.length_take, List.length_drop]
      omega
  · rintro ⟨h2, h3, h4⟩
    have e1 := (lcp_iff at_ b a (by omega) (by omega)).mpr h2
    have e2 := (suf_iff (k := b.length - (at_ + cut)) (by omega) (by omega)).mpr h3
    rw [show b.length - (b.length - (at_ + cut)) = at_ + cut by omega] at e2
    rw [e1, e2, show many = a.length - (b.length - (at_ + cut)) - at_ by omega, ← List.drop_take, List.append_assoc]
    have e3 : a.take at_ = (a.take (a.length - (b.length - (at_ + cut)))).take at_ := by rw [List.take_take, Nat.min_eq_left (by omega)]
    rw [e3, ← List.append_assoc, List.take_append_drop, List.take_append_drop]
/-- the least one -/
theorem least_one : one b a (lcp b a) (b.length - lcp b a - lce (lcp b a) b a) (a.length - lcp b a - lce (lcp b a) b a) = a := by
  have lp := lcp_le b a
  have e := lce_eq lp.1 lp.2
  rw [one_iff (by omega) (by omega)]
  omega
theorem least_best (h1 : at_ + cut ≤ b.length) (hm : many + b.length = a.length + cut) (h : one b a at_ cut many = a) :
    (b.length - lcp b a - lce (lcp b a) b a) + (a.length - lcp b a - lce (lcp b a) b a) < cut + many ∨
    ((b.length - lcp b a - lce (lcp b a) b a) + (a.length - lcp b a - lce (lcp b a) b a) = cut + many ∧ (at_ < lcp b a ∨ (at_ = lcp b a ∧ cut = b.length - lcp b a - lce (lcp b a) b a ∧ many = a.length - lcp b a - lce (lcp b a) b a))) := by
  have lp := lcp_le b a
  have e := lce_eq lp.1 lp.2
  have z := (one_iff h1 hm).mp h
  omega
end
end Ml
namespace K15
open PySem PySem.Spec PyProof.Rows L2 Dk
/-- one step of a reading -/
local macro_rules | `(tactic| walk_at "rd1") => `(tactic| first
  | ((with_reducible refine r_var (v := ?rv) ?rh ?_); (case rh => rfl))
  | with_reducible refine r_c ?_
  | with_reducible refine r_seq ?_
  | with_reducible refine r_asg ?_
  | with_reducible refine r_gname ?_
  | with_reducible refine r_op ?_
  | with_reducible refine r_xfo ?_
  | with_reducible refine r_noP ?_
  | with_reducible refine r_part ?_
  | with_reducible refine r_pI ?_
  | with_reducible refine r_gcons ?_
  | with_reducible refine r_gnil ?_
  | with_reducible refine r_mkO ?_
  | with_reducible refine r_un ?_
  | with_reducible refine r_addI ?_
  | with_reducible refine r_I0 ?_
  | with_reducible refine r_U ?_
  | with_reducible refine r_cons ?_
  | with_reducible refine r_nil ?_
  | with_reducible refine r_CB ?_
  | with_reducible refine r_call ?_
  | with_reducible refine r_callS ?_
  | with_reducible refine r_int ?_
  | with_reducible refine r_max ?_
  | with_reducible refine r_min ?_
  | with_reducible refine r_test ?_
  | with_reducible refine r_B ?_
  | with_reducible refine r_blv ?_
  | with_reducible refine r_and ?_
  | with_reducible refine r_or ?_
  | with_reducible refine r_not ?_
  | with_reducible refine r_andV ?_
  | with_reducible refine r_orV ?_
  | with_reducible refine r_notV ?_
  | with_reducible refine r_ifE ?_
  | with_reducible refine r_ifS ?_
  | with_reducible refine r_ret ?_
  | with_reducible refine r_retN ?_
  | with_reducible refine r_drop ?_
  | with_reducible refine r_next ?_
  | with_reducible refine r_sl ?_
  | with_reducible refine r_gsub ?_
  | with_reducible refine r_bm ?_
  | with_reducible refine r_tup ?_
  | with_reducible refine r_lst ?_
  | with_reducible refine r_isN ?_
  | with_reducible refine r_notN ?_
  | with_reducible refine r_itt ?_
  | with_reducible refine r_iff ?_
  | with_reducible refine r_ittN ?_
  | with_reducible refine r_iffN ?_
  | ((with_reducible refine r_ittD ?rh ?_); (case rh => rfl))
  | ((with_reducible refine r_iffD ?rh ?_); (case rh => rfl))
  | ((with_reducible refine r_modP ?rh ?_); (case rh => decide))
  | ((with_reducible refine r_eq ?rh ?_); (case rh => rfl))
  | ((with_reducible refine r_ne ?rh ?_); (case rh => rfl)))
local macro_rules | `(tactic| walk_at "rd") => `(tactic| repeat walk_at "rd1")
local macro_rules | `(tactic| walk_at "isi") => `(tactic| first | refine r_isi (b := true) (by assumption) (by decide +kernel) ?_ | refine r_isi (b := false) (by assumption) (by decide +kernel) ?_)
local macro_rules | `(tactic| walk_at "rs1") => `(tactic| first
  | with_reducible refine r_seq ?_
  | with_reducible refine r_asg ?_
  | with_reducible refine r_gname ?_
  | with_reducible refine r_ret ?_)
local macro_rules | `(tactic| walk_at "rs") => `(tactic| repeat walk_at "rs1")

def topS (i : Nat) : Stmt := PySem.Challenge.pw_deedstand_k15_whole_least_and_back.main.body.getD i (.Pass ⟨0, 0, 0, 0⟩)
abbrev s_common_begin : Stmt := topS 2
abbrev N_common_begin : List Str := ["one", "other", "many", "sign", "twin"]
theorem sc_common_begin : FnScope ["one", "other", "many", "sign", "twin"] ["one", "other"] (defScope s_common_begin) := ⟨rfl, rfl, rfl, by decide +kernel, rfl, by decide +kernel, by decide +kernel⟩
abbrev s_least_splice : Stmt := topS 3
abbrev N_least_splice : List Str := ["before", "after", "begin", "old", "new", "end"]
theorem sc_least_splice : FnScope ["before", "after", "begin", "old", "new", "end"] ["before", "after"] (defScope s_least_splice) := ⟨rfl, rfl, rfl, by decide +kernel, rfl, by decide +kernel, by decide +kernel⟩
abbrev s_first_strange : Stmt := topS 9
abbrev N_first_strange : List Str := ["text", "at", "sign"]
theorem sc_first_strange : FnScope ["text", "at", "sign"] ["text"] (defScope s_first_strange) := ⟨rfl, rfl, rfl, by decide +kernel, rfl, by decide +kernel, by decide +kernel⟩
abbrev s_is_text : Stmt := topS 10
abbrev N_is_text : List Str := ["thing"]
theorem sc_is_text : FnScope ["thing"] ["thing"] (defScope s_is_text) := ⟨rfl, rfl, rfl, by decide +kernel, rfl, by decide +kernel, by decide +kernel⟩
abbrev s_is_number : Stmt := topS 12
abbrev N_is_number : List Str := ["thing"]
theorem sc_is_number : FnScope ["thing"] ["thing"] (defScope s_is_number) := ⟨rfl, rfl, rfl, by decide +kernel, rfl, by decide +kernel, by decide +kernel⟩
abbrev s_is_splice : Stmt := topS 14
abbrev N_is_splice : List Str := ["thing", "at", "cut", "text"]
theorem sc_is_splice : FnScope ["thing", "at", "cut", "text"] ["thing"] (defScope s_is_splice) := ⟨rfl, rfl, rfl, by decide +kernel, rfl, by decide +kernel, by decide +kernel⟩
abbrev s_follows : Stmt := topS 15
abbrev N_follows : List Str := ["before", "splice"]
theorem sc_follows : FnScope ["before", "splice"] ["before", "splice"] (defScope s_follows) := ⟨rfl, rfl, rfl, by decide +kernel, rfl, by decide +kernel, by decide +kernel⟩
abbrev s_check_round : Stmt := topS 16
abbrev N_check_round : List Str := ["size", "splices", "k", "splice"]
theorem sc_check_round : FnScope ["size", "splices", "k", "splice"] ["size", "splices"] (defScope s_check_round) := ⟨rfl, rfl, rfl, by decide +kernel, rfl, by decide +kernel, by decide +kernel⟩
abbrev s_spliced : Stmt := topS 17
abbrev N_spliced : List Str := ["text", "splices", "parts", "done", "at", "cut", "put"]
theorem sc_spliced : FnScope ["text", "splices", "parts", "done", "at", "cut", "put"] ["text", "splices"] (defScope s_spliced) := ⟨rfl, rfl, rfl, by decide +kernel, rfl, by decide +kernel, by decide +kernel⟩
abbrev s_back_round : Stmt := topS 18
abbrev N_back_round : List Str := ["text", "splices", "back", "shift", "end", "at", "cut", "put", "lost", "begin", "many", "ahead"]
theorem sc_back_round : FnScope ["text", "splices", "back", "shift", "end", "at", "cut", "put", "lost", "begin", "many", "ahead"] ["text", "splices"] (defScope s_back_round) := ⟨rfl, rfl, rfl, by decide +kernel, rfl, by decide +kernel, by decide +kernel⟩
abbrev s_law_start : Stmt := topS 20
abbrev N_law_start : List Str := ["_law_script", "_law_mix", "_law_cell"]
theorem sc_law_start : FnScope ["_law_script", "_law_mix", "_law_cell"] ["_law_script"] (defScope s_law_start) := ⟨rfl, rfl, rfl, by decide +kernel, rfl, by decide +kernel, by decide +kernel⟩
abbrev s_law_draw : Stmt := topS 21
abbrev N_law_draw : List Str := ["_law_state", "_law_many"]
theorem sc_law_draw : FnScope ["_law_state", "_law_many"] ["_law_state", "_law_many"] (defScope s_law_draw) := ⟨rfl, rfl, rfl, by decide +kernel, rfl, by decide +kernel, by decide +kernel⟩
abbrev s_law_word : Stmt := topS 22
abbrev N_law_word : List Str := ["_law_state", "_law_signs_here", "_law_size", "_law_k"]
theorem sc_law_word : FnScope ["_law_state", "_law_signs_here", "_law_size", "_law_k"] ["_law_state", "_law_signs_here", "_law_size"] (defScope s_law_word) := ⟨rfl, rfl, rfl, by decide +kernel, rfl, by decide +kernel, by decide +kernel⟩
abbrev s_law_signs : Stmt := topS 23
abbrev N_law_signs : List Str := ["_law_state", "_law_some", "_law_first", "_law_second", "_law_rows"]
theorem sc_law_signs : FnScope ["_law_state", "_law_some", "_law_first", "_law_second", "_law_rows"] ["_law_state"] (defScope s_law_signs) := ⟨rfl, rfl, rfl, by decide +kernel, rfl, by decide +kernel, by decide +kernel⟩
abbrev s_law_round : Stmt := topS 24
abbrev N_law_round : List Str := ["_law_state", "_law_signs_here", "_law_size", "_law_most", "_law_made", "_law_at", "_law_cut", "_law_put"]
theorem sc_law_round : FnScope ["_law_state", "_law_signs_here", "_law_size", "_law_most", "_law_made", "_law_at", "_law_cut", "_law_put"] ["_law_state", "_law_signs_here", "_law_size", "_law_most"] (defScope s_law_round) := ⟨rfl, rfl, rfl, by decide +kernel, rfl, by decide +kernel, by decide +kernel⟩
abbrev s_law_done : Stmt := topS 25
abbrev N_law_done : List Str := ["_law_text", "_law_row", "_law_made", "_law_stood", "_law_splice"]
theorem sc_law_done : FnScope ["_law_text", "_law_row", "_law_made", "_law_stood", "_law_splice"] ["_law_text", "_law_row"] (defScope s_law_done) := ⟨rfl, rfl, rfl, by decide +kernel, rfl, by decide +kernel, by decide +kernel⟩
abbrev s_law_singles : Stmt := topS 26
abbrev N_law_singles : List Str := ["_law_before", "_law_after", "_law_made", "_law_at", "_law_cut", "_law_many"]
theorem sc_law_singles : FnScope ["_law_before", "_law_after", "_law_made", "_law_at", "_law_cut", "_law_many"] ["_law_before", "_law_after"] (defScope s_law_singles) := ⟨rfl, rfl, rfl, by decide +kernel, rfl, by decide +kernel, by decide +kernel⟩
abbrev s_law_least : Stmt := topS 27
abbrev N_law_least : List Str := ["_law_before", "_law_after", "_law_best", "_law_at"]
theorem sc_law_least : FnScope ["_law_before", "_law_after", "_law_best", "_law_at"] ["_law_before", "_law_after"] (defScope s_law_least) := ⟨rfl, rfl, rfl, by decide +kernel, rfl, by decide +kernel, by decide +kernel⟩
abbrev s_law_reach : Stmt := topS 28
abbrev N_law_reach : List Str := ["_law_before", "_law_after", "_law_low", "_law_high", "_law_middle"]
theorem sc_law_reach : FnScope ["_law_before", "_law_after", "_law_low", "_law_high", "_law_middle"] ["_law_before", "_law_after"] (defScope s_law_reach) := ⟨rfl, rfl, rfl, by decide +kernel, rfl, by decide +kernel, by decide +kernel⟩
abbrev s_law_least_long : Stmt := topS 29
abbrev N_law_least_long : List Str := ["_law_before", "_law_after", "_law_ahead", "_law_behind"]
theorem sc_law_least_long : FnScope ["_law_before", "_law_after", "_law_ahead", "_law_behind"] ["_law_before", "_law_after"] (defScope s_law_least_long) := ⟨rfl, rfl, rfl, by decide +kernel, rfl, by decide +kernel, by decide +kernel⟩
abbrev s_law_back : Stmt := topS 30
abbrev N_law_back : List Str := ["_law_text", "_law_row", "_law_turned", "_law_events", "_law_stood", "_law_splice", "_law_taken", "_law_made", "_law_place", "_law_run", "_law_event", "_law_many", "_law_c", "_law_e"]
theorem sc_law_back : FnScope ["_law_text", "_law_row", "_law_turned", "_law_events", "_law_stood", "_law_splice", "_law_taken", "_law_made", "_law_place", "_law_run", "_law_event", "_law_many", "_law_c", "_law_e"] ["_law_text", "_law_row", "_law_turned"] (defScope s_law_back) := ⟨rfl, rfl, rfl, by decide +kernel, rfl, by decide +kernel, by decide +kernel⟩
abbrev s_law_is_splice : Stmt := topS 31
abbrev N_law_is_splice : List Str := ["_law_thing"]
theorem sc_law_is_splice : FnScope ["_law_thing"] ["_law_thing"] (defScope s_law_is_splice) := ⟨rfl, rfl, rfl, by decide +kernel, rfl, by decide +kernel, by decide +kernel⟩
abbrev s_law_same : Stmt := topS 32
abbrev N_law_same : List Str := ["_law_due", "_law_told"]
theorem sc_law_same : FnScope ["_law_due", "_law_told"] ["_law_due", "_law_told"] (defScope s_law_same) := ⟨rfl, rfl, rfl, by decide +kernel, rfl, by decide +kernel, by decide +kernel⟩
abbrev s_law_same_round : Stmt := topS 33
abbrev N_law_same_round : List Str := ["_law_due", "_law_told", "_law_k"]
theorem sc_law_same_round : FnScope ["_law_due", "_law_told", "_law_k"] ["_law_due", "_law_told"] (defScope s_law_same_round) := ⟨rfl, rfl, rfl, by decide +kernel, rfl, by decide +kernel, by decide +kernel⟩
abbrev s_law_pair : Stmt := topS 34
abbrev N_law_pair : List Str := ["_law_before", "_law_after", "_law_due", "_law_told"]
theorem sc_law_pair : FnScope ["_law_before", "_law_after", "_law_due", "_law_told"] ["_law_before", "_law_after"] (defScope s_law_pair) := ⟨rfl, rfl, rfl, by decide +kernel, rfl, by decide +kernel, by decide +kernel⟩
abbrev s_law_backs : Stmt := topS 35
abbrev N_law_backs : List Str := ["_law_text", "_law_row", "_law_behind", "_law_due", "_law_told", "_law_again", "_law_k"]
theorem sc_law_backs : FnScope ["_law_text", "_law_row", "_law_behind", "_law_due", "_law_told", "_law_again", "_law_k"] ["_law_text", "_law_row"] (defScope s_law_backs) := ⟨rfl, rfl, rfl, by decide +kernel, rfl, by decide +kernel, by decide +kernel⟩
abbrev s_law_long : Stmt := topS 36
abbrev N_law_long : List Str := ["_law_state", "_law_signs_here", "_law_ahead", "_law_behind", "_law_before", "_law_after", "_law_pair_here"]
theorem sc_law_long : FnScope ["_law_state", "_law_signs_here", "_law_ahead", "_law_behind", "_law_before", "_law_after", "_law_pair_here"] ["_law_state", "_law_signs_here"] (defScope s_law_long) := ⟨rfl, rfl, rfl, by decide +kernel, rfl, by decide +kernel, by decide +kernel⟩
abbrev s_law : Stmt := topS 37
abbrev N_law : List Str := ["_law_script", "_law_state", "_law_signs_here", "_law_lap", "_law_before", "_law_after", "_law_text"]
theorem sc_law : FnScope ["_law_script", "_law_state", "_law_signs_here", "_law_lap", "_law_before", "_law_after", "_law_text"] ["_law_script"] (defScope s_law) := ⟨rfl, rfl, rfl, by decide +kernel, rfl, by decide +kernel, by decide +kernel⟩
abbrev s_init_BadSplice : Stmt := inClass (topS 6) 0
theorem sc_init_BadSplice : FnScope ["self", "at"] ["self", "at"] (defScope s_init_BadSplice) := ⟨rfl, rfl, rfl, by decide +kernel, rfl, by decide +kernel, by decide +kernel⟩
structure Txt (K : PySem.W.Frag) (mg : Str → Option Value) where
  a_common_begin : Addr
  d_common_begin : FuncData
  F_common_begin : Fun K "common_begin" "common_begin" s_common_begin a_common_begin d_common_begin
  b_common_begin : Binds K d_common_begin ["one", "other"] []
  g_common_begin : mg "common_begin" = some (.ref a_common_begin)
  a_least_splice : Addr
  d_least_splice : FuncData
  F_least_splice : Fun K "least_splice" "least_splice" s_least_splice a_least_splice d_least_splice
  b_least_splice : Binds K d_least_splice ["before", "after"] []
  g_least_splice : mg "least_splice" = some (.ref a_least_splice)
  a_first_strange : Addr
  d_first_strange : FuncData
  F_first_strange : Fun K "first_strange" "first_strange" s_first_strange a_first_strange d_first_strange
  b_first_strange : Binds K d_first_strange ["text"] []
  g_first_strange : mg "first_strange" = some (.ref a_first_strange)
  a_is_text : Addr
  d_is_text : FuncData
  F_is_text : Fun K "is_text" "is_text" s_is_text a_is_text d_is_text
  b_is_text : Binds K d_is_text ["thing"] []
  g_is_text : mg "is_text" = some (.ref a_is_text)
  a_is_number : Addr
  d_is_number : FuncData
  F_is_number : Fun K "is_number" "is_number" s_is_number a_is_number d_is_number
  b_is_number : Binds K d_is_number ["thing"] []
  g_is_number : mg "is_number" = some (.ref a_is_number)
  a_is_splice : Addr
  d_is_splice : FuncData
  F_is_splice : Fun K "is_splice" "is_splice" s_is_splice a_is_splice d_is_splice
  b_is_splice : Binds K d_is_splice ["thing"] []
  g_is_splice : mg "is_splice" = some (.ref a_is_splice)
  a_follows : Addr
  d_follows : FuncData
  F_follows : Fun K "follows" "follows" s_follows a_follows d_follows
  b_follows : Binds K d_follows ["before", "splice"] []
  g_follows : mg "follows" = some (.ref a_follows)
  a_check_round : Addr
  d_check_round : FuncData
  F_check_round : Fun K "check_round" "check_round" s_check_round a_check_round d_check_round
  b_check_round : Binds K d_check_round ["size", "splices"] []
  g_check_round : mg "check_round" = some (.ref a_check_round)
  a_spliced : Addr
  d_spliced : FuncData
  F_spliced : Fun K "spliced" "spliced" s_spliced a_spliced d_spliced
  b_spliced : Binds K d_spliced ["text", "splices"] []
  g_spliced : mg "spliced" = some (.ref a_spliced)
  a_back_round : Addr
  d_back_round : FuncData
  F_back_round : Fun K "back_round" "back_round" s_back_round a_back_round d_back_round
  b_back_round : Binds K d_back_round ["text", "splices"] []
  g_back_round : mg "back_round" = some (.ref a_back_round)
  a_law_start : Addr
  d_law_start : FuncData
  F_law_start : Fun K "_law_start" "_law_start" s_law_start a_law_start d_law_start
  b_law_start : Binds K d_law_start ["_law_script"] []
  g_law_start : mg "_law_start" = some (.ref a_law_start)
  a_law_draw : Addr
  d_law_draw : FuncData
  F_law_draw : Fun K "_law_draw" "_law_draw" s_law_draw a_law_draw d_law_draw
  b_law_draw : Binds K d_law_draw ["_law_state", "_law_many"] []
  g_law_draw : mg "_law_draw" = some (.ref a_law_draw)
  a_law_word : Addr
  d_law_word : FuncData
  F_law_word : Fun K "_law_word" "_law_word" s_law_word a_law_word d_law_word
  b_law_word : Binds K d_law_word ["_law_state", "_law_signs_here", "_law_size"] []
  g_law_word : mg "_law_word" = some (.ref a_law_word)
  a_law_signs : Addr
  d_law_signs : FuncData
  F_law_signs : Fun K "_law_signs" "_law_signs" s_law_signs a_law_signs d_law_signs
  b_law_signs : Binds K d_law_signs ["_law_state"] []
  g_law_signs : mg "_law_signs" = some (.ref a_law_signs)
  a_law_round : Addr
  d_law_round : FuncData
  F_law_round : Fun K "_law_round" "_law_round" s_law_round a_law_round d_law_round
  b_law_round : Binds K d_law_round ["_law_state", "_law_signs_here", "_law_size", "_law_most"] []
  g_law_round : mg "_law_round" = some (.ref a_law_round)
  a_law_done : Addr
  d_law_done : FuncData
  F_law_done : Fun K "_law_done" "_law_done" s_law_done a_law_done d_law_done
  b_law_done : Binds K d_law_done ["_law_text", "_law_row"] []
  g_law_done : mg "_law_done" = some (.ref a_law_done)
  a_law_singles : Addr
  d_law_singles : FuncData
  F_law_singles : Fun K "_law_singles" "_law_singles" s_law_singles a_law_singles d_law_singles
  b_law_singles : Binds K d_law_singles ["_law_before", "_law_after"] []
  g_law_singles : mg "_law_singles" = some (.ref a_law_singles)
  a_law_least : Addr
  d_law_least : FuncData
  F_law_least : Fun K "_law_least" "_law_least" s_law_least a_law_least d_law_least
  b_law_least : Binds K d_law_least ["_law_before", "_law_after"] []
  g_law_least : mg "_law_least" = some (.ref a_law_least)
  a_law_reach : Addr
  d_law_reach : FuncData
  F_law_reach : Fun K "_law_reach" "_law_reach" s_law_reach a_law_reach d_law_reach
  b_law_reach : Binds K d_law_reach ["_law_before", "_law_after"] []
  g_law_reach : mg "_law_reach" = some (.ref a_law_reach)
  a_law_least_long : Addr
  d_law_least_long : FuncData
  F_law_least_long : Fun K "_law_least_long" "_law_least_long" s_law_least_long a_law_least_long d_law_least_long
  b_law_least_long : Binds K d_law_least_long ["_law_before", "_law_after"] []
  g_law_least_long : mg "_law_least_long" = some (.ref a_law_least_long)
  a_law_back : Addr
  d_law_back : FuncData
  F_law_back : Fun K "_law_back" "_law_back" s_law_back a_law_back d_law_back
  b_law_back : Binds K d_law_back ["_law_text", "_law_row", "_law_turned"] []
  g_law_back : mg "_law_back" = some (.ref a_law_back)
  a_law_is_splice : Addr
  d_law_is_splice : FuncData
  F_law_is_splice : Fun K "_law_is_splice" "_law_is_splice" s_law_is_splice a_law_is_splice d_law_is_splice
  b_law_is_splice : Binds K d_law_is_splice ["_law_thing"] []
  g_law_is_splice : mg "_law_is_splice" = some (.ref a_law_is_splice)
  a_law_same : Addr
  d_law_same : FuncData
  F_law_same : Fun K "_law_same" "_law_same" s_law_same a_law_same d_law_same
  b_law_same : Binds K d_law_same ["_law_due", "_law_told"] []
  g_law_same : mg "_law_same" = some (.ref a_law_same)
  a_law_same_round : Addr
  d_law_same_round : FuncData
  F_law_same_round : Fun K "_law_same_round" "_law_same_round" s_law_same_round a_law_same_round d_law_same_round
  b_law_same_round : Binds K d_law_same_round ["_law_due", "_law_told"] []
  g_law_same_round : mg "_law_same_round" = some (.ref a_law_same_round)
  a_law_pair : Addr
  d_law_pair : FuncData
  F_law_pair : Fun K "_law_pair" "_law_pair" s_law_pair a_law_pair d_law_pair
  b_law_pair : Binds K d_law_pair ["_law_before", "_law_after"] []
  g_law_pair : mg "_law_pair" = some (.ref a_law_pair)
  a_law_backs : Addr
  d_law_backs : FuncData
  F_law_backs : Fun K "_law_backs" "_law_backs" s_law_backs a_law_backs d_law_backs
  b_law_backs : Binds K d_law_backs ["_law_text", "_law_row"] []
  g_law_backs : mg "_law_backs" = some (.ref a_law_backs)
  a_law_long : Addr
  d_law_long : FuncData
  F_law_long : Fun K "_law_long" "_law_long" s_law_long a_law_long d_law_long
  b_law_long : Binds K d_law_long ["_law_state", "_law_signs_here"] []
  g_law_long : mg "_law_long" = some (.ref a_law_long)
  a_law : Addr
  d_law : FuncData
  F_law : Fun K "law" "law" s_law a_law d_law
  b_law : Binds K d_law ["_law_script"] []
  g_law : mg "law" = some (.ref a_law)
  c_BadSplice : Addr
  ai_BadSplice : Addr
  d_BadSplice : FuncData
  F_BadSplice : Fun K "__init__" "BadSplice.__init__" s_init_BadSplice ai_BadSplice d_BadSplice
  b_BadSplice : Binds K d_BadSplice ["self", "at"] []
  g_BadSplice : mg "BadSplice" = some (.ref c_BadSplice)
  o_BadSplice : OexC K c_BadSplice
  x_BadSplice : XfC K c_BadSplice
  i_BadSplice : PySem.W.findIn K (.ref c_BadSplice) "__init__" = some (some (.ref ai_BadSplice))
  ti_BadSplice : PySem.W.typeIn K (.ref ai_BadSplice) = some (.type "function")
  e_BadSplice : PySem.W.exmOne K (.ref c_BadSplice) (.ref c_BadSplice) = some true
  na_BadSplice_at : PySem.W.findIn K (.ref c_BadSplice) "at" = some none
  t_ALPHABET : Tok
  g_ALPHABET : mg "ALPHABET" = some (.str "\n !\"#$&'()*+,-./0123456789:;<=>?@ABCDEFGHIJKLMNOPQRSTUVWXYZ[\\]^_`abcdefghijklmnopqrstuvwxyz{|}~" t_ALPHABET)
  n_bool : mg "bool" = none
  n_enumerate : mg "enumerate" = none
  n_int : mg "int" = none
  n_isinstance : mg "isinstance" = none
  n_len : mg "len" = none
  n_max : mg "max" = none
  n_min : mg "min" = none
  n_range : mg "range" = none
  n_str : mg "str" = none
  n_tuple : mg "tuple" = none
  n_zip : mg "zip" = none
/-! ### values by their kind -/
inductive Ok (G : Hp) : V → String → Prop where
  | non : Ok G .non "NoneType"
  | bl (b : Bool) : Ok G (.bl b) "bool"
  | int (i : Int) : Ok G (.int i) "int"
  | str (z : Str) (h : z.length ≤ 8000) : Ok G (.str z) "str"
  | lst {a : Addr} {xs : List V} (h : G a = some (.lst xs)) : Ok G (.ref a) "list"
  | tup {a : Addr} {xs : List V} (h : G a = some (.tup xs)) : Ok G (.ref a) "tuple"
  | dK {a : Addr} {kvs : List (Key × V)} (h : G a = some (.dK kvs)) : Ok G (.ref a) "dict"
theorem Ok.up {G G' : Hp} {v : V} {n : String} (e : Ex G G') (h : Ok G v n) : Ok G' v n := by
  cases h with
  | non => exact .non
  | bl b => exact .bl b
  | int i => exact .int i
  | str z h => exact .str z h
  | lst h => exact .lst (e _ _ h)
  | tup h => exact .tup (e _ _ h)
  | dK h => exact .dK (e _ _ h)
theorem Ok.ty {K : PySem.W.Frag} {G : Hp} {v : V} {n : String} (h : Ok G v n) : TyX K G v (.type n) := by
  cases h with
  | non => exact .base .non
  | bl b => exact .base (.bl b)
  | int i => exact .base (.int i)
  | str z h => exact .base (.str z)
  | lst h => exact .base (.lst h)
  | tup h => exact .base (.tup h)
  | dK h => exact .base (.dK h)
def Okc (G : Hp) (v : V) : Prop := ∃ n, Ok G v n
theorem Okc.up {G G' : Hp} {v : V} (e : Ex G G') (h : Okc G v) : Okc G' v := h.imp fun _ z => z.up e
/-- a thing: of a known kind; if it is a tuple, so are its items -/
def Thg (G : Hp) (v : V) : Prop := Okc G v ∧ ∀ a xs, v = .ref a → G a = some (.tup xs) → xs.length ≤ 1000 ∧ ∀ x ∈ xs, Okc G x
theorem Thg.up {G G' : Hp} {v : V} (e : Ex G G') (h : Thg G v) : Thg G' v := by
  refine ⟨h.1.up e, fun a xs ev ht => ?_⟩
  obtain ⟨n, o⟩ := h.1
  subst ev
  cases o with
  | lst q => rw [e _ _ q] at ht; cases ht
  | dK q => rw [e _ _ q] at ht; cases ht
  | tup q =>
    have z := e _ _ q
    rw [ht] at z
    cases z
    obtain ⟨h1, h2⟩ := h.2 _ _ rfl q
    exact ⟨h1, fun x hx => (h2 x hx).up e⟩
/-! ### the mirror -/
def isTx (z : Str) : Bool := z.cps.toList.all fun c => decide (c ∈ AL.cps.toList)
def numV : V → Bool
  | .int i => decide (0 ≤ i)
  | _ => false
def txtV : V → Bool
  | .str z => isTx z
  | _ => false
abbrev Spl := Int × Int × Str
def sp3o : Option HO → Option Spl
  | some (.tup [.int a, .int c, .str t]) => if 0 ≤ a ∧ 0 ≤ c ∧ isTx t = true ∧ (0 < c ∨ t ≠ "") then some (a, c, t) else none
  | _ => none
def sp3 (G : Hp) : V → Option Spl
  | .ref p => sp3o (G p)
  | _ => none
theorem sp3_up {G G' : Hp} {v : V} (e : Ex G G') (h : Thg G v) : sp3 G' v = sp3 G v := by
  obtain ⟨⟨n, o⟩, _⟩ := h
  cases o with
  | non => rfl
  | bl b => rfl
  | int i => rfl
  | str z h => rfl
  | lst q => show sp3o (G' _) = sp3o (G _); rw [q, e _ _ q]
  | tup q => show sp3o (G' _) = sp3o (G _); rw [q, e _ _ q]
  | dK q => show sp3o (G' _) = sp3o (G _); rw [q, e _ _ q]
def jd (size : Int) : Int → Int → Nat → List (Option Spl) → Option Int
  | _, _, _, [] => none
  | _, _, k, none :: _ => some k
  | fl, ed, k, some (a, c, _) :: r => if a ≤ fl ∨ a < ed ∨ a + c > size then some k else jd size a (a + c) (k + 1) r
def judge (size : Int) (l : List (Option Spl)) : Option Int := if l.isEmpty then some (-1) else jd size (-1) 0 0 l
section
variable {P : Program} {w : World} {K : PySem.W.Frag} {mg : Str → Option Value} {base : Heap}
/-! ### the program's defs -/
theorem ok_init_BadSplice (T : Txt K mg) : FnOk P w K mg base CX0 1 T.ai_BadSplice T.d_BadSplice ["self", "at"] (spInit1 T.c_BadSplice "at") := by
  refine T.F_BadSplice.ok sc_init_BadSplice (fun vs H Q E h => ?_) (fun cdv A outer s H vs Q E hr h => ?_)
  · obtain ⟨a, v, rfl, _⟩ := h
    rfl
  · obtain ⟨a, v, rfl, ha, q⟩ := h
    refine ⟨_, pss_one (ps_ost (pv 0) (pv 1)), ?_⟩
    exact ⟨v, rfl, .ref a, rfl, a, T.c_BadSplice, rfl, T.o_BadSplice, T.na_BadSplice_at, .inl ⟨ha, fun dx n1 n2 => q dx n1 n2⟩⟩
def sp_first_strange : Sp := fun vs H Q _ => ∃ z : Str, vs = [.str z] ∧ ∀ v H', Ex H H' → (v = .non ↔ isTx z = true) → (v = .non ∨ ∃ i, v = .int i) → Q v H'
theorem ok_first_strange (T : Txt K mg) : FnOk P w K mg base CX0 1 T.a_first_strange T.d_first_strange ["text"] sp_first_strange := by
  refine T.F_first_strange.ok sc_first_strange (fun vs H Q E h => ?_) (fun cdv A outer s H vs Q E hr h => ?_)
  · obtain ⟨z, rfl, _⟩ := h
    rfl
  · obtain ⟨z, rfl, q⟩ := h
    refine ⟨_, (pss_cons (ps_for PassesOwn.never rfl (pi_enumS (by rfl) T.n_enumerate (pa_cons (pv 0) pa_nil)) (pg_tup rfl (pgs_cons (pg_name (i := 1) sc_first_strange.nd rfl (Or.inl rfl)) (pgs_cons (pg_name (i := 2) sc_first_strange.nd rfl (Or.inl rfl)) pgs_nil))) (pss_one (ps_if (pt_cmpR op_notInU (pv 2) (pe_glob (v := .str "\n !\"#$&'()*+,-./0123456789:;<=>?@ABCDEFGHIJKLMNOPQRSTUVWXYZ[\\]^_`abcdefghijklmnopqrstuvwxyz{|}~") rfl T.g_ALPHABET ⟨_, rfl⟩) (by rfl)) (pss_one (ps_ret (pv 1))) pss_nil)))
        (pss_one (ps_ret pe_non))), ?_⟩
    walk_at "rd"
    refine ⟨.str z, rfl, z, rfl, ?_⟩
    refine ⟨fun i m σ H' => ∃ y1 y2, σ = [some (.str z), y1, y2] ∧ Ex H H' ∧ i + m = z.cps.size ∧ ∀ c ∈ z.cps.toList.take i, c ∈ AL.cps.toList, ⟨z.cps.size, none, none, rfl, Same.refl H, by omega, fun c hc => by simp at hc⟩, fun i m σ H' hW => ?_⟩
    obtain ⟨y1, y2, rfl, e, em, ha⟩ := hW
    by_cases hi : i < z.cps.size
    · refine .inr ⟨⟨trivial, hi⟩, fun σ' H2 => ∃ y1 y2, σ' = [some (.str z), y1, y2] ∧ Ex H H2 ∧ ∀ c ∈ z.cps.toList.take (i + 1), c ∈ AL.cps.toList, fun σ' H2 hN => ?_, fun x H2 hy => ?_⟩
      · obtain ⟨y1, y2, h1, h2, h3⟩ := hN
        exact ⟨m - 1, by omega, y1, y2, h1, h2, by omega, h3⟩
      · obtain ⟨p, x', rfl, hp, rfl, c, hc, rfl⟩ := hy
        refine ⟨p, _, rfl, sqT upd_same, rfl, _, _, rfl, _, _, rfl, rfl, ?_⟩
        walk_at "rd"
        have e2 : Ex H (upd H' p (.tup [.int (i : Nat), .str ⟨#[c]⟩])) := e.trans (Gr.new (A := A0) (Same.refl H') hp).same
        have hcz : z.cps.toList[i]? = some c := by rw [Array.getElem?_toList]; exact hc
        refine r_niS ?_
        walk_at "rd"
        refine r_iteN (fun hn => ?_) (fun hm => ?_)
        · walk_at "rd"
          refine q _ _ e2 ⟨(fun z => nomatch z), fun ht => ?_⟩ (.inr ⟨_, rfl⟩)
          exfalso
          have h1 := List.all_eq_true.mp ht c (List.mem_of_getElem? hcz)
          exact hn (of_decide_eq_true h1)
        · walk_at "rd"
          refine ⟨_, _, rfl, e2, fun d hd => ?_⟩
          rw [List.take_add_one, hcz] at hd
          rcases List.mem_append.mp hd with h | h
          · exact ha d h
          · have z' : d = c := by simpa using h
            rw [z']
            exact hm
    · refine .inl ⟨⟨trivial, by omega⟩, ?_⟩
      walk_at "rd"
      refine q _ _ e ⟨fun _ => List.all_eq_true.mpr fun d hd => decide_eq_true (ha d ?_), fun _ => rfl⟩ (.inl rfl)
      rw [List.take_of_length_le (by rw [Array.length_toList]; omega)]
      exact hd
/-- a function of a value whose kind is known -/
def spV (f : V → Bool) : Sp := fun vs H Q _ => ∃ v, vs = [v] ∧ Okc H v ∧ ∀ H', Ex H H' → Q (.bl (f v)) H'
theorem ok_is_number (T : Txt K mg) : FnOk P w K mg base CX0 1 T.a_is_number T.d_is_number ["thing"] (spV numV) := by
  refine T.F_is_number.ok sc_is_number (fun vs H Q E h => ?_) (fun cdv A outer s H vs Q E hr h => ?_)
  · obtain ⟨v, rfl, _⟩ := h
    rfl
  · obtain ⟨v, rfl, ⟨n, o⟩, q⟩ := h
    refine ⟨_, (pss_one (ps_ret (pe_and (pe_callB call_isi (by rfl) T.n_isinstance (by decide +kernel) (pa_cons (pv 0) (pa_cons (pe_bltn (v := .ty "int") (by rfl) T.n_int (by decide +kernel) rfl) pa_nil))) (pe_and (pe_not (pe_callB call_isi (by rfl) T.n_isinstance (by decide +kernel) (pa_cons (pv 0) (pa_cons (pe_bltn (v := .ty "bool") (by rfl) T.n_bool (by decide +kernel) rfl) pa_nil)))) (pe_one (pe_cmpR op_ge (pv 0) pe_int (nomark _))))))), ?_⟩
    have ty := o.ty (K := K)
    cases o <;> (walk_at "rd"; walk_at "isi"; walk_at "rd"; try (walk_at "isi"; walk_at "rd")) <;> exact q H (Same.refl H)
theorem ok_is_text (T : Txt K mg) : FnOk P w K mg base CX0 2 T.a_is_text T.d_is_text ["thing"] (spV txtV) := by
  refine T.F_is_text.ok sc_is_text (fun vs H Q E h => ?_) (fun cdv A outer s H vs Q E hr h => ?_)
  · obtain ⟨v, rfl, _⟩ := h
    rfl
  · obtain ⟨v, rfl, ⟨n, o⟩, q⟩ := h
    refine ⟨_, (pss_one (ps_ret (pe_and (pe_callB call_isi (by rfl) T.n_isinstance (by decide +kernel) (pa_cons (pv 0) (pa_cons (pe_bltn (v := .ty "str") (by rfl) T.n_str (by decide +kernel) rfl) pa_nil))) (pe_one (pe_cmpR op_isU (pe_call (ok_first_strange T) hr (by rfl) T.g_first_strange T.F_first_strange.kp T.b_first_strange .nil pass0 (pa_cons (pv 0) pa_nil)) pe_non (nomark _)))))), ?_⟩
    have ty := o.ty (K := K)
    cases o <;> (walk_at "rd"; walk_at "isi"; walk_at "rd")
    case str z h =>
      refine ⟨z, rfl, fun v H' e hv hk => ?_⟩
      walk_at "rd"
      have e2 : decide (v = .non) = txtV (.str z) := by
        show _ = isTx z
        rw [Bool.eq_iff_iff, decide_eq_true_iff]
        exact hv
      rw [e2]
      exact q _ e
    all_goals exact q H (Same.refl H)
def spFol : Sp := fun vs H Q _ => ∃ (p q : Addr) (a c b : Int) (x y z : V), vs = [.ref p, .ref q] ∧ H p = some (.tup [.int a, .int c, x]) ∧ H q = some (.tup [.int b, y, z]) ∧ Q (.bl (decide (a < b) && decide (a + c ≤ b))) H
theorem ok_follows (T : Txt K mg) : FnOk P w K mg base CX0 1 T.a_follows T.d_follows ["before", "splice"] spFol := by
  refine T.F_follows.ok sc_follows (fun vs H Q E h => ?_) (fun cdv A outer s H vs Q E hr h => ?_)
  · obtain ⟨p, q, a, c, b, x, y, z, rfl, _⟩ := h
    rfl
  · obtain ⟨p, q, a, c, b, x, y, z, rfl, hp, hq, k⟩ := h
    refine ⟨_, (pss_one (ps_ret (pe_and (pe_cmpR op_gt (pe_ix ix_seq (pv 1) pe_int (fun _ _ => rfl)) (pe_ix ix_seq (pv 0) pe_int (fun _ _ => rfl)) (nomark _)) (pe_one (pe_cmpR op_ge (pe_ix ix_seq (pv 1) pe_int (fun _ _ => rfl)) (pe_op op_addU (pe_ix ix_seq (pv 0) pe_int (fun _ _ => rfl)) (pe_ix ix_seq (pv 0) pe_int (fun _ _ => rfl))) (nomark _)))))), ?_⟩
    walk_at "rd"
    refine r_ixT (sqT hq) (atI_nat (j := 0) rfl) ?_
    walk_at "rd"
    refine r_ixT (sqT hp) (atI_nat (j := 0) rfl) ?_
    walk_at "rd"
    refine r_ite (fun h1 => ?_) (fun h1 => ?_)
    · walk_at "rd"
      refine r_ixT (sqT hq) (atI_nat (j := 0) rfl) ?_
      walk_at "rd"
      refine r_ixT (sqT hp) (atI_nat (j := 0) rfl) ?_
      walk_at "rd"
      refine r_ixT (sqT hp) (atI_nat (j := 1) rfl) ?_
      walk_at "rd"
      rw [decide_eq_true h1] at k
      exact k
    · rw [decide_eq_false h1] at k
      exact k
def gtV : V → V → Bool
  | .int c, .str t => decide (0 < c) || !decide (V.str t = V.str "")
  | _, _ => false
theorem sp3_tup {G : Hp} {p : Addr} {x y z : V} (h : G p = some (.tup [x, y, z])) : (sp3 G (.ref p)).isSome = (numV x && (numV y && (txtV z && gtV y z))) := by
  show (sp3o (G p)).isSome = _
  rw [h]
  cases x <;> cases y <;> cases z <;> (try rfl) <;> (try (simp [sp3o, numV, txtV, gtV]; done))
  simp only [sp3o, numV, txtV, gtV]
  split
  · rename_i hh
    obtain ⟨h1, h2, h3, h4⟩ := hh
    simp [h1, h2, h3]
    exact h4
  · rename_i hh
    simp only [Option.isSome_none]
    symm
    rw [Bool.eq_false_iff]
    intro hc
    simp at hc
    exact hh ⟨hc.1, hc.2.1, hc.2.2.1, hc.2.2.2⟩
theorem sp3_tupn {G : Hp} {p : Addr} {xs : List V} (h : G p = some (.tup xs)) (hl : xs.length ≠ 3) : sp3 G (.ref p) = none := by
  show sp3o (G p) = none
  rw [h]
  unfold sp3o
  split
  · rename_i h1
    cases h1
    exact absurd rfl hl
  · rfl
def spS : Sp := fun vs H Q _ => ∃ v, vs = [v] ∧ Thg H v ∧ ∀ H', Ex H H' → Q (.bl (sp3 H v).isSome) H'
theorem ok_is_splice (T : Txt K mg) : FnOk P w K mg base CX0 3 T.a_is_splice T.d_is_splice ["thing"] spS := by
  refine T.F_is_splice.ok sc_is_splice (fun vs H Q E h => ?_) (fun cdv A outer s H vs Q E hr h => ?_)
  · obtain ⟨v, rfl, _⟩ := h
    rfl
  · obtain ⟨v, rfl, ⟨⟨n, o⟩, hx⟩, q⟩ := h
    refine ⟨_, (pss_cons (ps_if (PW.pt (pw_or (pt_not (pt_val (pe_callB call_isi (by rfl) T.n_isinstance (by decide +kernel) (pa_cons (pv 0) (pa_cons (pe_bltn (v := .ty "tuple") (by rfl) T.n_tuple (by decide +kernel) rfl) pa_nil))))) (pw_or1 (pt_cmpR (op_neU hr.units) (pe_callB call_lenU (by rfl) T.n_len (by decide +kernel) (pa_cons (pv 0) pa_nil)) pe_int (nomark _))))) (pss_one (ps_ret pe_bl)) pss_nil)
        (pss_cons (ps_asg (pv 0) (pg_tup rfl (pgs_cons (pg_name (i := 1) sc_is_splice.nd rfl (Or.inl rfl)) (pgs_cons (pg_name (i := 2) sc_is_splice.nd rfl (Or.inl rfl)) (pgs_cons (pg_name (i := 3) sc_is_splice.nd rfl (Or.inl rfl)) pgs_nil)))))
        (pss_one (ps_ret (pe_and (pe_call (ok_is_number T) (hr.mono (by decide)) (by rfl) T.g_is_number T.F_is_number.kp T.b_is_number .nil pass0 (pa_cons (pv 1) pa_nil)) (pe_and (pe_call (ok_is_number T) (hr.mono (by decide)) (by rfl) T.g_is_number T.F_is_number.kp T.b_is_number .nil pass0 (pa_cons (pv 2) pa_nil)) (pe_and (pe_call (ok_is_text T) hr (by rfl) T.g_is_text T.F_is_text.kp T.b_is_text .nil pass0 (pa_cons (pv 3) pa_nil)) (pe_one (pe_or (pe_cmpR op_gt (pv 2) pe_int (nomark _)) (pe_one (pe_cmpR (op_neU hr.units) (pv 3) pe_str (nomark _)))))))))))), ?_⟩
    have ty := o.ty (K := K)
    cases o <;> (walk_at "rd"; walk_at "isi"; walk_at "rd")
    case tup a xs h =>
      refine r_lenT (sqT h) ?_
      walk_at "rd"
      refine r_iteN (fun h3 => ?_) (fun h3 => ?_)
      · walk_at "rd"
        have q1 := q H (Same.refl H)
        rw [sp3_tupn h (fun z => h3 (by rw [z]; rfl))] at q1
        exact q1
      · have hl : xs.length = 3 := by
          have z := V.int.inj h3
          omega
        match xs, hl, h, hx with
        | [x, y, z], _, h, hx =>
          obtain ⟨_, hx⟩ := hx _ _ rfl h
          have key := sp3_tup h
          walk_at "rd"
          refine r_gtup (sqT h) rfl ?_
          walk_at "rd"
          refine ⟨x, rfl, hx x (by simp), fun H1 e1 => ?_⟩
          walk_at "rd"
          refine r_iteB (fun b1 => ?_) (fun b1 => ?_)
          · walk_at "rd"
            refine ⟨y, rfl, (hx y (by simp)).up e1, fun H2 e2 => ?_⟩
            walk_at "rd"
            refine r_iteB (fun b2 => ?_) (fun b2 => ?_)
            · walk_at "rd"
              refine ⟨z, rfl, ((hx z (by simp)).up e1).up e2, fun H3 e3 => ?_⟩
              have e : Ex H H3 := (e1.trans e2).trans e3
              walk_at "rd"
              refine r_iteB (fun b3 => ?_) (fun b3 => ?_)
              · rw [b1, b2, b3, Bool.true_and, Bool.true_and, Bool.true_and] at key
                cases y <;> try (cases b2; done)
                cases z <;> try (cases b3; done)
                walk_at "rd"
                refine r_ite (fun hc => ?_) (fun hc => ?_)
                · have q1 := q _ e
                  rw [key] at q1
                  simp only [gtV, decide_eq_true hc, Bool.true_or] at q1
                  exact q1
                · walk_at "rd"
                  have q1 := q _ e
                  rw [key] at q1
                  simp only [gtV, decide_eq_false hc, Bool.false_or] at q1
                  exact q1
              · have q1 := q _ e
                rw [key, b1, b2, b3] at q1
                exact q1
            · have q1 := q _ (e1.trans e2)
              rw [key, b1, b2] at q1
              exact q1
          · have q1 := q _ e1
            rw [key, b1] at q1
            exact q1
    all_goals
      have q1 := q H (Same.refl H)
    case lst a xs h =>
      have e0 : sp3 H (.ref a) = none := by
        show sp3o (H a) = none
        rw [h] <;> rfl
      rw [e0] at q1
      exact q1
    case dK a xs h =>
      have e0 : sp3 H (.ref a) = none := by
        show sp3o (H a) = none
        rw [h] <;> rfl
      rw [e0] at q1
      exact q1
    all_goals exact q1
end
end K15
namespace K15
open PySem PySem.Spec PyProof.Rows L2 Dk
/-- one step of a reading -/
local macro_rules | `(tactic| walk_at "rd1") => `(tactic| first
  | ((with_reducible refine r_var (v := ?rv) ?rh ?_); (case rh => rfl))
  | with_reducible refine r_c ?_
  | with_reducible refine r_seq ?_
  | with_reducible refine r_asg ?_
  | with_reducible refine r_gname ?_
  | with_reducible refine r_op ?_
  | with_reducible refine r_xfo ?_
  | with_reducible refine r_noP ?_
  | with_reducible refine r_part ?_
  | with_reducible refine r_pI ?_
  | with_reducible refine r_gcons ?_
  | with_reducible refine r_gnil ?_
  | with_reducible refine r_mkO ?_
  | with_reducible refine r_un ?_
  | with_reducible refine r_addI ?_
  | with_reducible refine r_I0 ?_
  | with_reducible refine r_U ?_
  | with_reducible refine r_cons ?_
  | with_reducible refine r_nil ?_
  | with_reducible refine r_CB ?_
  | with_reducible refine r_call ?_
  | with_reducible refine r_callS ?_
  | with_reducible refine r_int ?_
  | with_reducible refine r_max ?_
  | with_reducible refine r_min ?_
  | with_reducible refine r_test ?_
  | with_reducible refine r_B ?_
  | with_reducible refine r_blv ?_
  | with_reducible refine r_and ?_
  | with_reducible refine r_or ?_
  | with_reducible refine r_not ?_
  | with_reducible refine r_andV ?_
  | with_reducible refine r_orV ?_
  | with_reducible refine r_notV ?_
  | with_reducible refine r_ifE ?_
  | with_reducible refine r_ifS ?_
  | with_reducible refine r_ret ?_
  | with_reducible refine r_retN ?_
  | with_reducible refine r_drop ?_
  | with_reducible refine r_next ?_
  | with_reducible refine r_sl ?_
  | with_reducible refine r_gsub ?_
  | with_reducible refine r_bm ?_
  | with_reducible refine r_tup ?_
  | with_reducible refine r_lst ?_
  | with_reducible refine r_isN ?_
  | with_reducible refine r_notN ?_
  | with_reducible refine r_itt ?_
  | with_reducible refine r_iff ?_
  | with_reducible refine r_ittN ?_
  | with_reducible refine r_iffN ?_
  | ((with_reducible refine r_ittD ?rh ?_); (case rh => rfl))
  | ((with_reducible refine r_iffD ?rh ?_); (case rh => rfl))
  | ((with_reducible refine r_modP ?rh ?_); (case rh => decide))
  | ((with_reducible refine r_eq ?rh ?_); (case rh => rfl))
  | ((with_reducible refine r_ne ?rh ?_); (case rh => rfl)))
local macro_rules | `(tactic| walk_at "rd") => `(tactic| repeat walk_at "rd1")
local macro_rules | `(tactic| walk_at "isi") => `(tactic| first | refine r_isi (b := true) (by assumption) (by decide +kernel) ?_ | refine r_isi (b := false) (by assumption) (by decide +kernel) ?_)
local macro_rules | `(tactic| walk_at "rs1") => `(tactic| first
  | with_reducible refine r_seq ?_
  | with_reducible refine r_asg ?_
  | with_reducible refine r_gname ?_
  | with_reducible refine r_ret ?_)
local macro_rules | `(tactic| walk_at "rs") => `(tactic| repeat walk_at "rs1")

/-! ### rounds -/
/-- the rows of right splices, as numbers and codes -/
theorem jd_next {size fl ed : Int} {k : Nat} {l : List (Option Spl)} {a c : Int} {t : Str} (h : l[k]? = some (some (a, c, t))) (h1 : ¬ (a ≤ fl ∨ a < ed ∨ a + c > size)) :
    jd size fl ed k (l.drop k) = jd size a (a + c) (k + 1) (l.drop (k + 1)) := by
  obtain ⟨hk, e⟩ := List.getElem?_eq_some_iff.mp h
  rw [List.drop_eq_getElem_cons hk, e]
  exact if_neg h1
theorem jd_bad {size fl ed : Int} {k : Nat} {l : List (Option Spl)} {a c : Int} {t : Str} (h : l[k]? = some (some (a, c, t))) (h1 : a ≤ fl ∨ a < ed ∨ a + c > size) :
    jd size fl ed k (l.drop k) = some (k : Int) := by
  obtain ⟨hk, e⟩ := List.getElem?_eq_some_iff.mp h
  rw [List.drop_eq_getElem_cons hk, e]
  exact if_pos h1
theorem jd_none {size fl ed : Int} {k : Nat} {l : List (Option Spl)} (h : l[k]? = some none) : jd size fl ed k (l.drop k) = some (k : Int) := by
  obtain ⟨hk, e⟩ := List.getElem?_eq_some_iff.mp h
  rw [List.drop_eq_getElem_cons hk, e]
  rfl
theorem sp3_shape {G : Hp} {v : V} {a c : Int} {t : Str} (h : sp3 G v = some (a, c, t)) : ∃ p, v = .ref p ∧ G p = some (.tup [.int a, .int c, .str t]) ∧ 0 ≤ a ∧ 0 ≤ c ∧ isTx t = true := by
  cases v <;> try (cases h; done)
  rename_i p
  have h' : sp3o (G p) = some (a, c, t) := h
  unfold sp3o at h'
  split at h'
  · rename_i a' c' t' hg
    split at h'
    · rename_i hh
      cases h'
      exact ⟨p, rfl, hg, hh.1, hh.2.1, hh.2.2.1⟩
    · cases h'
  · cases h'
section
variable {P : Program} {w : World} {K : PySem.W.Frag} {mg : Str → Option Value} {base : Heap}
abbrev xAt (k : Int) : HO := .xd [(("at" : Str), V.int k)]
/-- a row of things at a -/
structure Rw (G : Hp) (xs : List V) : Prop where
  len : xs.length ≤ 1000
  thg : ∀ x ∈ xs, Thg G x
theorem Rw.up {G G' : Hp} {xs : List V} (e : Ex G G') (h : Rw G xs) : Rw G' xs := ⟨h.len, fun x hx => (h.thg x hx).up e⟩
abbrev sps (G : Hp) (xs : List V) : List (Option Spl) := xs.map (sp3 G)
theorem sps_up {G G' : Hp} {xs : List V} (e : Ex G G') (h : Rw G xs) : sps G' xs = sps G xs := List.map_congr_left fun x hx => sp3_up e (h.thg x hx)
def spChk (C : Addr) : Sp := fun vs H Q E => ∃ (n : Int) (a : Addr) (xs : List V), vs = [.int n, .ref a] ∧ H a = some (.tup xs) ∧ Rw H xs ∧
  (judge n (sps H xs) = none → ∀ H', Ex H H' → Q .non H') ∧ ∀ k, judge n (sps H xs) = some k → ∀ H' d, Ex H H' → H d = none → H' d = some (xAt k) → E (.ref C) (some d) H'
theorem ok_check_round (T : Txt K mg) : FnOk P w K mg base (L2.CX P w) 4 T.a_check_round T.d_check_round ["size", "splices"] (spChk T.c_BadSplice) := by
  refine T.F_check_round.okX sc_check_round (fun vs H Q E h => ?_) (fun cdv A outer s H vs Q E hr h => ?_)
  · obtain ⟨n, a, xs, rfl, _⟩ := h
    rfl
  · obtain ⟨n, a, xs, rfl, ha, rw0, q, qE⟩ := h
    refine ⟨_, (pss_cons (ps_if (pt_cmpR (op_eqU hr.units) (pe_callB call_lenU (by rfl) T.n_len (by decide +kernel) (pa_cons (pv 1) pa_nil)) pe_int (nomark _)) (pss_one (ps_raise rfl (takes_of rfl rfl rfl rfl) (pmk_oex T.o_BadSplice T.i_BadSplice T.ti_BadSplice (ok_init_BadSplice T) (hr.mono (by decide)) T.b_BadSplice .nil pass0 (by rfl) T.g_BadSplice (pa_cons (pe_un un_neg pe_int) pa_nil)))) pss_nil)
        (pss_one (ps_for (passes_of rfl) rfl (pi_enumT (by rfl) T.n_enumerate (pa_cons (pv 1) pa_nil)) (pg_tup rfl (pgs_cons (pg_name (i := 2) sc_check_round.nd rfl (Or.inl rfl)) (pgs_cons (pg_name (i := 3) sc_check_round.nd rfl (Or.inl rfl)) pgs_nil))) (pss_cons (ps_if (PW.pt (pw_or (pt_not (pt_val (pe_call (ok_is_splice T) hr (by rfl) T.g_is_splice T.F_is_splice.kp T.b_is_splice .nil pass0 (pa_cons (pv 3) pa_nil)))) (pw_or1 (pt_cmpR op_gt (pe_op op_addU (pe_ix ix_seq (pv 3) pe_int (fun _ _ => rfl)) (pe_ix ix_seq (pv 3) pe_int (fun _ _ => rfl))) (pv 0) (nomark _))))) (pss_one (ps_raise rfl (takes_of rfl rfl rfl rfl) (pmk_oex T.o_BadSplice T.i_BadSplice T.ti_BadSplice (ok_init_BadSplice T) (hr.mono (by decide)) T.b_BadSplice .nil pass0 (by rfl) T.g_BadSplice (pa_cons (pv 2) pa_nil)))) pss_nil)
        (pss_one (ps_if (PW.pt (pw_and (pt_cmpR op_gt (pv 2) pe_int (nomark _)) (pw_and1 (pt_not (pt_val (pe_call (ok_follows T) (hr.mono (by decide)) (by rfl) T.g_follows T.F_follows.kp T.b_follows .nil pass0 (pa_cons (pe_ix ix_seq (pv 1) (pe_op op_sub (pv 2) pe_int) (fun _ _ => rfl)) (pa_cons (pv 3) pa_nil)))))))) (pss_one (ps_raise rfl (takes_of rfl rfl rfl rfl) (pmk_oex T.o_BadSplice T.i_BadSplice T.ti_BadSplice (ok_init_BadSplice T) (hr.mono (by decide)) T.b_BadSplice .nil pass0 (by rfl) T.g_BadSplice (pa_cons (pv 2) pa_nil)))) pss_nil)))))), ?_⟩
    have raise : ∀ (k : Int) (H1 : Hp), judge n (sps H xs) = some k → Ex H H1 → ∀ d, H1 d = none → E (.ref T.c_BadSplice) (some d) (upd H1 d (xAt k)) :=
      fun k H1 hk e d hd => qE k hk _ d (e.trans (Gr.new (A := A0) (Same.refl H1) hd).same) (e.free hd) upd_same
    walk_at "rd"
    refine r_lenT (sqT ha) ?_
    walk_at "rd"
    refine r_ite (fun h0 => ?_) (fun h0 => ?_)
    · have hx : xs = [] := by
        have z := V.int.inj h0
        exact List.length_eq_zero_iff.mp (by omega)
      walk_at "rd"
      refine r_raise1 fun d hd => raise _ _ (by rw [hx]; rfl) (Same.refl H) d hd
    · have hx : xs ≠ [] := fun z => h0 (by rw [z]; rfl)
      have hj : judge n (sps H xs) = jd n (-1) 0 0 (sps H xs) := by
        unfold judge
        rw [if_neg (by simp [sps, hx])]
      walk_at "rd"
      refine r_forETv rfl (sqT ha) (fun i σ H' => ∃ y1 y2 fl ed, σ = [some (.int n), some (.ref a), y1, y2] ∧ Ex H H' ∧ jd n (-1) 0 0 (sps H xs) = jd n fl ed i ((sps H xs).drop i) ∧
        ((i = 0 ∧ fl = -1 ∧ ed = 0) ∨ (0 < i ∧ ∃ (p : Addr) (c : Int) (t : Str), xs[i - 1]? = some (.ref p) ∧ H p = some (.tup [.int fl, .int c, .str t]) ∧ ed = fl + c)))
        ⟨none, none, -1, 0, rfl, Same.refl H, rfl, .inl ⟨rfl, rfl, rfl⟩⟩ (fun i σ H' h => ?_) (fun i x σ H' p hx' hP hp => ?_) (fun σ H' hP => ?_)
      · obtain ⟨_, _, _, _, _, e, _⟩ := h
        exact SqT.up e (sqT ha)
      · obtain ⟨y1, y2, fl, ed, rfl, e, hjd, hfl⟩ := hP
        have hT : Thg H x := rw0.thg x (List.mem_of_getElem? hx')
        have e1 : Ex H' (upd H' p (.tup [.int (i : Nat), x])) := (Gr.new (A := A0) (Same.refl H') hp).same
        have e2 := e.trans e1
        have hs : (sps H xs)[i]? = some (sp3 H x) := by
          rw [List.getElem?_map, hx']
          rfl
        refine r_gtup (sqT upd_same) rfl ?_
        walk_at "rd"
        refine ⟨x, rfl, hT.up e2, fun H2 e3 => ?_⟩
        have e4 := e2.trans e3
        rw [sp3_up e2 hT]
        walk_at "rd"
        cases hsp : sp3 H x with
        | none =>
          rw [hsp] at hs
          walk_at "rd"
          exact r_raise1 fun d hd => raise _ _ (by rw [hj, hjd]; exact jd_none hs) e4 d hd
        | some abc =>
          obtain ⟨b, c, t⟩ := abc
          rw [hsp] at hs
          obtain ⟨p2, rfl, hp2, b0, c0, _⟩ := sp3_shape hsp
          walk_at "rd"
          refine r_ixT (sqT (e4 _ _ hp2)) (atI_nat (j := 0) rfl) ?_
          walk_at "rd"
          refine r_ixT (sqT (e4 _ _ hp2)) (atI_nat (j := 1) rfl) ?_
          walk_at "rd"
          refine r_ite (fun hb => ?_) (fun hb => ?_)
          · walk_at "rd"
            exact r_raise1 fun d hd => raise _ _ (by rw [hj, hjd]; exact jd_bad hs (.inr (.inr hb))) e4 d hd
          · walk_at "rd"
            refine r_ite (fun hi => ?_) (fun hi => ?_)
            · rcases hfl with ⟨z, _, _⟩ | ⟨_, p3, c3, t3, hx3, hp3, rfl⟩
              · omega
              · walk_at "rd"
                refine r_ixT (sqT (e4 _ _ ha)) (at_of (j := i - 1) (by omega) hx3) ?_
                walk_at "rd"
                refine ⟨p3, p2, fl, c3, b, _, _, _, rfl, e4 _ _ hp3, e4 _ _ hp2, ?_⟩
                walk_at "rd"
                refine r_iteB (fun hf => ?_) (fun hf => ?_)
                · walk_at "rd"
                  have hf' : ¬ (fl < b ∧ fl + c3 ≤ b) := by
                    intro z
                    rw [decide_eq_true z.1, decide_eq_true z.2] at hf
                    exact absurd hf (by decide)
                  exact r_raise1 fun d hd => raise _ _ (by rw [hj, hjd]; exact jd_bad hs (by omega)) e4 d hd
                · walk_at "rd"
                  have hf' : fl < b ∧ fl + c3 ≤ b := by
                    have z : (decide (fl < b) && decide (fl + c3 ≤ b)) = true := by
                      cases hq : (decide (fl < b) && decide (fl + c3 ≤ b)) with
                      | true => rfl
                      | false => rw [hq] at hf; exact absurd hf (by decide)
                    simp at z
                    exact z
                  exact ⟨_, _, b, b + c, rfl, e4, hjd.trans (jd_next hs (by omega)), .inr ⟨by omega, p2, c, t, by rw [Nat.add_sub_cancel]; exact hx', hp2, rfl⟩⟩
            · walk_at "rd"
              have h1 : fl = -1 ∧ ed = 0 := by
                rcases hfl with ⟨_, h1, h2⟩ | ⟨z, _⟩
                · exact ⟨h1, h2⟩
                · omega
              exact ⟨_, _, b, b + c, rfl, e4, hjd.trans (jd_next hs (by omega)), .inr ⟨by omega, p2, c, t, by rw [Nat.add_sub_cancel]; exact hx', hp2, rfl⟩⟩
      · obtain ⟨y1, y2, fl, ed, rfl, e, hjd, _⟩ := hP
        walk_at "rd"
        refine q ?_ _ e
        rw [hj, hjd, List.drop_of_length_le (by simp [sps])]
        rfl
end
end K15
namespace K15
open PySem PySem.Spec PyProof.Rows L2 Dk
/-- one step of a reading -/
local macro_rules | `(tactic| walk_at "rd1") => `(tactic| first
  | ((with_reducible refine r_var (v := ?rv) ?rh ?_); (case rh => rfl))
  | with_reducible refine r_c ?_
  | with_reducible refine r_seq ?_
  | with_reducible refine r_asg ?_
  | with_reducible refine r_gname ?_
  | with_reducible refine r_op ?_
  | with_reducible refine r_xfo ?_
  | with_reducible refine r_noP ?_
  | with_reducible refine r_part ?_
  | with_reducible refine r_pI ?_
  | with_reducible refine r_gcons ?_
  | with_reducible refine r_gnil ?_
  | with_reducible refine r_mkO ?_
  | with_reducible refine r_un ?_
  | with_reducible refine r_addI ?_
  | with_reducible refine r_I0 ?_
  | with_reducible refine r_U ?_
  | with_reducible refine r_cons ?_
  | with_reducible refine r_nil ?_
  | with_reducible refine r_CB ?_
  | with_reducible refine r_call ?_
  | with_reducible refine r_callS ?_
  | with_reducible refine r_int ?_
  | with_reducible refine r_max ?_
  | with_reducible refine r_min ?_
  | with_reducible refine r_test ?_
  | with_reducible refine r_B ?_
  | with_reducible refine r_blv ?_
  | with_reducible refine r_and ?_
  | with_reducible refine r_or ?_
  | with_reducible refine r_not ?_
  | with_reducible refine r_andV ?_
  | with_reducible refine r_orV ?_
  | with_reducible refine r_notV ?_
  | with_reducible refine r_ifE ?_
  | with_reducible refine r_ifS ?_
  | with_reducible refine r_ret ?_
  | with_reducible refine r_retN ?_
  | with_reducible refine r_drop ?_
  | with_reducible refine r_next ?_
  | with_reducible refine r_sl ?_
  | with_reducible refine r_gsub ?_
  | with_reducible refine r_bm ?_
  | with_reducible refine r_tup ?_
  | with_reducible refine r_lst ?_
  | with_reducible refine r_isN ?_
  | with_reducible refine r_notN ?_
  | with_reducible refine r_itt ?_
  | with_reducible refine r_iff ?_
  | with_reducible refine r_ittN ?_
  | with_reducible refine r_iffN ?_
  | ((with_reducible refine r_ittD ?rh ?_); (case rh => rfl))
  | ((with_reducible refine r_iffD ?rh ?_); (case rh => rfl))
  | ((with_reducible refine r_modP ?rh ?_); (case rh => decide))
  | ((with_reducible refine r_eq ?rh ?_); (case rh => rfl))
  | ((with_reducible refine r_ne ?rh ?_); (case rh => rfl)))
local macro_rules | `(tactic| walk_at "rd") => `(tactic| repeat walk_at "rd1")
local macro_rules | `(tactic| walk_at "isi") => `(tactic| first | refine r_isi (b := true) (by assumption) (by decide +kernel) ?_ | refine r_isi (b := false) (by assumption) (by decide +kernel) ?_)
local macro_rules | `(tactic| walk_at "rs1") => `(tactic| first
  | with_reducible refine r_seq ?_
  | with_reducible refine r_asg ?_
  | with_reducible refine r_gname ?_
  | with_reducible refine r_ret ?_)
local macro_rules | `(tactic| walk_at "rs") => `(tactic| repeat walk_at "rs1")

/-! ### what splicing gives -/
def ledC (l : List Nat) : Int → List Spl → List Nat
  | d, [] => l.drop d.toNat
  | d, (a, c, t) :: r => (l.drop d.toNat).take (a.toNat - d.toNat) ++ (cs t ++ ledC l (a + c) r)
def doneC (l : List Nat) : List Spl → List Nat
  | [] => l
  | (a, c, t) :: r => (doneC l r).take a.toNat ++ (cs t ++ (doneC l r).drop (a + c).toNat)
/-- the row is right from the floor d on -/
def Rt (n : Nat) : Int → List Spl → Prop
  | d, [] => 0 ≤ d ∧ d ≤ n
  | d, (a, c, _) :: r => 0 ≤ d ∧ d ≤ a ∧ 0 ≤ c ∧ a + c ≤ n ∧ Rt n (a + c) r
theorem Rt.le {n : Nat} {d : Int} {r : List Spl} (h : Rt n d r) : 0 ≤ d ∧ d ≤ n := by
  cases r with
  | nil => exact h
  | cons x r =>
    obtain ⟨a, c, t⟩ := x
    obtain ⟨h1, h2, h3, h4, _⟩ := h
    omega
theorem done_led {l : List Nat} : ∀ (r : List Spl) (d : Int), Rt l.length d r → doneC l r = l.take d.toNat ++ ledC l d r
  | [], d, h => (List.take_append_drop _ _).symm
  | (a, c, t) :: r, d, h => by
    obtain ⟨h1, h2, h3, h4, h5⟩ := h
    have ih := done_led r (a + c) h5
    show (doneC l r).take a.toNat ++ (cs t ++ (doneC l r).drop (a + c).toNat) = l.take d.toNat ++ ((l.drop d.toNat).take (a.toNat - d.toNat) ++ (cs t ++ ledC l (a + c) r))
    have e1 : (doneC l r).take a.toNat = l.take a.toNat := by
      rw [ih, List.take_append_of_le_length (by rw [List.length_take]; omega), List.take_take, Nat.min_eq_left (by omega)]
    have e2 : (doneC l r).drop (a + c).toNat = ledC l (a + c) r := by
      have e3 : (l.take (a + c).toNat).length = (a + c).toNat := by rw [List.length_take]; omega
      rw [ih]
      exact List.drop_left' e3
    have e4 : l.take d.toNat ++ (l.drop d.toNat).take (a.toNat - d.toNat) = l.take a.toNat := by
      have z := List.take_add (l := l) (i := d.toNat) (j := a.toNat - d.toNat)
      rw [show d.toNat + (a.toNat - d.toNat) = a.toNat by omega] at z
      exact z.symm
    rw [e1, e2, ← e4, List.append_assoc]
theorem done_led0 {l : List Nat} {r : List Spl} (h : Rt l.length 0 r) : doneC l r = ledC l 0 r := by
  rw [done_led r 0 h]
  rfl
theorem jd_rt {n : Nat} : ∀ (l : List (Option Spl)) (fl ed : Int) (k : Nat), (∀ a c t, some (a, c, t) ∈ l → 0 ≤ a ∧ 0 ≤ c) → 0 ≤ ed → ed ≤ n → jd n fl ed k l = none → ∃ rs : List Spl, l = rs.map some ∧ Rt n ed rs
  | [], fl, ed, k, _, h0, h1, _ => ⟨[], rfl, h0, h1⟩
  | none :: r, fl, ed, k, _, _, _, h => by cases h
  | some (a, c, t) :: r, fl, ed, k, hp, h0, h1, h => by
    obtain ⟨ha, hc⟩ := hp a c t (by simp)
    unfold jd at h
    split at h
    · cases h
    · rename_i hn
      obtain ⟨rs, e, hr⟩ := jd_rt r a (a + c) (k + 1) (fun a c t hm => hp a c t (List.mem_cons_of_mem _ hm)) (by omega) (by omega) h
      exact ⟨(a, c, t) :: rs, by rw [e]; rfl, h0, by omega, hc, by omega, hr⟩
theorem judge_rt {G : Hp} {n : Nat} {xs : List V} (h : judge n (sps G xs) = none) : ∃ rs : List Spl, sps G xs = rs.map some ∧ Rt n 0 rs := by
  unfold judge at h
  split at h
  · cases h
  · refine jd_rt _ _ _ _ (fun a c t hm => ?_) (by omega) (by omega) h
    obtain ⟨v, hv, e⟩ := List.mem_map.mp hm
    obtain ⟨p, _, _, h1, h2, _⟩ := sp3_shape e
    exact ⟨h1, h2⟩
theorem sps_at {G : Hp} {xs : List V} {rs : List Spl} (h : sps G xs = rs.map some) {i : Nat} {x : V} (hx : xs[i]? = some x) :
    ∃ (p : Addr) (a c : Int) (t : Str), x = .ref p ∧ rs[i]? = some (a, c, t) ∧ G p = some (.tup [.int a, .int c, .str t]) ∧ 0 ≤ a ∧ 0 ≤ c := by
  have h1 : (sps G xs)[i]? = some (sp3 G x) := by rw [List.getElem?_map, hx]; rfl
  rw [h, List.getElem?_map] at h1
  cases hr : rs[i]? with
  | none => rw [hr] at h1; cases h1
  | some r =>
    obtain ⟨a, c, t⟩ := r
    rw [hr] at h1
    have h2 : sp3 G x = some (a, c, t) := (Option.some.inj h1).symm
    obtain ⟨p, e, hg, h3, h4, _⟩ := sp3_shape h2
    exact ⟨p, a, c, t, e, rfl, hg, h3, h4⟩
theorem put_len {G : Hp} {xs : List V} (h : Rw G xs) {p : Addr} {a c : V} {t : Str} (hm : V.ref p ∈ xs) (hp : G p = some (.tup [a, c, .str t])) : t.length ≤ 8000 := by
  obtain ⟨_, h2⟩ := (h.thg _ hm).2 _ _ rfl hp
  obtain ⟨n, o⟩ := h2 (.str t) (by simp)
  cases o with
  | str z hz => exact hz
theorem led_drop {l : List Nat} {rs : List Spl} {i : Nat} {a c : Int} {t : Str} (d : Int) (h : rs[i]? = some (a, c, t)) :
    ledC l d (rs.drop i) = (l.drop d.toNat).take (a.toNat - d.toNat) ++ (cs t ++ ledC l (a + c) (rs.drop (i + 1))) := by
  obtain ⟨hi, e⟩ := List.getElem?_eq_some_iff.mp h
  rw [List.drop_eq_getElem_cons hi, e]
  rfl
theorem sum_le {B : Nat} : ∀ {ps : List Str}, (∀ y ∈ ps, y.length ≤ B) → (ps.map (·.length)).sum ≤ ps.length * B
  | [], _ => Nat.zero_le _
  | y :: r, h => by
    have ih := sum_le (ps := r) fun z hz => h z (List.mem_cons_of_mem _ hz)
    have h1 := h y (by simp)
    rw [List.map_cons, List.sum_cons, List.length_cons, Nat.add_mul]
    omega
/-- the parts so far -/
structure Pts (l : List Nat) (rs : List Spl) (ps : List Str) (i : Nat) (d : Int) : Prop where
  led : (ps.map cs).flatten ++ ledC l d (rs.drop i) = ledC l 0 rs
  len : ps.length = 2 * i
  each : ∀ y ∈ ps, y.length ≤ 8000
  d0 : 0 ≤ d
theorem Pts.next {l : List Nat} {rs : List Spl} {ps : List Str} {i : Nat} {d a c : Int} {t x : Str} (h : Pts l rs ps i d) (hr : rs[i]? = some (a, c, t)) (ha : 0 ≤ a) (hc : 0 ≤ c)
    (hx : cs x = (l.drop d.toNat).take (a.toNat - d.toNat)) (hxl : x.length ≤ 8000) (ht : t.length ≤ 8000) : Pts l rs (ps ++ [x, t]) (i + 1) (a + c) where
  led := by
    have z := h.led
    rw [led_drop d hr] at z
    rw [← z, List.map_append, List.flatten_append, List.append_assoc]
    simp [hx]
  len := by
    rw [List.length_append, h.len]
    simp
    omega
  each := fun y hy => by
    rcases List.mem_append.mp hy with h1 | h1
    · exact h.each y h1
    · rcases List.mem_cons.mp h1 with h2 | h2
      · rw [h2]
        exact hxl
      · rw [List.mem_singleton.mp h2]
        exact ht
  d0 := by omega
theorem Pts.last {l : List Nat} {rs : List Spl} {ps : List Str} {d : Int} {x : Str} (h : Pts l rs ps rs.length d) (hx : cs x = l.drop d.toNat) : cs (Txt.join "" (ps ++ [x])) = ledC l 0 rs := by
  have z := h.led
  rw [List.drop_length] at z
  rw [cs_join, List.map_append, List.flatten_append, ← z]
  simp [hx, ledC]
theorem cs_cutI (z : Str) {a b : Int} (ha : 0 ≤ a) (hb : 0 ≤ b) : cs (cutS z (some a) (some b)) = ((cs z).drop a.toNat).take (b.toNat - a.toNat) := by
  rw [int_nat ha, int_nat hb]
  exact cs_cut z _ _
theorem cs_fromI (z : Str) {a : Int} (ha : 0 ≤ a) : cs (cutS z (some a) none) = (cs z).drop a.toNat := by
  rw [int_nat ha]
  exact cs_from z _
theorem small8 {z : Str} (h : z.length ≤ 8000) : z.length ≤ sizeLine := Nat.le_trans h (by decide)
section
variable {P : Program} {w : World} {K : PySem.W.Frag} {mg : Str → Option Value} {base : Heap}
def spSpl (C : Addr) : Sp := fun vs H Q E => ∃ (z : Str) (a : Addr) (xs : List V), vs = [.str z, .ref a] ∧ z.length ≤ 8000 ∧ H a = some (.tup xs) ∧ Rw H xs ∧
  (∀ rs, sps H xs = rs.map some → judge z.length (sps H xs) = none → ∀ H' o, Ex H H' → cs o = ledC (cs z) 0 rs → Q (.str o) H') ∧
  ∀ k, judge z.length (sps H xs) = some k → ∀ H' d, Ex H H' → H d = none → H' d = some (xAt k) → E (.ref C) (some d) H'
theorem ok_spliced (T : Txt K mg) : FnOk P w K mg base (L2.CX P w) 5 T.a_spliced T.d_spliced ["text", "splices"] (spSpl T.c_BadSplice) := by
  refine T.F_spliced.okX sc_spliced (fun vs H Q E h => ?_) (fun cdv A outer s H vs Q E hr h => ?_)
  · obtain ⟨z, a, xs, rfl, _⟩ := h
    rfl
  · obtain ⟨z, a, xs, rfl, hz, ha, rw0, q, qE⟩ := h
    refine ⟨_, (pss_cons (ps_expr (pe_call (ok_check_round T) hr (by rfl) T.g_check_round T.F_check_round.kp T.b_check_round .nil (passes_call (takes_of rfl rfl rfl rfl) (fun _ _ _ _ h => h)) (pa_cons (pe_callB call_lenU (by rfl) T.n_len (by decide +kernel) (pa_cons (pv 0) pa_nil)) (pa_cons (pv 1) pa_nil))))
        (pss_cons (ps_set (i := 2) sc_spliced.nd rfl (Or.inl rfl) (pe_lst pa_nil))
        (pss_cons (ps_set (i := 3) sc_spliced.nd rfl (Or.inl rfl) pe_int)
        (pss_cons (ps_for (passes_of rfl) rfl (pi_tup (pv 1)) (pg_tup rfl (pgs_cons (pg_name (i := 4) sc_spliced.nd rfl (Or.inl rfl)) (pgs_cons (pg_name (i := 5) sc_spliced.nd rfl (Or.inl rfl)) (pgs_cons (pg_name (i := 6) sc_spliced.nd rfl (Or.inl rfl)) pgs_nil)))) (pss_cons (ps_expr (pe_bm PySem.F.plainAttrs_list PySem.F.slot_list_append PySem.F.type_list_append mt_append (pv 2) (pa_cons (pe_slice sl_U (pv 0) (po_some (pv 3)) (po_some (pv 4))) pa_nil)))
        (pss_cons (ps_expr (pe_bm PySem.F.plainAttrs_list PySem.F.slot_list_append PySem.F.type_list_append mt_append (pv 2) (pa_cons (pv 6) pa_nil)))
        (pss_one (ps_set (i := 3) sc_spliced.nd rfl (Or.inl rfl) (pe_op op_addU (pv 4) (pv 5)))))))
        (pss_cons (ps_expr (pe_bm PySem.F.plainAttrs_list PySem.F.slot_list_append PySem.F.type_list_append mt_append (pv 2) (pa_cons (pe_slice sl_U (pv 0) (po_some (pv 3)) po_none) pa_nil)))
        (pss_one (ps_ret (pe_join pe_str (pv 2))))))))), ?_⟩
    walk_at "rd"
    refine r_lenS (small8 hz) ?_
    walk_at "rd"
    refine ⟨_, a, xs, rfl, ha, rw0, fun hj H1 e1 => ?_, fun k hk H1 d e h1 h2 => qE k hk H1 d e h1 h2⟩
    obtain ⟨rs, hrs, hrt⟩ := judge_rt hj
    have hlen : xs.length = rs.length := by
      have z := congrArg List.length hrs
      simpa [sps] using z
    walk_at "rd"
    refine r_small (by decide) fun m hm => ?_
    walk_at "rd"
    have n0 : H m = none := e1.free hm
    refine r_forTv rfl (SqT.up (Same.new e1 hm) (sqT ha)) (fun i σ H' => ∃ y1 y2 y3 d ps, σ = [some (.str z), some (.ref a), some (.ref m), some (.int d), y1, y2, y3] ∧ Ex H H' ∧ H' m = some (.lst (ps.map V.str)) ∧ Pts (cs z) rs ps i d)
      ⟨none, none, none, 0, [], rfl, Same.new e1 hm, upd_same, ⟨rfl, rfl, fun _ h => by simp at h, by omega⟩⟩ (fun i σ H' h => ?_) (fun i x σ H' hx hP => ?_) (fun σ H' hP => ?_)
    · obtain ⟨_, _, _, _, _, _, e, _⟩ := h
      exact SqT.up e (sqT ha)
    · obtain ⟨y1, y2, y3, d, ps, rfl, e, hpm, hP⟩ := hP
      obtain ⟨p, b, c, t, rfl, hr, hp, hb, hc⟩ := sps_at hrs hx
      have ht := put_len rw0 (List.mem_of_getElem? hx) hp
      have hps : ps.length < 5000 := by
        have h1 := (List.getElem?_eq_some_iff.mp hx).1
        have h2 := rw0.len
        have h3 := hP.len
        omega
      refine r_gtup (SqT.up e (sqT hp)) rfl ?_
      walk_at "rd"
      refine r_tyL (sqL hpm) ?_
      walk_at "rd"
      refine r_slS (small8 hz) ?_
      walk_at "rd"
      refine r_app hpm (by rw [List.length_map]; exact Nat.lt_trans hps (by decide)) ?_
      walk_at "rd"
      refine r_tyL (sqL upd_same) ?_
      walk_at "rd"
      refine r_app upd_same (by rw [List.length_append, List.length_map]; exact Nat.lt_trans (show ps.length + 1 < 6000 by omega) (by decide)) ?_
      walk_at "rd"
      have hN := hP.next hr hb hc (x := cutS z (some d) (some b)) (cs_cutI z hP.d0 hb) (Nat.le_trans (cut_len _ _ _) hz) ht
      refine ⟨_, _, _, b + c, ps ++ [cutS z (some d) (some b), t], rfl, Same.mut (Same.mut e n0) n0, ?_, hN⟩
      rw [upd_same]
      simp
    · obtain ⟨y1, y2, y3, d, ps, rfl, e, hpm, hP⟩ := hP
      have hps : ps.length < 5000 := by
        have h2 := rw0.len
        have h3 := hP.len
        omega
      walk_at "rd"
      refine r_tyL (sqL hpm) ?_
      walk_at "rd"
      refine r_slS (small8 hz) ?_
      walk_at "rd"
      refine r_app hpm (by rw [List.length_map]; exact Nat.lt_trans hps (by decide)) ?_
      walk_at "rd"
      have e' : ps.map V.str ++ [.str (cutS z (some d) none)] = (ps ++ [cutS z (some d) none]).map V.str := by simp
      rw [e']
      have hsum := sum_le (B := 8000) (ps := ps ++ [cutS z (some d) none]) fun y hy => by
        rcases List.mem_append.mp hy with h1 | h1
        · exact hP.each y h1
        · rw [List.mem_singleton.mp h1]
          exact Nat.le_trans (cut_len _ _ _) hz
      rw [hlen] at hP
      refine ⟨⟨_, rfl⟩, _, rfl, "", m, ps ++ [cutS z (some d) none], rfl, rfl, .inl (sqL upd_same), ?_, q rs hrs hj _ _ (Same.mut e n0) (hP.last (cs_fromI z hP.d0))⟩
      have h3 := hP.len
      have h4 := rw0.len
      rw [List.length_append] at hsum
      have h5 : ("" : Str).length = 0 := rfl
      rw [h5, Nat.mul_zero, Nat.add_zero]
      refine Nat.le_trans hsum ?_
      have h6 : ps.length + [cutS z (some d) none].length ≤ 2001 := by
        simp
        omega
      refine Nat.le_trans (Nat.mul_le_mul_right _ h6) (by decide)
end
end K15
namespace K15
open PySem PySem.Spec PyProof.Rows L2 Dk
/-- one step of a reading -/
local macro_rules | `(tactic| walk_at "rd1") => `(tactic| first
  | ((with_reducible refine r_var (v := ?rv) ?rh ?_); (case rh => rfl))
  | with_reducible refine r_c ?_
  | with_reducible refine r_seq ?_
  | with_reducible refine r_asg ?_
  | with_reducible refine r_par ?_
  | with_reducible refine r_gname ?_
  | with_reducible refine r_op ?_
  | with_reducible refine r_forLo ?_
  | with_reducible refine r_forTo ?_
  | with_reducible refine r_forSo ?_
  | with_reducible refine r_forRo ?_
  | with_reducible refine r_forRvo ?_
  | with_reducible refine r_forZo ?_
  | with_reducible refine r_revS ?_
  | with_reducible refine r_lcRo ?_
  | with_reducible refine r_lcLo ?_
  | with_reducible refine r_yes ?_
  | with_reducible refine r_callK0 ?_
  | with_reducible refine r_break ?_
  | with_reducible refine r_forR2o ?_
  | with_reducible refine r_forEo ?_
  | with_reducible refine r_forESo ?_
  | with_reducible refine r_xfo ?_
  | with_reducible refine r_noP ?_
  | with_reducible refine r_part ?_
  | with_reducible refine r_pI ?_
  | with_reducible refine r_gcons ?_
  | with_reducible refine r_gnil ?_
  | with_reducible refine r_mkO ?_
  | with_reducible refine r_un ?_
  | with_reducible refine r_addI ?_
  | with_reducible refine r_I0 ?_
  | with_reducible refine r_U ?_
  | with_reducible refine r_cons ?_
  | with_reducible refine r_nil ?_
  | with_reducible refine r_CB ?_
  | with_reducible refine r_call ?_
  | with_reducible refine r_callS ?_
  | with_reducible refine r_int ?_
  | with_reducible refine r_max ?_
  | with_reducible refine r_min ?_
  | with_reducible refine r_test ?_
  | with_reducible refine r_B ?_
  | with_reducible refine r_blv ?_
  | with_reducible refine r_and ?_
  | with_reducible refine r_or ?_
  | with_reducible refine r_not ?_
  | with_reducible refine r_andV ?_
  | with_reducible refine r_orV ?_
  | with_reducible refine r_notV ?_
  | with_reducible refine r_ifE ?_
  | with_reducible refine r_ifS ?_
  | with_reducible refine r_ret ?_
  | with_reducible refine r_retN ?_
  | with_reducible refine r_drop ?_
  | with_reducible refine r_next ?_
  | with_reducible refine r_sl ?_
  | with_reducible refine r_gsub ?_
  | with_reducible refine r_bm ?_
  | with_reducible refine r_tup ?_
  | with_reducible refine r_lst ?_
  | with_reducible refine r_isN ?_
  | with_reducible refine r_notN ?_
  | with_reducible refine r_itt ?_
  | with_reducible refine r_iff ?_
  | with_reducible refine r_ittN ?_
  | with_reducible refine r_iffN ?_
  | ((with_reducible refine r_ittD ?rh ?_); (case rh => rfl))
  | ((with_reducible refine r_iffD ?rh ?_); (case rh => rfl))
  | ((with_reducible refine r_modP ?rh ?_); (case rh => decide))
  | ((with_reducible refine r_eq ?rh ?_); (case rh => rfl))
  | ((with_reducible refine r_eqP ?rh ?_); (case rh => rfl))
  | ((with_reducible refine r_ne ?rh ?_); (case rh => rfl)))
local macro_rules | `(tactic| walk_at "rd") => `(tactic| repeat walk_at "rd1")
local macro_rules | `(tactic| walk_at "isi") => `(tactic| first | refine r_isi (b := true) (by assumption) (by decide +kernel) ?_ | refine r_isi (b := false) (by assumption) (by decide +kernel) ?_)
local macro_rules | `(tactic| walk_at "rs1") => `(tactic| first
  | with_reducible refine r_seq ?_
  | with_reducible refine r_asg ?_
  | with_reducible refine r_gname ?_
  | with_reducible refine r_ret ?_)
local macro_rules | `(tactic| walk_at "rs") => `(tactic| repeat walk_at "rs1")

/-! ### splices as data -/
abbrev Spc := Nat × Nat × Str
def SpcV (H : Hp) (v : V) (x : Spc) : Prop := ∃ q, v = .ref q ∧ H q = some (.tup [.int (x.1 : Nat), .int (x.2.1 : Nat), .str x.2.2])
instance : Imm SpcV := ⟨fun t h => h.imp fun p z => ⟨z.1, t _ _ z.2⟩⟩
def tri (x : Spc) : Mv.S3 := (x.1, x.2.1, x.2.2.length)
structure Gsp (x : Spc) : Prop where
  ne : 0 < x.2.1 ∨ x.2.2 ≠ ""
  tl : x.2.2.length ≤ 3
  tA : InAL x.2.2
structure Rnd (n m : Nat) (l : List Spc) : Prop where
  ne : l ≠ []
  len : l.length ≤ m
  rt : Mv.Rt n 0 (l.map tri)
  good : ∀ x ∈ l, Gsp x
theorem rt_snoc {n b c k : Nat} : ∀ {l : List Mv.S3} {lo : Nat}, Mv.Rt n lo l → (∀ s, l.getLast? = some s → s.1 + 1 ≤ b ∧ s.1 + s.2.1 ≤ b) → (l = [] → lo ≤ b) → b + c ≤ n → Mv.Rt n lo (l ++ [(b, c, k)])
  | [], lo, _, _, h0, hn => ⟨h0 rfl, hn, trivial⟩
  | (a, d, e) :: r, lo, h, hl, _, hn => by
    refine ⟨h.1, h.2.1, rt_snoc h.2.2 (fun s hs => hl s ?_) (fun hr => ?_) hn⟩
    · rw [List.getLast?_cons, hs]
      rfl
    · subst hr
      have := hl (a, d, e) rfl
      dsimp only at this
      omega
theorem stt_tk {a : Addr} {H H' : Hp} (s : Stt H a) (d : Dr a H H') : Tk H H' := fun p xs e => by
  obtain ⟨z, h, _⟩ := s
  exact d.hh p _ (fun q => by rw [q, h] at e; cases e) e
section
variable {P : Program} {w : World} {K : PySem.W.Frag} {mg : Str → Option Value} {base : Heap}
/-! ### the law's draws -/
theorem ok_law_start (T : Txt K mg) : FnOk P w K mg base CX0 1 T.a_law_start T.d_law_start ["_law_script"] (spStart K) := by
  refine T.F_law_start.ok sc_law_start (fun vs H Q E h => ?_) (fun cdv A outer s H vs Q E hr h => ?_)
  · obtain ⟨a, ns, rfl, _⟩ := h
    rfl
  · obtain ⟨a, ns, rfl, hS, q⟩ := h
    refine ⟨_, (pss_cons (ps_set (i := 1) sc_law_start.nd rfl (Or.inl rfl) pe_int)
        (pss_cons (ps_for PassesOwn.never rfl (pi_list (pv 0)) (pg_name (i := 2) sc_law_start.nd rfl (Or.inl rfl)) (pss_one (ps_set (i := 1) sc_law_start.nd rfl (Or.inl rfl) (pe_op op_modP (pe_op op_addU (pe_op op_addU (pe_op op_mulWW (pv 1) pe_int) (pe_op op_modP (pe_callTy call_intU (by rfl) T.n_int (by decide +kernel) (pa_cons (pv 2) pa_nil)) pe_int)) pe_int) pe_int))))
        (pss_one (ps_ret (pe_lst (pa_cons (pv 1) pa_nil)))))), ?_⟩
    walk_at "rd"
    refine l_L hS (fun i σ H' => ∃ z y, σ = [some (.ref a), some (.int z), y] ∧ 0 ≤ z ∧ z < M61 ∧ H' = H) ⟨_, none, rfl, by decide, by decide, rfl⟩ (fun i σ H' h => ?_) (fun i x σ H' hx hP => ?_) (fun σ H' hP => ?_)
    · obtain ⟨_, _, _, _, _, rfl⟩ := h
      exact hS
    · obtain ⟨z, y, rfl, h0, h1, rfl⟩ := hP
      obtain ⟨c, hc, rfl⟩ : ∃ c, ns[i]? = some c ∧ x = V.int c := by
        rw [List.getElem?_map] at hx
        cases e : ns[i]? with
        | none => rw [e] at hx; cases hx
        | some c => rw [e] at hx; exact ⟨c, rfl, (Option.some.inj hx).symm⟩
      walk_at "rd"
      refine r_mulW (wide_mul (a := 61) (b := 33) (nat61 h0 h1) (by decide) (by decide) (by decide) (by decide)) ?_
      walk_at "rd"
      exact ⟨_, _, rfl, (mix_next (z := z) _).1, (mix_next (z := z) _).2, rfl⟩
    · obtain ⟨z, y, rfl, h0, h1, rfl⟩ := hP
      walk_at "rd"
      exact r_small (Nat.le_of_ble_eq_true rfl) fun p hp => q p _ (Same.new (Same.refl _) hp) hp ⟨z, upd_same, h0, h1⟩
theorem ok_law_draw (T : Txt K mg) : FnOk P w K mg base CX0 1 T.a_law_draw T.d_law_draw ["_law_state", "_law_many"] spDraw := by
  refine T.F_law_draw.ok sc_law_draw (fun vs H Q E h => ?_) (fun cdv A outer s H vs Q E hr h => ?_)
  · obtain ⟨a, n, rfl, _⟩ := h
    rfl
  · obtain ⟨a, n, rfl, ⟨z, hz, z0, z1⟩, hn, q⟩ := h
    refine ⟨_, (pss_cons (ps_asg (pe_op op_modP (pe_op op_addU (pe_op op_mulWW (pe_callTy call_intU (by rfl) T.n_int (by decide +kernel) (pa_cons (pe_ix ix_seq (pv 0) pe_int (fun _ _ => rfl)) pa_nil)) pe_int) pe_int) pe_int) (pg_sub (pv 0) pe_int set_list))
        (pss_one (ps_ret (pe_op op_modP (pe_op op_divW (pe_callTy call_intU (by rfl) T.n_int (by decide +kernel) (pa_cons (pe_ix ix_seq (pv 0) pe_int (fun _ _ => rfl)) pa_nil)) pe_int) (pv 1))))), ?_⟩
    walk_at "rd"
    refine r_ixL (sqL hz) (atI_nat (j := 0) rfl) ?_
    walk_at "rd"
    refine r_mulW (wide_mul (a := 61) (b := 41) (nat61 z0 z1) (by decide) (by decide) (by decide) (by decide)) ?_
    walk_at "rd"
    refine r_setL hz (n := 0) rfl ?_
    walk_at "rd"
    refine r_ixL (sqL upd_same) (atI_nat (j := 0) rfl) ?_
    walk_at "rd"
    refine r_divW (wide_div (b := 18) (by decide) (by decide) (by decide) (by decide)) ?_
    walk_at "rd"
    refine r_modP hn ?_
    exact q _ _ (Int.emod_nonneg _ (by omega)) (Int.emod_lt_of_pos _ hn) (Dr.set (mix_next (z := z) _).1 (mix_next (z := z) _).2)
theorem len1 (c : Nat) : (⟨#[c]⟩ : Str).length = 1 := rfl
theorem z_at {z : Str} (hA : InAL z) {i : Int} (h0 : 0 ≤ i) (h : i < (z.length : Int)) : ∃ c, atI z.cps.toList i = some c ∧ c ∈ cs AL := by
  have hi : i.toNat < (cs z).length := by rw [cs_len]; omega
  exact ⟨(cs z)[i.toNat], at_g (by omega) (List.getElem?_eq_getElem hi), hA _ (List.getElem_mem _)⟩
def spWord : Sp := fun vs H Q _ => ∃ (a : Addr) (z : Str) (n : Int), vs = [.ref a, .str z, .int n] ∧ Stt H a ∧ 0 < z.length ∧ z.length ≤ 10 ∧ InAL z ∧ 0 ≤ n ∧ n ≤ 8000 ∧ ∀ o H', Dr a H H' → (o.length : Int) = n → InAL o → Q (.str o) H'
theorem join_len {ps : List Str} (h : ∀ y ∈ ps, y.length = 1) : (Txt.join "" ps).length = ps.length := by
  rw [← cs_len, cs_join, List.length_flatten, List.map_map, ← sum_ones ps]
  congr 1
  exact List.map_congr_left fun y hy => by
    show (cs y).length = 1
    rw [cs_len]
    exact h y hy
theorem sum_len {ps : List Str} (h : ∀ y ∈ ps, y.length = 1) : (ps.map (·.length)).sum = ps.length := by
  rw [← sum_ones ps, List.map_congr_left h]
theorem join_al {ps : List Str} (h : ∀ y ∈ ps, InAL y) : InAL (Txt.join "" ps) := fun c hc => by
  rw [cs_join, List.mem_flatten] at hc
  obtain ⟨l, hl, hcl⟩ := hc
  obtain ⟨y, hy, rfl⟩ := List.mem_map.mp hl
  exact h y hy c hcl
theorem ok_law_word (T : Txt K mg) : FnOk P w K mg base CX0 2 T.a_law_word T.d_law_word ["_law_state", "_law_signs_here", "_law_size"] spWord := by
  refine T.F_law_word.ok sc_law_word (fun vs H Q E h => ?_) (fun cdv A outer s H vs Q E hr h => ?_)
  · obtain ⟨a, z, n, rfl, _⟩ := h
    rfl
  · obtain ⟨a, z, n, rfl, hs, z0, z1, zA, n0, n1, q⟩ := h
    have zl : z.length ≤ sizeLine := by rw [sizeLine_eq]; omega
    refine ⟨_, (pss_one (ps_ret (pe_join pe_str (pe_lc (own := [("_law_k", 3)]) (g := gName 3) rfl sc_law_word.nd (pi_range1 (by rfl) T.n_range (pa_cons (pv 2) pa_nil)) (blkOk_by (N := N_law_word) (sc := defScope s_law_word) (by decide +kernel)) (fun _ _ _ _ _ => pg_name (i := 3) sc_law_word.nd rfl (Or.inl rfl)) (fun _ _ _ _ _ => pts_nil) (fun _ _ _ _ _ => (pe_ix (k_ix (K := K) rfl) (pv 1) (pe_call (ok_law_draw T) hr (by rfl) T.g_law_draw T.F_law_draw.kp T.b_law_draw .nil pass0 (pa_cons (pv 0) (pa_cons (pe_callB (k_len (K := K) rfl) (by rfl) T.n_len (by decide +kernel) (pa_cons (pv 1) pa_nil)) pa_nil))) (fun _ _ => rfl))))))), ?_⟩
    walk_at "rd"
    refine ⟨⟨_, rfl⟩, ?_⟩
    walk_at "rd"
    refine l_lcR (by omega) (by omega) (fun f i H' => ∃ ps : List Str, Dr a H H' ∧ H' f = some (.lst (ps.map V.str)) ∧ ps.length = i ∧ (∀ y ∈ ps, y.length = 1) ∧ ∀ y ∈ ps, InAL y) (fun f hf => ⟨[], (Dr.refl hs).new hf, upd_same, rfl, by simp, by simp⟩) (fun f i H' hf hi hP => ?_) (fun f H' hf hP => ?_)
    · obtain ⟨ps, D, gf, hl, h1, hA⟩ := hP
      have hfa : f ≠ a := hs.ne hf
      walk_at "rd"
      refine ⟨rfl, ?_⟩
      walk_at "rd"
      refine r_lenS zl ?_
      walk_at "rd"
      refine ⟨a, (z.length : Nat), rfl, D.st, by omega, fun d H2 d0 d1 D2 => ?_⟩
      walk_at "rd"
      obtain ⟨c, hc, hcA⟩ := z_at zA d0 d1
      refine r_ixS zl hc ?_
      refine ⟨ps.map V.str, D2.hh _ _ hfa gf, by rw [List.length_map]; exact Nat.lt_of_le_of_lt (show ps.length ≤ 8000 by omega) (by decide), ps ++ [⟨#[c]⟩], (D.trans D2).mut hf hfa, by rw [upd_same, List.map_append]; rfl, by rw [List.length_append, hl]; rfl, fun y hy => ?_, fun y hy => ?_⟩
      · rcases List.mem_append.mp hy with h | h
        · exact h1 y h
        · rw [List.mem_singleton.mp h]; rfl
      · rcases List.mem_append.mp hy with h | h
        · exact hA y h
        · rw [List.mem_singleton.mp h]
          intro e he
          have z : e = c := by simpa [cs] using he
          rw [z]
          exact hcA
    · obtain ⟨ps, D, gf, hl, h1, hA⟩ := hP
      refine ⟨"", f, ps, rfl, rfl, .inl (sqL gf), ?_, q _ H' D ?_ (join_al hA)⟩
      · rw [sum_len h1]
        have e0 : ("" : Str).length = 0 := rfl
        rw [e0]
        omega
      · rw [join_len h1, hl]
        omega
def spRound : Sp := fun vs H Q _ => ∃ (a : Addr) (sg : Str) (n m : Nat), vs = [.ref a, .str sg, .int (n : Nat), .int (m : Nat)] ∧ Stt H a ∧ 0 < sg.length ∧ sg.length ≤ 10 ∧ InAL sg ∧ n ≤ 4000 ∧ 1 ≤ m ∧ m ≤ 200 ∧
  ∀ p H' xs l, Dr a H H' → H p = none → H' p = some (.lst xs) → P2 (SpcV H') xs l → Rnd n m l → Q (.ref p) H'
theorem ok_law_round (T : Txt K mg) : FnOk P w K mg base CX0 3 T.a_law_round T.d_law_round ["_law_state", "_law_signs_here", "_law_size", "_law_most"] spRound := by
  refine T.F_law_round.ok sc_law_round (fun vs H Q E h => ?_) (fun cdv A outer s H vs Q E hr h => ?_)
  · obtain ⟨a, sg, n, m, rfl, _⟩ := h
    rfl
  · obtain ⟨a, sg, n, mo, rfl, st, sg0, sg1, sgA, n1, m0, m1, q⟩ := h
    refine ⟨_, (pss_cons (ps_set (i := 4) sc_law_round.nd rfl (Or.inl rfl) (pe_lst pa_nil))
        (pss_cons (ps_set (i := 5) sc_law_round.nd rfl (Or.inl rfl) (pe_call (ok_law_draw T) (hr.mono (by decide)) (by rfl) T.g_law_draw T.F_law_draw.kp T.b_law_draw .nil pass0 (pa_cons (pv 0) (pa_cons (pe_callB (call_minU rfl) (by rfl) T.n_min (by decide +kernel) (pa_cons pe_int (pa_cons (pe_op op_addU (pv 2) pe_int) pa_nil))) pa_nil))))
        (pss_cons (ps_while PassesOwn.never (PW.pt (pw_and (pt_cmpR op_le (pv 5) (pv 2) (nomark _)) (pw_and1 (pt_cmpR op_lt (pe_callB call_lenU (by rfl) T.n_len (by decide +kernel) (pa_cons (pv 4) pa_nil)) (pv 3) (nomark _))))) (pss_cons (ps_set (i := 6) sc_law_round.nd rfl (Or.inl rfl) (pe_callB (call_minU rfl) (by rfl) T.n_min (by decide +kernel) (pa_cons (pe_call (ok_law_draw T) (hr.mono (by decide)) (by rfl) T.g_law_draw T.F_law_draw.kp T.b_law_draw .nil pass0 (pa_cons (pv 0) (pa_cons pe_int pa_nil))) (pa_cons (pe_op op_sub (pv 2) (pv 5)) pa_nil))))
        (pss_cons (ps_set (i := 7) sc_law_round.nd rfl (Or.inl rfl) (pe_call (ok_law_word T) hr (by rfl) T.g_law_word T.F_law_word.kp T.b_law_word .nil pass0 (pa_cons (pv 0) (pa_cons (pv 1) (pa_cons (pe_call (ok_law_draw T) (hr.mono (by decide)) (by rfl) T.g_law_draw T.F_law_draw.kp T.b_law_draw .nil pass0 (pa_cons (pv 0) (pa_cons pe_int pa_nil))) pa_nil)))))
        (Evl.pss_cut (ps_if (PW.pt (pw_and (pt_cmpR (op_eqU hr.units) (pv 6) pe_int (nomark _)) (pw_and1 (pt_cmpR (op_eqU hr.units) (pv 7) pe_str (nomark _))))) (pss_one (ps_set (i := 7) sc_law_round.nd rfl (Or.inl rfl) (pe_ix ix_seq (pv 1) pe_int (fun _ _ => rfl)))) pss_nil)
        (pss_cons (ps_expr (pe_bm PySem.F.plainAttrs_list PySem.F.slot_list_append PySem.F.type_list_append mt_append (pv 4) (pa_cons (pe_tup (pa_cons (pv 5) (pa_cons (pv 6) (pa_cons (pv 7) pa_nil)))) pa_nil)))
        (pss_one (ps_set (i := 5) sc_law_round.nd rfl (Or.inl rfl) (pe_callB (call_maxU rfl) (by rfl) T.n_max (by decide +kernel) (pa_cons (pe_op op_addU (pv 5) pe_int) (pa_cons (pe_op op_addU (pe_op op_addU (pv 5) (pv 6)) (pe_callB (call_maxU rfl) (by rfl) T.n_max (by decide +kernel) (pa_cons pe_int (pa_cons (pe_op op_sub (pe_call (ok_law_draw T) (hr.mono (by decide)) (by rfl) T.g_law_draw T.F_law_draw.kp T.b_law_draw .nil pass0 (pa_cons (pv 0) (pa_cons pe_int pa_nil))) pe_int) pa_nil)))) pa_nil))))))))))
        (pss_one (ps_ret (pv 4)))))), ?_⟩
    walk_at "rd"
    refine r_small nsz fun p hp => ?_
    have hpa : p ≠ a := st.ne hp
    have D0 := (Dr.refl st).new (o := .lst []) hp
    walk_at "rd"
    refine ⟨a, min 3 (n + 1), rfl, D0.st, by omega, fun b H1 b0 b1 D1 => ?_⟩
    obtain ⟨b, rfl⟩ : ∃ z : Nat, b = (z : Nat) := ⟨b.toNat, by omega⟩
    walk_at "rd"
    refine ⟨fun m σ H' => ∃ (y1 y2 : Option V) (b : Nat) (xs : List V) (l : List Spc), σ = [some (.ref a), some (.str sg), some (.int (n : Nat)), some (.int (mo : Nat)), some (.ref p), some (.int (b : Nat)), y1, y2] ∧ Dr a H H' ∧ H' p = some (.lst xs) ∧ P2 (SpcV H') xs l ∧ Mv.Rt n 0 (l.map tri) ∧
      (∀ s, (l.map tri).getLast? = some s → s.1 + 1 ≤ b ∧ s.1 + s.2.1 ≤ b) ∧ (∀ x ∈ l, Gsp x) ∧ (l = [] → b ≤ n) ∧ m = n + 1 - b ∧ l.length ≤ mo, ⟨_, none, none, b, [], [], rfl, D0.trans D1, D1.hh _ _ hpa upd_same, .nil, trivial, fun s hs => by simp at hs, fun x hx => by simp at hx, fun _ => by omega, rfl, by simp⟩, fun m σ H' hW => ?_⟩
    obtain ⟨y1, y2, b, xs, l, rfl, D, hpx, hP, rt, hl, good, hb, rfl, ll⟩ := hW
    have fin : l ≠ [] → Q (.ref p) H' := fun hne => q p H' xs l D hp hpx hP ⟨hne, ll, rt, good⟩
    have hlen := hP.len
    walk_at "rd"
    refine r_ite (fun h1 => ?_) (fun h1 => ?_)
    · walk_at "rd"
      refine r_lenL (sqL hpx) ?_
      walk_at "rd"
      refine r_ite (fun h2 => ?_) (fun h2 => ?_)
      · refine ⟨_, fun _ _ h => h, ?_⟩
        walk_at "rd"
        refine ⟨a, 4, rfl, D.st, by decide, fun d1 H2 d0 d4 D2 => ?_⟩
        obtain ⟨d1, rfl⟩ : ∃ z : Nat, d1 = (z : Nat) := ⟨d1.toNat, by omega⟩
        walk_at "rd"
        have ec : min (d1 : Int) ((n : Int) - b) = ((min d1 (n - b) : Nat) : Int) := by omega
        rw [ec]
        refine ⟨a, 4, rfl, D2.st, by decide, fun d2 H3 e0 e4 D3 => ?_⟩
        walk_at "rd"
        refine ⟨a, sg, d2, rfl, D3.st, sg0, sg1, sgA, by omega, by omega, fun o H4 D4 ho hA => ?_⟩
        have D24 := (D2.trans D3).trans D4
        have t4 := stt_tk D.st D24
        walk_at "rd"
        refine ⟨fun σ H' => ∃ u : Str, σ = [some (.ref a), some (.str sg), some (.int (n : Nat)), some (.int (mo : Nat)), some (.ref p), some (.int (b : Nat)), some (.int ((min d1 (n - b) : Nat) : Int)), some (.str u)] ∧ H4 = H' ∧ u.length ≤ 3 ∧ InAL u ∧ (0 < min d1 (n - b) ∨ u ≠ ""), ?_, ?_⟩
        · walk_at "rd"
          refine r_ite (fun hc => ?_) (fun hc => ?_)
          · walk_at "rd"
            refine r_ite (fun hu => ?_) (fun hu => ?_)
            · obtain ⟨c, hc, hcA⟩ := z_at sgA (i := 0) (by decide) (by omega)
              walk_at "rd"
              refine r_ixS (by rw [sizeLine_eq]; omega) hc ?_
              walk_at "rd"
              refine ⟨_, rfl, rfl, by rw [len1]; decide, fun e he => ?_, .inr fun z => ?_⟩
              · have q : e = c := by simpa [cs] using he
                rw [q]
                exact hcA
              · have q := congrArg Str.length z
                rw [len1] at q
                exact absurd q (by decide)
            · walk_at "rd"
              exact ⟨o, rfl, rfl, by omega, hA, .inr fun z => hu (by rw [z])⟩
          · walk_at "rd"
            exact ⟨o, rfl, rfl, by omega, hA, .inl (Nat.pos_of_ne_zero fun z => hc (by rw [z]; rfl))⟩
        rintro σ _ ⟨u, rfl, rfl, ul, uA, hne⟩
        have hp4 := D24.hh _ _ hpa hpx
        walk_at "rd"
        refine r_tyL (sqL hp4) ?_
        walk_at "rd"
        refine r_small nsz fun q2 hq => ?_
        have t5 := t4.trans (Tk.new (o := .tup [.int (b : Nat), .int ((min d1 (n - b) : Nat) : Int), .str u]) hq)
        have hp5 : (upd H4 q2 (.tup [.int (b : Nat), .int ((min d1 (n - b) : Nat) : Int), .str u])) p = some (.lst xs) := by
          rw [upd_ne (ne_of_none hp4 hq)]
          exact hp4
        have D5 := (D.trans D24).new (o := .tup [.int (b : Nat), .int ((min d1 (n - b) : Nat) : Int), .str u]) hq
        walk_at "rd"
        refine r_app hp5 (Nat.lt_of_le_of_lt (show xs.length ≤ 300 by omega) (by decide)) ?_
        walk_at "rd"
        have t6 := t5.trans (Tk.put (o := .lst (xs ++ [.ref q2])) hp5)
        have D6 := D5.mut (o := .lst (xs ++ [.ref q2])) hp hpa
        refine ⟨a, 4, rfl, D6.st, by decide, fun d5 H6 f0 f4 D7 => ?_⟩
        obtain ⟨d5, rfl⟩ : ∃ z : Nat, d5 = (z : Nat) := ⟨d5.toNat, by omega⟩
        walk_at "rd"
        have t7 := t6.trans (stt_tk D6.st D7)
        have eb : max ((b : Int) + 1) ((b : Int) + ((min d1 (n - b) : Nat) : Int) + max 0 ((d5 : Int) - 1)) = ((max (b + 1) (b + min d1 (n - b) + (d5 - 1)) : Nat) : Int) := by omega
        rw [eb]
        refine ⟨n + 1 - max (b + 1) (b + min d1 (n - b) + (d5 - 1)), by omega, _, _, _, xs ++ [.ref q2], l ++ [(b, min d1 (n - b), u)], rfl, D6.trans D7, D7.hh _ _ hpa upd_same, (p2_imm t7 hP).snoc ⟨q2, rfl, D7.hh _ _ ?_ ?_⟩, ?_, ?_, ?_, fun z => by simp at z, rfl, by rw [List.length_append]; simp; omega⟩
        · exact (D.trans D24).st.ne hq
        · rw [upd_ne (ne_of_none hp4 hq).symm, upd_same]
        · rw [List.map_append]
          exact rt_snoc rt hl (fun _ => Nat.zero_le _) (by show b + min d1 (n - b) ≤ n; omega)
        · intro s hs
          rw [List.map_append, List.map_singleton, List.getLast?_concat] at hs
          rw [← Option.some.inj hs]
          show b + 1 ≤ _ ∧ b + min d1 (n - b) ≤ _
          omega
        · intro x hx
          rcases List.mem_append.mp hx with h | h
          · exact good x h
          · rw [List.mem_singleton.mp h]
            exact ⟨hne, ul, uA⟩
      · walk_at "rd"
        exact fin fun z => h2 (by rw [hlen, z]; simp; omega)
    · walk_at "rd"
      exact fin fun z => h1 (by have := hb z; omega)
def spSigns2 : Sp := fun vs H Q _ => ∃ a, vs = [.ref a] ∧ Stt H a ∧ ∀ z H', Dr a H H' → 0 < z.length → z.length ≤ 10 → InAL z → Q (.str z) H'
theorem inAL_app {x y : Str} (h : InAL x) (g : InAL y) : InAL (x ++ y) := fun c hc => by
  rw [cs_app] at hc
  rcases List.mem_append.mp hc with z | z
  · exact h c z
  · exact g c z
theorem app_len (x y : Str) : (x ++ y).length = x.length + y.length := by rw [← cs_len, cs_app, List.length_append, cs_len, cs_len]
theorem ok_law_signs (T : Txt K mg) : FnOk P w K mg base CX0 2 T.a_law_signs T.d_law_signs ["_law_state"] spSigns2 := by
  refine T.F_law_signs.ok sc_law_signs (fun vs H Q E h => ?_) (fun cdv A outer s H vs Q E hr h => ?_)
  · obtain ⟨a, rfl, _⟩ := h
    rfl
  · obtain ⟨a, rfl, st, q⟩ := h
    refine ⟨_, (pss_cons (ps_set (i := 1) sc_law_signs.nd rfl (Or.inl rfl) pe_str)
        (pss_cons (ps_set (i := 2) sc_law_signs.nd rfl (Or.inl rfl) (pe_ix ix_seq (pv 1) (pe_call (ok_law_draw T) hr (by rfl) T.g_law_draw T.F_law_draw.kp T.b_law_draw .nil pass0 (pa_cons (pv 0) (pa_cons pe_int pa_nil))) (fun _ _ => rfl)))
        (pss_cons (ps_set (i := 3) sc_law_signs.nd rfl (Or.inl rfl) (pe_ix ix_seq (pv 1) (pe_call (ok_law_draw T) hr (by rfl) T.g_law_draw T.F_law_draw.kp T.b_law_draw .nil pass0 (pa_cons (pv 0) (pa_cons pe_int pa_nil))) (fun _ _ => rfl)))
        (pss_cons (ps_set (i := 4) sc_law_signs.nd rfl (Or.inl rfl) (pe_lst (pa_cons (pe_op op_addU (pv 2) pe_str) (pa_cons (pe_op op_addU (pv 2) (pv 3)) (pa_cons (pe_op op_addU (pe_op op_addU (pv 2) (pv 3)) pe_str) (pa_cons pe_str (pa_cons (pe_op op_addU (pe_op op_addU (pv 2) pe_str) (pv 3)) pa_nil)))))))
        (pss_one (ps_ret (pe_ix ix_seq (pv 4) (pe_call (ok_law_draw T) hr (by rfl) T.g_law_draw T.F_law_draw.kp T.b_law_draw .nil pass0 (pa_cons (pv 0) (pa_cons pe_int pa_nil))) (fun _ _ => rfl)))))))), ?_⟩
    have al : InAL AL := fun c h => h
    have asl : AL.length ≤ sizeLine := by rw [AL_len]; decide
    walk_at "rd"
    refine ⟨a, 95, rfl, st, by decide, fun d H1 d0 d1 D1 => ?_⟩
    walk_at "rd"
    obtain ⟨c, hc, hcA⟩ := z_at al (i := d) d0 (by rw [AL_len]; exact d1)
    refine r_ixS (z := AL) asl hc ?_
    walk_at "rd"
    refine ⟨a, 95, rfl, D1.st, by decide, fun d2 H2 e0 e1 D2 => ?_⟩
    walk_at "rd"
    obtain ⟨c2, hc2, hcA2⟩ := z_at al (i := d2) e0 (by rw [AL_len]; exact e1)
    refine r_ixS (z := AL) asl hc2 ?_
    have one : ∀ {c}, c ∈ cs AL → InAL ⟨#[c]⟩ := fun {c} h e he => by
      have q : e = c := by simpa [cs] using he
      rw [q]
      exact h
    have sm : ∀ {n : Nat}, n ≤ 100 → n ≤ sizeLine := fun h => by rw [sizeLine_eq]; omega
    have l1 := len1
    have lf : ("\n" : Str).length = 1 := rfl
    have la : ("a" : Str).length = 1 := rfl
    have fA : InAL "\n" := by unfold InAL; decide +kernel
    have aA : InAL "a" := by unfold InAL; decide +kernel
    have D12 := D1.trans D2
    walk_at "rd"
    refine r_addS (sm (by rw [l1, lf]; decide)) ?_
    walk_at "rd"
    refine r_addS (sm (by rw [l1, l1]; decide)) ?_
    walk_at "rd"
    refine r_addS (sm (by rw [l1, l1]; decide)) ?_
    walk_at "rd"
    refine r_addS (sm (by rw [app_len, l1, l1, lf]; decide)) ?_
    walk_at "rd"
    refine r_addS (sm (by rw [l1, la]; decide)) ?_
    walk_at "rd"
    refine r_addS (sm (by rw [app_len, l1, l1, la]; decide)) ?_
    walk_at "rd"
    refine r_small nsz fun p hp => ?_
    obtain ⟨vs, hvs⟩ : ∃ vs : List V, vs = [.str (⟨#[c]⟩ ++ "\n"), .str (⟨#[c]⟩ ++ ⟨#[c2]⟩), .str (⟨#[c]⟩ ++ ⟨#[c2]⟩ ++ "\n"), .str "aab", .str (⟨#[c]⟩ ++ "a" ++ ⟨#[c2]⟩)] := ⟨_, rfl⟩
    rw [← hvs]
    obtain ⟨H3, k3, e3, h3⟩ := nL (.lst vs) hp
    rw [← k3]
    walk_at "rd"
    refine ⟨a, 5, rfl, D12.st.up e3, by decide, fun j H4 j0 j1 D4 => ?_⟩
    have D14 := (D12.then e3).trans D4
    have h4 := D4.hh _ _ (D12.st.ne hp) h3
    obtain ⟨z, hz, z0, z1, zA⟩ : ∃ z, atI vs j = some (.str z) ∧ 0 < z.length ∧ z.length ≤ 10 ∧ InAL z := by
      rw [hvs]
      have c5 : j = 0 ∨ j = 1 ∨ j = 2 ∨ j = 3 ∨ j = 4 := by omega
      rcases c5 with rfl | rfl | rfl | rfl | rfl
      · exact ⟨_, rfl, by rw [app_len, l1, lf]; decide, by rw [app_len, l1, lf]; decide, inAL_app (one hcA) fA⟩
      · exact ⟨_, rfl, by rw [app_len, l1, l1]; decide, by rw [app_len, l1, l1]; decide, inAL_app (one hcA) (one hcA2)⟩
      · exact ⟨_, rfl, by rw [app_len, app_len, l1, l1, lf]; decide, by rw [app_len, app_len, l1, l1, lf]; decide, inAL_app (inAL_app (one hcA) (one hcA2)) fA⟩
      · exact ⟨_, rfl, by decide, by decide, by unfold InAL; decide +kernel⟩
      · exact ⟨_, rfl, by rw [app_len, app_len, l1, l1, la]; decide, by rw [app_len, app_len, l1, l1, la]; decide, inAL_app (inAL_app (one hcA) aA) (one hcA2)⟩
    walk_at "rd"
    refine r_ixL (sqL h4) hz ?_
    exact q z H4 D14 z0 z1 zA
end
end K15
namespace K15
open PySem PySem.Spec PyProof.Rows L2 Dk
/-- one step of a reading -/
local macro_rules | `(tactic| walk_at "rd1") => `(tactic| first
  | ((with_reducible refine r_var (v := ?rv) ?rh ?_); (case rh => rfl))
  | with_reducible refine r_c ?_
  | with_reducible refine r_seq ?_
  | with_reducible refine r_asg ?_
  | with_reducible refine r_par ?_
  | with_reducible refine r_gname ?_
  | with_reducible refine r_op ?_
  | with_reducible refine r_forLo ?_
  | with_reducible refine r_forTo ?_
  | with_reducible refine r_forSo ?_
  | with_reducible refine r_forRo ?_
  | with_reducible refine r_forRvo ?_
  | with_reducible refine r_forZo ?_
  | with_reducible refine r_revS ?_
  | with_reducible refine r_lcRo ?_
  | with_reducible refine r_lcLo ?_
  | with_reducible refine r_yes ?_
  | with_reducible refine r_callK0 ?_
  | with_reducible refine r_break ?_
  | with_reducible refine r_forR2o ?_
  | with_reducible refine r_forEo ?_
  | with_reducible refine r_forESo ?_
  | with_reducible refine r_xfo ?_
  | with_reducible refine r_noP ?_
  | with_reducible refine r_part ?_
  | with_reducible refine r_pI ?_
  | with_reducible refine r_gcons ?_
  | with_reducible refine r_gnil ?_
  | with_reducible refine r_mkO ?_
  | with_reducible refine r_un ?_
  | with_reducible refine r_addI ?_
  | with_reducible refine r_I0 ?_
  | with_reducible refine r_U ?_
  | with_reducible refine r_cons ?_
  | with_reducible refine r_nil ?_
  | with_reducible refine r_CB ?_
  | with_reducible refine r_call ?_
  | with_reducible refine r_callS ?_
  | with_reducible refine r_int ?_
  | with_reducible refine r_max ?_
  | with_reducible refine r_min ?_
  | with_reducible refine r_test ?_
  | with_reducible refine r_B ?_
  | with_reducible refine r_blv ?_
  | with_reducible refine r_and ?_
  | with_reducible refine r_or ?_
  | with_reducible refine r_not ?_
  | with_reducible refine r_andV ?_
  | with_reducible refine r_orV ?_
  | with_reducible refine r_notV ?_
  | with_reducible refine r_ifE ?_
  | with_reducible refine r_ifS ?_
  | with_reducible refine r_ret ?_
  | with_reducible refine r_retN ?_
  | with_reducible refine r_drop ?_
  | with_reducible refine r_next ?_
  | with_reducible refine r_sl ?_
  | with_reducible refine r_gsub ?_
  | with_reducible refine r_bm ?_
  | with_reducible refine r_tup ?_
  | with_reducible refine r_lst ?_
  | with_reducible refine r_isN ?_
  | with_reducible refine r_notN ?_
  | with_reducible refine r_itt ?_
  | with_reducible refine r_iff ?_
  | with_reducible refine r_ittN ?_
  | with_reducible refine r_iffN ?_
  | ((with_reducible refine r_ittD ?rh ?_); (case rh => rfl))
  | ((with_reducible refine r_iffD ?rh ?_); (case rh => rfl))
  | ((with_reducible refine r_modP ?rh ?_); (case rh => decide))
  | ((with_reducible refine r_eq ?rh ?_); (case rh => rfl))
  | ((with_reducible refine r_eqP ?rh ?_); (case rh => rfl))
  | ((with_reducible refine r_ne ?rh ?_); (case rh => rfl)))
local macro_rules | `(tactic| walk_at "rd") => `(tactic| repeat walk_at "rd1")
local macro_rules | `(tactic| walk_at "isi") => `(tactic| first | refine r_isi (b := true) (by assumption) (by decide +kernel) ?_ | refine r_isi (b := false) (by assumption) (by decide +kernel) ?_)
local macro_rules | `(tactic| walk_at "rs1") => `(tactic| first
  | with_reducible refine r_seq ?_
  | with_reducible refine r_asg ?_
  | with_reducible refine r_gname ?_
  | with_reducible refine r_ret ?_)
local macro_rules | `(tactic| walk_at "rs") => `(tactic| repeat walk_at "rs1")

theorem lcp_step : ∀ (i : Nat) (a b : List Nat) (c d : Nat), a[i]? = some c → b[i]? = some d → i ≤ Ml.lcp a b → (i + 1 ≤ Ml.lcp a b ↔ c = d)
  | 0, x :: xs, y :: ys, c, d, h1, h2, _ => by
    have e1 : x = c := Option.some.inj h1
    have e2 : y = d := Option.some.inj h2
    subst e1 e2
    show 1 ≤ (if x = y then Ml.lcp xs ys + 1 else 0) ↔ x = y
    by_cases h : x = y
    · rw [if_pos h]
      exact ⟨fun _ => h, fun _ => by omega⟩
    · rw [if_neg h]
      exact ⟨fun z => by omega, fun z => absurd z h⟩
  | i + 1, x :: xs, y :: ys, c, d, h1, h2, h => by
    have h' : i + 1 ≤ (if x = y then Ml.lcp xs ys + 1 else 0) := h
    by_cases e : x = y
    · rw [if_pos e] at h'
      have ih := lcp_step i xs ys c d (by simpa using h1) (by simpa using h2) (by omega)
      show i + 1 + 1 ≤ (if x = y then Ml.lcp xs ys + 1 else 0) ↔ c = d
      rw [if_pos e, ← ih]
      omega
    · rw [if_neg e] at h'
      omega
  | _, [], _, _, _, h1, _, _ => by simp at h1
  | _, _ :: _, [], _, _, _, h2, _ => by simp at h2
theorem r_aug {i : Nat} {te : TE} {ti : TIp} {D : Ends} {σ : L2.St} {H : Hp} {x : V} (hx : σ[i]? = some (some x)) (h : te σ H fun y H1 => ti x y H1 fun z H2 => D.nx (σ.set i (some z)) H2) : tAug i te ti D σ H := ⟨x, hx, h⟩
theorem r_ip {f : Int → Int → Int} {i j : Int} {H : Hp} {Q : VK} (q : Q (.int (f i j)) H) : ipI f (.int i) (.int j) H Q := ⟨i, j, rfl, rfl, q⟩
theorem lcp_len (x y : Str) : Ml.lcp (cs x) (cs y) ≤ x.length ∧ Ml.lcp (cs x) (cs y) ≤ y.length := by
  have h := Ml.lcp_le (cs x) (cs y)
  rw [cs_len, cs_len] at h
  exact h
section
variable {P : Program} {w : World} {K : PySem.W.Frag} {mg : Str → Option Value} {base : Heap}
def spCb : Sp := fun vs H Q _ => ∃ x y : Str, vs = [.str x, .str y] ∧ x.length ≤ 8000 ∧ y.length ≤ 8000 ∧ ∀ H', Ex H H' → Q (.int (Ml.lcp (cs x) (cs y) : Nat)) H'
theorem ok_common_begin (T : Txt K mg) : FnOk P w K mg base CX0 1 T.a_common_begin T.d_common_begin ["one", "other"] spCb := by
  refine T.F_common_begin.ok sc_common_begin (fun vs H Q E h => ?_) (fun cdv A outer s H vs Q E hr h => ?_)
  · obtain ⟨x, y, rfl, _⟩ := h
    rfl
  · obtain ⟨x, y, rfl, hx, hy, q⟩ := h
    refine ⟨_, (pss_cons (ps_set (i := 2) sc_common_begin.nd rfl (Or.inl rfl) pe_int)
        (pss_cons (ps_for PassesOwn.never rfl (Zp.pi_zipK (by rfl) T.n_zip (pa_cons (pv 0) (pa_cons (pv 1) pa_nil))) (pg_tup rfl (pgs_cons (pg_name (i := 3) sc_common_begin.nd rfl (Or.inl rfl)) (pgs_cons (pg_name (i := 4) sc_common_begin.nd rfl (Or.inl rfl)) pgs_nil))) (pss_cons (ps_if (pt_cmpR (op_neU hr.units) (pv 3) (pv 4) (nomark _)) (pss_one (ps_ret (pv 2))) pss_nil)
        (pss_one (ps_aug (i := 2) sc_common_begin.nd rfl (Or.inl rfl) pe_int ip_add))))
        (pss_one (ps_ret (pv 2))))), ?_⟩
    have ll := lcp_len x y
    walk_at "rd"
    refine l_ZS (fun i σ H' => ∃ y3 y4, σ = [some (.str x), some (.str y), some (.int (i : Nat)), y3, y4] ∧ Ex H H' ∧ i ≤ Ml.lcp (cs x) (cs y)) ⟨none, none, rfl, Same.refl H, Nat.zero_le _⟩ (fun i c d σ H' p hc hd hW hp => ?_) (fun σ H' hW => ?_)
    · obtain ⟨y3, y4, rfl, e, hi⟩ := hW
      refine r_gtup (sqT upd_same) rfl ?_
      have st := lcp_step i (cs x) (cs y) c d hc hd hi
      have e' := Same.new (o := .tup [.str ⟨#[c]⟩, .str ⟨#[d]⟩]) e hp
      walk_at "rd"
      refine r_iteN (fun h => ?_) (fun h => ?_)
      · walk_at "rd"
        have ne : ¬ i + 1 ≤ Ml.lcp (cs x) (cs y) := fun z => h (by rw [st.mp z])
        have ei : i = Ml.lcp (cs x) (cs y) := by omega
        rw [ei]
        exact q _ e'
      · walk_at "rd"
        have ecd : c = d := by
          have z := congrArg cs (V.str.inj h)
          simpa [cs] using z
        refine r_aug rfl ?_
        walk_at "rd"
        refine r_ip ?_
        exact ⟨_, _, rfl, e', st.mpr ecd⟩
    · obtain ⟨y3, y4, rfl, e, hi⟩ := hW
      walk_at "rd"
      have ei : min x.length y.length = Ml.lcp (cs x) (cs y) := by omega
      rw [ei]
      exact q _ e
/-- the least splice -/
def lsp (x y : Str) : Spc := (Ml.lcp (cs x) (cs y), x.length - Ml.lcp (cs x) (cs y) - Ml.lce (Ml.lcp (cs x) (cs y)) (cs x) (cs y),
  ⟨(((cs y).drop (Ml.lcp (cs x) (cs y))).take (y.length - Ml.lcp (cs x) (cs y) - Ml.lce (Ml.lcp (cs x) (cs y)) (cs x) (cs y))).toArray⟩)
def lso (x y : Str) : Option Spc := if x = y then none else some (lsp x y)
def OptS (H : Hp) (v : V) : Option Spc → Prop
  | none => v = .non
  | some z => SpcV H v z
theorem lce_len (x y : Str) : Ml.lce (Ml.lcp (cs x) (cs y)) (cs x) (cs y) ≤ x.length - Ml.lcp (cs x) (cs y) ∧ Ml.lce (Ml.lcp (cs x) (cs y)) (cs x) (cs y) ≤ y.length - Ml.lcp (cs x) (cs y) := by
  have l := Ml.lcp_le (cs x) (cs y)
  have h := Ml.lce_eq l.1 l.2
  rw [cs_len, cs_len] at h
  omega
theorem lsp_str {x y o : Str} (h : cs o = ((cs y).drop (Ml.lcp (cs x) (cs y))).take (y.length - Ml.lcp (cs x) (cs y) - Ml.lce (Ml.lcp (cs x) (cs y)) (cs x) (cs y))) : o = (lsp x y).2.2 := cs_ext (by rw [h]; exact List.toList_toArray.symm)
def spLeast : Sp := fun vs H Q _ => ∃ x y : Str, vs = [.str x, .str y] ∧ x.length ≤ 8000 ∧ y.length ≤ 8000 ∧ ∀ v H', Ex H H' → OptS H' v (lso x y) → Q v H'
theorem ok_least_splice (T : Txt K mg) : FnOk P w K mg base CX0 2 T.a_least_splice T.d_least_splice ["before", "after"] spLeast := by
  refine T.F_least_splice.ok sc_least_splice (fun vs H Q E h => ?_) (fun cdv A outer s H vs Q E hr h => ?_)
  · obtain ⟨x, y, rfl, _⟩ := h
    rfl
  · obtain ⟨x, y, rfl, hx, hy, q⟩ := h
    refine ⟨_, (pss_cons (ps_if (pt_cmpR (op_eqU hr.units) (pv 0) (pv 1) (nomark _)) (pss_one (ps_ret pe_non)) pss_nil)
        (pss_cons (ps_set (i := 2) sc_least_splice.nd rfl (Or.inl rfl) (pe_call (ok_common_begin T) hr (by rfl) T.g_common_begin T.F_common_begin.kp T.b_common_begin .nil pass0 (pa_cons (pv 0) (pa_cons (pv 1) pa_nil))))
        (pss_cons (ps_set (i := 3) sc_least_splice.nd rfl (Or.inl rfl) (pe_slice sl_U (pv 0) (po_some (pv 2)) po_none))
        (pss_cons (ps_set (i := 4) sc_least_splice.nd rfl (Or.inl rfl) (pe_slice sl_U (pv 1) (po_some (pv 2)) po_none))
        (pss_cons (ps_set (i := 5) sc_least_splice.nd rfl (Or.inl rfl) (pe_call (ok_common_begin T) hr (by rfl) T.g_common_begin T.F_common_begin.kp T.b_common_begin .nil pass0 (pa_cons (pe_revS (pv 3) (pe_un un_neg pe_int) (fun _ _ _ q => ⟨1, rfl, q⟩)) (pa_cons (pe_revS (pv 4) (pe_un un_neg pe_int) (fun _ _ _ q => ⟨1, rfl, q⟩)) pa_nil))))
        (pss_one (ps_ret (pe_tup (pa_cons (pv 2) (pa_cons (pe_op op_sub (pe_callB call_lenU (by rfl) T.n_len (by decide +kernel) (pa_cons (pv 3) pa_nil)) (pv 5)) (pa_cons (pe_slice sl_U (pv 4) po_none (po_some (pe_op op_sub (pe_callB call_lenU (by rfl) T.n_len (by decide +kernel) (pa_cons (pv 4) pa_nil)) (pv 5)))) pa_nil))))))))))), ?_⟩
    have ll := lcp_len x y
    have le := lce_len x y
    unfold lso at q
    walk_at "rd"
    refine r_ite (fun h => ?_) (fun h => ?_)
    · walk_at "rd"
      rw [if_pos (V.str.inj h)] at q
      exact q _ H (Same.refl H) rfl
    · rw [if_neg fun z => h (by rw [z])] at q
      walk_at "rd"
      refine ⟨x, y, rfl, hx, hy, fun H1 e1 => ?_⟩
      obtain ⟨p, hp⟩ : ∃ p, p = Ml.lcp (cs x) (cs y) := ⟨_, rfl⟩
      rw [← hp] at le ll ⊢
      walk_at "rd"
      refine r_slS (small8 hx) ?_
      walk_at "rd"
      refine r_slS (small8 hy) ?_
      walk_at "rd"
      have lo := Nat.le_trans (cut_len x (some (p : Int)) none) hx
      have ln := Nat.le_trans (cut_len y (some (p : Int)) none) hy
      have eo := cs_from x p
      have en := cs_from y p
      refine ⟨_, rfl, small8 lo, ?_⟩
      walk_at "rd"
      refine ⟨_, rfl, small8 ln, ?_⟩
      walk_at "rd"
      refine ⟨_, _, rfl, by rw [rev_len]; exact lo, by rw [rev_len]; exact ln, fun H2 e2 => ?_⟩
      have ee : Ml.lcp (cs (revS (cutS x (some (p : Int)) none))) (cs (revS (cutS y (some (p : Int)) none))) = Ml.lce p (cs x) (cs y) := by
        rw [cs_rev, cs_rev, eo, en]
        rfl
      rw [ee]
      have el : (cutS x (some (p : Int)) none).length = x.length - p := by rw [← cs_len, eo, List.length_drop, cs_len]
      have fl : (cutS y (some (p : Int)) none).length = y.length - p := by rw [← cs_len, en, List.length_drop, cs_len]
      obtain ⟨e, he⟩ : ∃ e, e = Ml.lce p (cs x) (cs y) := ⟨_, rfl⟩
      rw [← he] at le ⊢
      walk_at "rd"
      refine r_lenS (small8 lo) ?_
      walk_at "rd"
      refine r_lenS (small8 ln) ?_
      walk_at "rd"
      refine r_slS (small8 ln) ?_
      walk_at "rd"
      refine r_small nsz fun pt nt => ?_
      rw [el, fl, show ((x.length - p : Nat) : Int) - (e : Int) = ((x.length - p - e : Nat) : Int) by omega, show ((y.length - p : Nat) : Int) - (e : Int) = ((y.length - p - e : Nat) : Int) by omega]
      obtain ⟨H3, k3, e3, h3⟩ := nL (.tup [.int (p : Nat), .int ((x.length - p - e : Nat) : Int), .str (cutS (cutS y (some (p : Int)) none) none (some ((y.length - p - e : Nat) : Int)))]) nt
      rw [← k3]
      refine q _ H3 ((e1.trans e2).trans e3) ⟨pt, rfl, ?_⟩
      have es := lsp_str (x := x) (y := y) (o := cutS (cutS y (some (p : Int)) none) none (some ((y.length - p - e : Nat) : Int))) (by rw [cs_to, en, ← hp, ← he])
      rw [h3, es]
      unfold lsp
      rw [← hp, ← he]
def spReach : Sp := fun vs H Q _ => ∃ x y : Str, vs = [.str x, .str y] ∧ x.length ≤ 8000 ∧ y.length ≤ 8000 ∧ ∀ H', Ex H H' → Q (.int (Ml.lcp (cs x) (cs y) : Nat)) H'
theorem ok_law_reach (T : Txt K mg) : FnOk P w K mg base CX0 1 T.a_law_reach T.d_law_reach ["_law_before", "_law_after"] spReach := by
  refine T.F_law_reach.ok sc_law_reach (fun vs H Q E h => ?_) (fun cdv A outer s H vs Q E hr h => ?_)
  · obtain ⟨x, y, rfl, _⟩ := h
    rfl
  · obtain ⟨x, y, rfl, hx, hy, q⟩ := h
    refine ⟨_, (pss_cons (ps_set (i := 2) sc_law_reach.nd rfl (Or.inl rfl) pe_int)
        (pss_cons (ps_set (i := 3) sc_law_reach.nd rfl (Or.inl rfl) (pe_callB (call_minU rfl) (by rfl) T.n_min (by decide +kernel) (pa_cons (pe_callB call_lenU (by rfl) T.n_len (by decide +kernel) (pa_cons (pv 0) pa_nil)) (pa_cons (pe_callB call_lenU (by rfl) T.n_len (by decide +kernel) (pa_cons (pv 1) pa_nil)) pa_nil))))
        (pss_cons (ps_while PassesOwn.never (pt_cmpR op_lt (pv 2) (pv 3) (nomark _)) (pss_cons (ps_set (i := 4) sc_law_reach.nd rfl (Or.inl rfl) (pe_op op_divW (pe_op op_addU (pe_op op_addU (pv 2) (pv 3)) pe_int) pe_int))
        (pss_one (ps_if (pt_cmpR (op_eqU hr.units) (pe_slice sl_U (pv 0) po_none (po_some (pv 4))) (pe_slice sl_U (pv 1) po_none (po_some (pv 4))) (nomark _)) (pss_one (ps_set (i := 2) sc_law_reach.nd rfl (Or.inl rfl) (pv 4))) (pss_one (ps_set (i := 3) sc_law_reach.nd rfl (Or.inl rfl) (pe_op op_sub (pv 4) pe_int)))))))
        (pss_one (ps_ret (pv 2)))))), ?_⟩
    have ll := lcp_len x y
    walk_at "rd"
    refine r_lenS (small8 hx) ?_
    walk_at "rd"
    refine r_lenS (small8 hy) ?_
    walk_at "rd"
    rw [show min ((x.length : Nat) : Int) ((y.length : Nat) : Int) = ((min x.length y.length : Nat) : Int) by omega]
    refine ⟨fun m σ H' => ∃ (lo hi : Nat) (y4 : Option V), σ = [some (.str x), some (.str y), some (.int (lo : Nat)), some (.int (hi : Nat)), y4] ∧ H' = H ∧ m = hi - lo ∧ lo ≤ Ml.lcp (cs x) (cs y) ∧ Ml.lcp (cs x) (cs y) ≤ hi ∧ hi ≤ x.length ∧ hi ≤ y.length, ⟨_, 0, _, none, rfl, rfl, rfl, by omega, by omega, by omega, by omega⟩, fun m σ H' hW => ?_⟩
    obtain ⟨lo, hi, y4, rfl, rfl, rfl, h1, h2, h3, h4⟩ := hW
    walk_at "rd"
    refine r_ite (fun hlt => ?_) (fun hge => ?_)
    · refine ⟨fun σ H2 => ∃ (lo' hi' : Nat) (y4 : Option V), σ = [some (.str x), some (.str y), some (.int (lo' : Nat)), some (.int (hi' : Nat)), y4] ∧ H2 = H' ∧ hi' - lo' < hi - lo ∧ lo' ≤ Ml.lcp (cs x) (cs y) ∧ Ml.lcp (cs x) (cs y) ≤ hi' ∧ hi' ≤ x.length ∧ hi' ≤ y.length, fun σ' H2 ⟨lo', hi', z4, g1, g2, g3, g4, g5, g6, g7⟩ => ⟨_, g3, lo', hi', z4, g1, g2, rfl, g4, g5, g6, g7⟩, ?_⟩
      walk_at "rd"
      refine r_divW (wide_div (b := 2) (by decide) (by decide) (by decide) (by decide)) ?_
      walk_at "rd"
      obtain ⟨m, hm⟩ : ∃ m : Nat, m = (lo + hi + 1) / 2 := ⟨_, rfl⟩
      rw [show ((lo : Int) + (hi : Int) + 1) / 2 = ((m : Nat) : Int) by omega]
      refine r_slS (small8 hx) ?_
      walk_at "rd"
      refine r_slS (small8 hy) ?_
      walk_at "rd"
      have key := Ml.lcp_iff m (cs x) (cs y) (by rw [cs_len]; omega) (by rw [cs_len]; omega)
      refine r_ite (fun h => ?_) (fun h => ?_)
      · have z := congrArg cs (V.str.inj h)
        rw [cs_to, cs_to] at z
        have z' := key.mp z
        walk_at "rd"
        exact ⟨m, hi, _, rfl, rfl, by omega, by omega, h2, h3, h4⟩
      · have z' : ¬ m ≤ Ml.lcp (cs x) (cs y) := fun z => h (congrArg V.str (cs_ext (by rw [cs_to, cs_to]; exact key.mpr z)))
        walk_at "rd"
        rw [show ((m : Nat) : Int) - 1 = ((m - 1 : Nat) : Int) by omega]
        exact ⟨lo, m - 1, _, rfl, rfl, by omega, h1, by omega, by omega, by omega⟩
    · walk_at "rd"
      have ei : lo = Ml.lcp (cs x) (cs y) := by omega
      rw [ei]
      exact q _ (Same.refl H')
theorem min3 (a b c : Int) : nuMin3 (.int a) (.int b) (.int c) = some (.int (min (min a b) c)) := by
  have h2 : ∀ x y : Int, nuMin2 (.int x) (.int y) = some (.int (min x y)) := fun x y => by
    show some (if decide (y < x) = true then V.int y else V.int x) = _
    by_cases h : y < x
    · rw [decide_eq_true h, if_pos rfl, Int.min_eq_right (by omega)]
    · rw [decide_eq_false h, if_neg Bool.false_ne_true, Int.min_eq_left (by omega)]
  show (nuMin2 (.int a) (.int b)).bind (fun m => nuMin2 m (.int c)) = _
  rw [h2]
  exact h2 _ _
theorem ok_law_least_long (T : Txt K mg) : FnOk P w K mg base CX0 2 T.a_law_least_long T.d_law_least_long ["_law_before", "_law_after"] spLeast := by
  refine T.F_law_least_long.ok sc_law_least_long (fun vs H Q E h => ?_) (fun cdv A outer s H vs Q E hr h => ?_)
  · obtain ⟨x, y, rfl, _⟩ := h
    rfl
  · obtain ⟨x, y, rfl, hx, hy, q⟩ := h
    refine ⟨_, (pss_cons (ps_if (pt_cmpR (op_eqU hr.units) (pv 0) (pv 1) (nomark _)) (pss_one (ps_ret pe_non)) pss_nil)
        (pss_cons (ps_set (i := 2) sc_law_least_long.nd rfl (Or.inl rfl) (pe_call (ok_law_reach T) hr (by rfl) T.g_law_reach T.F_law_reach.kp T.b_law_reach .nil pass0 (pa_cons (pv 0) (pa_cons (pv 1) pa_nil))))
        (pss_cons (ps_set (i := 3) sc_law_least_long.nd rfl (Or.inl rfl) (pe_callB (call_min3Nu rfl) (by rfl) T.n_min (by decide +kernel) (pa_cons (pe_call (ok_law_reach T) hr (by rfl) T.g_law_reach T.F_law_reach.kp T.b_law_reach .nil pass0 (pa_cons (pe_revS (pv 0) (pe_un un_neg pe_int) (fun _ _ _ q => ⟨1, rfl, q⟩)) (pa_cons (pe_revS (pv 1) (pe_un un_neg pe_int) (fun _ _ _ q => ⟨1, rfl, q⟩)) pa_nil))) (pa_cons (pe_op op_sub (pe_callB call_lenU (by rfl) T.n_len (by decide +kernel) (pa_cons (pv 0) pa_nil)) (pv 2)) (pa_cons (pe_op op_sub (pe_callB call_lenU (by rfl) T.n_len (by decide +kernel) (pa_cons (pv 1) pa_nil)) (pv 2)) pa_nil)))))
        (pss_one (ps_ret (pe_tup (pa_cons (pv 2) (pa_cons (pe_op op_sub (pe_op op_sub (pe_callB call_lenU (by rfl) T.n_len (by decide +kernel) (pa_cons (pv 0) pa_nil)) (pv 2)) (pv 3)) (pa_cons (pe_slice sl_U (pv 1) (po_some (pv 2)) (po_some (pe_op op_sub (pe_callB call_lenU (by rfl) T.n_len (by decide +kernel) (pa_cons (pv 1) pa_nil)) (pv 3)))) pa_nil))))))))), ?_⟩
    have ll := lcp_len x y
    have le := lce_len x y
    have lz := Ml.lce_eq (Ml.lcp_le (cs x) (cs y)).1 (Ml.lcp_le (cs x) (cs y)).2
    rw [cs_len, cs_len] at lz
    unfold lso at q
    walk_at "rd"
    refine r_ite (fun h => ?_) (fun h => ?_)
    · walk_at "rd"
      rw [if_pos (V.str.inj h)] at q
      exact q _ H (Same.refl H) rfl
    · rw [if_neg fun z => h (by rw [z])] at q
      walk_at "rd"
      refine ⟨x, y, rfl, hx, hy, fun H1 e1 => ?_⟩
      obtain ⟨p, hp⟩ : ∃ p, p = Ml.lcp (cs x) (cs y) := ⟨_, rfl⟩
      rw [← hp] at le ll lz ⊢
      walk_at "rd"
      refine ⟨_, rfl, small8 hx, ?_⟩
      walk_at "rd"
      refine ⟨_, rfl, small8 hy, ?_⟩
      walk_at "rd"
      refine ⟨_, _, rfl, by rw [rev_len]; exact hx, by rw [rev_len]; exact hy, fun H2 e2 => ?_⟩
      rw [cs_rev, cs_rev]
      walk_at "rd"
      refine r_lenS (small8 hx) ?_
      walk_at "rd"
      refine r_lenS (small8 hy) ?_
      walk_at "rd"
      obtain ⟨e, he⟩ : ∃ e, e = Ml.lce p (cs x) (cs y) := ⟨_, rfl⟩
      rw [← he] at le lz
      refine ⟨_, _, _, _, rfl, min3 _ _ _, ?_⟩
      rw [show min (min ((Ml.lcp (cs x).reverse (cs y).reverse : Nat) : Int) ((x.length : Nat) - (p : Int))) ((y.length : Nat) - (p : Int)) = ((e : Nat) : Int) by omega]
      walk_at "rd"
      refine r_lenS (small8 hx) ?_
      walk_at "rd"
      refine r_lenS (small8 hy) ?_
      walk_at "rd"
      refine r_slS (small8 hy) ?_
      walk_at "rd"
      refine r_small nsz fun pt nt => ?_
      rw [show ((x.length : Nat) : Int) - (p : Int) - (e : Int) = ((x.length - p - e : Nat) : Int) by omega, show ((y.length : Nat) : Int) - (e : Int) = ((y.length - e : Nat) : Int) by omega]
      obtain ⟨H3, k3, e3, h3⟩ := nL (.tup [.int (p : Nat), .int ((x.length - p - e : Nat) : Int), .str (cutS y (some (p : Int)) (some ((y.length - e : Nat) : Int)))]) nt
      rw [← k3]
      refine q _ H3 ((e1.trans e2).trans e3) ⟨pt, rfl, ?_⟩
      have es := lsp_str (x := x) (y := y) (o := cutS y (some (p : Int)) (some ((y.length - e : Nat) : Int))) (by rw [cs_cut, ← hp, ← he]; congr 1; omega)
      rw [h3, es]
      unfold lsp
      rw [← hp, ← he]
end
end K15
namespace K15
open PySem PySem.Spec PyProof.Rows L2 Dk
/-- one step of a reading -/
local macro_rules | `(tactic| walk_at "rd1") => `(tactic| first
  | ((with_reducible refine r_var (v := ?rv) ?rh ?_); (case rh => rfl))
  | with_reducible refine r_c ?_
  | with_reducible refine r_seq ?_
  | with_reducible refine r_asg ?_
  | with_reducible refine r_par ?_
  | with_reducible refine r_gname ?_
  | with_reducible refine r_op ?_
  | with_reducible refine r_forLo ?_
  | with_reducible refine r_forTo ?_
  | with_reducible refine r_forSo ?_
  | with_reducible refine r_forRo ?_
  | with_reducible refine r_forRvo ?_
  | with_reducible refine r_forZo ?_
  | with_reducible refine r_revS ?_
  | with_reducible refine r_lcRo ?_
  | with_reducible refine r_lcLo ?_
  | with_reducible refine r_yes ?_
  | with_reducible refine r_callK0 ?_
  | with_reducible refine r_break ?_
  | with_reducible refine r_forR2o ?_
  | with_reducible refine r_forEo ?_
  | with_reducible refine r_forESo ?_
  | with_reducible refine r_xfo ?_
  | with_reducible refine r_noP ?_
  | with_reducible refine r_part ?_
  | with_reducible refine r_pI ?_
  | with_reducible refine r_gcons ?_
  | with_reducible refine r_gnil ?_
  | with_reducible refine r_mkO ?_
  | with_reducible refine r_un ?_
  | with_reducible refine r_addI ?_
  | with_reducible refine r_I0 ?_
  | with_reducible refine r_U ?_
  | with_reducible refine r_cons ?_
  | with_reducible refine r_nil ?_
  | with_reducible refine r_CB ?_
  | with_reducible refine r_call ?_
  | with_reducible refine r_callS ?_
  | with_reducible refine r_int ?_
  | with_reducible refine r_max ?_
  | with_reducible refine r_min ?_
  | with_reducible refine r_test ?_
  | with_reducible refine r_B ?_
  | with_reducible refine r_blv ?_
  | with_reducible refine r_and ?_
  | with_reducible refine r_or ?_
  | with_reducible refine r_not ?_
  | with_reducible refine r_andV ?_
  | with_reducible refine r_orV ?_
  | with_reducible refine r_notV ?_
  | with_reducible refine r_ifE ?_
  | with_reducible refine r_ifS ?_
  | with_reducible refine r_ret ?_
  | with_reducible refine r_retN ?_
  | with_reducible refine r_drop ?_
  | with_reducible refine r_next ?_
  | with_reducible refine r_sl ?_
  | with_reducible refine r_gsub ?_
  | with_reducible refine r_bm ?_
  | with_reducible refine r_tup ?_
  | with_reducible refine r_lst ?_
  | with_reducible refine r_isN ?_
  | with_reducible refine r_notN ?_
  | with_reducible refine r_itt ?_
  | with_reducible refine r_iff ?_
  | with_reducible refine r_ittN ?_
  | with_reducible refine r_iffN ?_
  | ((with_reducible refine r_ittD ?rh ?_); (case rh => rfl))
  | ((with_reducible refine r_iffD ?rh ?_); (case rh => rfl))
  | ((with_reducible refine r_modP ?rh ?_); (case rh => decide))
  | ((with_reducible refine r_eq ?rh ?_); (case rh => rfl))
  | ((with_reducible refine r_eqP ?rh ?_); (case rh => rfl))
  | ((with_reducible refine r_ne ?rh ?_); (case rh => rfl)))
local macro_rules | `(tactic| walk_at "rd") => `(tactic| repeat walk_at "rd1")
local macro_rules | `(tactic| walk_at "isi") => `(tactic| first | refine r_isi (b := true) (by assumption) (by decide +kernel) ?_ | refine r_isi (b := false) (by assumption) (by decide +kernel) ?_)
local macro_rules | `(tactic| walk_at "rs1") => `(tactic| first
  | with_reducible refine r_seq ?_
  | with_reducible refine r_asg ?_
  | with_reducible refine r_gname ?_
  | with_reducible refine r_ret ?_)
local macro_rules | `(tactic| walk_at "rs") => `(tactic| repeat walk_at "rs1")

def spl (l : List Nat) (a c : Nat) (t : List Nat) : List Nat := l.take a ++ t ++ l.drop (a + c)
theorem spl_len {l t : List Nat} {a c : Nat} (h : a + c ≤ l.length) : (spl l a c t).length = l.length - c + t.length := by
  unfold spl
  rw [List.length_append, List.length_append, List.length_take, List.length_drop]
  omega

/-- a single splice that leads from b to a -/
structure Good (b a : List Nat) (at_ cut many : Nat) : Prop where
  h1 : at_ + cut ≤ b.length
  hm : many + b.length = a.length + cut
  one : Ml.one b a at_ cut many = a
def q4 (at_ cut many : Nat) : Q4 := (((cut : Nat) : Int) + ((many : Nat) : Int), 0 - ((at_ : Nat) : Int), (cut : Nat), (many : Nat))
theorem least_good (b a : List Nat) : Good b a (Ml.lcp b a) (b.length - Ml.lcp b a - Ml.lce (Ml.lcp b a) b a) (a.length - Ml.lcp b a - Ml.lce (Ml.lcp b a) b a) := by
  have lp := Ml.lcp_le b a
  have e := Ml.lce_eq lp.1 lp.2
  exact ⟨by omega, by omega, Ml.least_one⟩
section
variable {P : Program} {w : World} {K : PySem.W.Frag} {mg : Str → Option Value} {base : Heap}
theorem one_spl {H : Hp} {v : V} {x : Spc} (h : SpcV H v x) (g : 0 < x.2.1 ∨ x.2.2 ≠ "") (hA : InAL x.2.2) (hl : x.2.2.length ≤ 8000) {n : Nat} (hn : x.1 + x.2.1 ≤ n) :
    Rw H [v] ∧ sps H [v] = [((x.1 : Int), (x.2.1 : Int), x.2.2)].map some ∧ judge n (sps H [v]) = none := by
  obtain ⟨p, rfl, hp⟩ := h
  have hsp : sp3 H (.ref p) = some ((x.1 : Int), (x.2.1 : Int), x.2.2) := by
    show sp3o (H p) = _
    rw [hp]
    exact if_pos ⟨by omega, by omega, List.all_eq_true.mpr fun c hc => decide_eq_true (hA c hc), g.imp (fun h => by omega) id⟩
  have e : sps H [V.ref p] = [((x.1 : Int), (x.2.1 : Int), x.2.2)].map some := by
    show [sp3 H (.ref p)] = _
    rw [hsp]
    rfl
  refine ⟨⟨nsz, fun y hy => ?_⟩, e, ?_⟩
  · rw [List.mem_singleton.mp hy]
    refine ⟨⟨_, .tup hp⟩, fun a xs ea ht => ?_⟩
    cases ea
    rw [hp] at ht
    cases ht
    refine ⟨nsz, fun y hy => ?_⟩
    rcases List.mem_cons.mp hy with rfl | hy
    · exact ⟨_, .int _⟩
    rcases List.mem_cons.mp hy with rfl | hy
    · exact ⟨_, .int _⟩
    rw [List.mem_singleton.mp hy]
    exact ⟨_, .str _ hl⟩
  · rw [e]
    show (if _ then _ else _) = none
    rw [if_neg (by simp)]
    show (if _ then _ else jd _ _ _ _ []) = none
    rw [if_neg (by omega)]
    rfl
theorem led_one {l : List Nat} {a c : Nat} {t : Str} : ledC l 0 [((a : Int), (c : Int), t)] = spl l a c (cs t) := by
  show (l.drop (0 : Int).toNat).take ((a : Int).toNat - (0 : Int).toNat) ++ (cs t ++ l.drop ((a : Int) + (c : Int)).toNat) = _
  unfold spl
  rw [List.append_assoc]
  have e1 : ((a : Int) + (c : Int)).toNat = a + c := by omega
  rw [e1]
  simp
/-- the singles so far -/
structure Sng (b a : List Nat) (l : List Q4) (i c : Nat) : Prop where
  sound : ∀ z ∈ l, ∃ at_ cut many, Good b a at_ cut many ∧ z = q4 at_ cut many
  full : ∀ at_ cut many, Good b a at_ cut many → at_ < i ∨ (at_ = i ∧ cut < c) → q4 at_ cut many ∈ l
def spSingles : Sp := fun vs H Q _ => ∃ b a : Str, vs = [.str b, .str a] ∧ b.length ≤ 20 ∧ a.length ≤ 20 ∧
  ∀ p H' xs l, Ex H H' → H' p = some (.lst xs) → P2 (Q4V H') xs l → (∀ z ∈ l, ∃ at_ cut many, Good (cs b) (cs a) at_ cut many ∧ z = q4 at_ cut many) → (∀ at_ cut many, Good (cs b) (cs a) at_ cut many → q4 at_ cut many ∈ l) → Q (.ref p) H'
theorem ok_law_singles (T : Txt K mg) : FnOk P w K mg base CX0 1 T.a_law_singles T.d_law_singles ["_law_before", "_law_after"] spSingles := by
  refine T.F_law_singles.ok sc_law_singles (fun vs H Q E h => ?_) (fun cdv A outer s H vs Q E hr h => ?_)
  · obtain ⟨b, a, rfl, _⟩ := h
    rfl
  · obtain ⟨b, a, rfl, hb, ha, q⟩ := h
    refine ⟨_, (pss_cons (ps_set (i := 2) sc_law_singles.nd rfl (Or.inl rfl) (pe_lst pa_nil))
        (pss_cons (ps_for PassesOwn.never rfl (pi_range1 (by rfl) T.n_range (pa_cons (pe_op op_addU (pe_callB call_lenU (by rfl) T.n_len (by decide +kernel) (pa_cons (pv 0) pa_nil)) pe_int) pa_nil)) (pg_name (i := 3) sc_law_singles.nd rfl (Or.inl rfl)) (pss_one (ps_for PassesOwn.never rfl (pi_range1 (by rfl) T.n_range (pa_cons (pe_op op_addU (pe_op op_sub (pe_callB call_lenU (by rfl) T.n_len (by decide +kernel) (pa_cons (pv 0) pa_nil)) (pv 3)) pe_int) pa_nil)) (pg_name (i := 4) sc_law_singles.nd rfl (Or.inl rfl)) (pss_cons (ps_set (i := 5) sc_law_singles.nd rfl (Or.inl rfl) (pe_op op_addU (pe_op op_sub (pe_callB call_lenU (by rfl) T.n_len (by decide +kernel) (pa_cons (pv 1) pa_nil)) (pe_callB call_lenU (by rfl) T.n_len (by decide +kernel) (pa_cons (pv 0) pa_nil))) (pv 4)))
        (pss_one (ps_if (PW.pt (pw_and (pt_cmpR op_ge (pv 5) pe_int (nomark _)) (pw_and1 (pt_cmpR (op_eqU hr.units) (pe_op op_addU (pe_op op_addU (pe_slice sl_U (pv 0) po_none (po_some (pv 3))) (pe_slice sl_U (pv 1) (po_some (pv 3)) (po_some (pe_op op_addU (pv 3) (pv 5))))) (pe_slice sl_U (pv 0) (po_some (pe_op op_addU (pv 3) (pv 4))) po_none)) (pv 1) (nomark _))))) (pss_one (ps_expr (pe_bm PySem.F.plainAttrs_list PySem.F.slot_list_append PySem.F.type_list_append mt_append (pv 2) (pa_cons (pe_tup (pa_cons (pe_op op_addU (pv 4) (pv 5)) (pa_cons (pe_op op_sub pe_int (pv 3)) (pa_cons (pv 4) (pa_cons (pv 5) pa_nil))))) pa_nil)))) pss_nil))))))
        (pss_one (ps_ret (pv 2))))), ?_⟩
    have b8 : b.length ≤ 8000 := by omega
    have a8 : a.length ≤ 8000 := by omega
    walk_at "rd"
    refine r_small nsz fun m hm => ?_
    walk_at "rd"
    refine r_lenS (small8 b8) ?_
    walk_at "rd"
    refine l_R (by omega) (by omega) (fun i σ H' => ∃ y3 y4 y5 xs l, σ = [some (.str b), some (.str a), some (.ref m), y3, y4, y5] ∧ Ex H H' ∧ H' m = some (.lst xs) ∧ P2 (Q4V H') xs l ∧ l.length ≤ 21 * i ∧ Sng (cs b) (cs a) l i 0) ⟨none, none, none, [], [], rfl, Same.new (Same.refl H) hm, upd_same, .nil, Nat.zero_le _, ⟨(fun z hz => absurd hz List.not_mem_nil), fun at_ cut many _ h => by omega⟩⟩ (fun i σ H' hi hW => ?_) (fun σ H' hW => ?_)
    · obtain ⟨y3, y4, y5, xs, l, rfl, e, hm', hP, hl, hS⟩ := hW
      walk_at "rd"
      refine r_lenS (small8 b8) ?_
      walk_at "rd"
      refine l_R (by omega) (by omega) (fun c σ H2 => ∃ y4 y5 xs l, σ = [some (.str b), some (.str a), some (.ref m), some (.int (i : Nat)), y4, y5] ∧ Ex H H2 ∧ H2 m = some (.lst xs) ∧ P2 (Q4V H2) xs l ∧ l.length ≤ 21 * i + c ∧ Sng (cs b) (cs a) l i c) ⟨y4, y5, xs, l, rfl, e, hm', hP, by omega, hS⟩ (fun c σ H2 hc hW => ?_) (fun σ H2 hW => ?_)
      · obtain ⟨y4, y5, xs, l, rfl, e, hm', hP, hl, hS⟩ := hW
        have xl := hP.len
        walk_at "rd"
        refine r_lenS (small8 a8) ?_
        walk_at "rd"
        refine r_lenS (small8 b8) ?_
        with_reducible refine r_I0 ?_
        with_reducible refine r_var (v := .int (c : Nat)) rfl ?_
        with_reducible refine r_addI ?_
        walk_at "rs"
        with_reducible refine r_ifS ?_
        have bl := cs_len b
        have al := cs_len a
        obtain ⟨mi, hmi⟩ : ∃ mi : Int, mi = (a.length : Nat) - (b.length : Nat) + (c : Nat) := ⟨_, rfl⟩
        rw [← hmi]
        refine any_test (S := fun t H1 => H1 = H2 ∧ (t = true ↔ ∃ many : Nat, mi = (many : Nat) ∧ Good (cs b) (cs a) i c many)) (fun QB kk => ?_) (fun t H3 hS3 => ?_)
        · walk_at "rd"
          refine r_ite (fun h0 => ?_) (fun h0 => ?_)
          · obtain ⟨many, hmany⟩ : ∃ many : Nat, mi = (many : Nat) := ⟨mi.toNat, by omega⟩
            rw [hmany]
            walk_at "rd"
            refine r_slS (small8 b8) ?_
            walk_at "rd"
            refine r_slS (small8 a8) ?_
            have z1 := cut_len b none (some (i : Int))
            have z2 := cut_len a (some (i : Int)) (some ((i : Int) + (many : Int)))
            have z3 := cut_len b (some ((i : Int) + (c : Int))) none
            refine r_addS (by rw [sizeLine_eq]; omega) ?_
            walk_at "rd"
            refine r_slS (small8 b8) ?_
            have z4 := app_len (cutS b none (some (i : Int))) (cutS a (some (i : Int)) (some ((i : Int) + (many : Int))))
            refine r_addS (by rw [sizeLine_eq]; omega) ?_
            walk_at "rd"
            have ec : cs (cutS b none (some (i : Int)) ++ cutS a (some (i : Int)) (some ((i : Int) + (many : Int))) ++ cutS b (some ((i : Int) + (c : Int))) none) = Ml.one (cs b) (cs a) i c many := by
              rw [cs_app, cs_app, cs_to, show ((i : Int) + (many : Int)) = ((i + many : Nat) : Int) by omega, cs_cut, show ((i : Int) + (c : Int)) = ((i + c : Nat) : Int) by omega, cs_from, Nat.add_sub_cancel_left]
              rfl
            refine kk _ _ ⟨rfl, ?_⟩
            rw [decide_eq_true_iff]
            constructor
            · intro h
              have h' := congrArg cs (V.str.inj h)
              rw [ec] at h'
              exact ⟨many, hmany, ⟨by omega, by omega, h'⟩⟩
            · rintro ⟨k, hk, g⟩
              have ek : many = k := by omega
              subst ek
              exact congrArg V.str (cs_ext (by rw [ec]; exact g.one))
          · refine kk _ _ ⟨rfl, ⟨(fun z => nomatch z), fun ⟨k, hk, _⟩ => by omega⟩⟩
        obtain ⟨rfl, hiff⟩ := hS3
        refine r_iteB (fun ht => ?_) (fun hf => ?_)
        · obtain ⟨many, rfl, g⟩ := hiff.mp ht
          walk_at "rd"
          refine r_tyL (sqL hm') ?_
          walk_at "rd"
          refine r_small nsz fun pt nt => ?_
          obtain ⟨H4, k4, e4, h4⟩ := nL (.tup [.int ((c : Int) + (many : Int)), .int (0 - (i : Int)), .int (c : Nat), .int (many : Nat)]) nt
          rw [← k4]
          walk_at "rd"
          refine r_app (e4 _ _ hm') (Nat.lt_of_le_of_lt (show xs.length ≤ 1000 by omega) (by decide)) ?_
          walk_at "rd"
          have t5 := Tk.put (o := .lst (xs ++ [.ref pt])) (e4 _ _ hm')
          have s4 : Q4V H4 (.ref pt) (q4 i c many) := ⟨pt, rfl, h4⟩
          refine ⟨_, _, _, l ++ [q4 i c many], rfl, Same.mut (e.trans e4) hm, upd_same, (p2_imm ((Tk.ex e4).trans t5) hP).snoc (imm t5 s4), by rw [List.length_append]; simp; omega, ⟨fun z hz => ?_, fun at_ cut k hg h => ?_⟩⟩
          · rcases List.mem_append.mp hz with h | h
            · exact hS.sound z h
            · exact ⟨i, c, many, g, List.mem_singleton.mp h⟩
          · by_cases hn : at_ = i ∧ cut = c
            · obtain ⟨rfl, rfl⟩ := hn
              have := g.hm
              have := hg.hm
              have ek : k = many := by omega
              subst ek
              exact List.mem_append_right _ (by simp)
            · exact List.mem_append_left _ (hS.full at_ cut k hg (by omega))
        · walk_at "rd"
          refine ⟨_, _, xs, l, rfl, e, hm', hP, by omega, ⟨hS.sound, fun at_ cut k hg h => ?_⟩⟩
          by_cases hn : at_ = i ∧ cut = c
          · obtain ⟨rfl, rfl⟩ := hn
            have := hg.hm
            have z := hiff.mpr ⟨k, by omega, hg⟩
            rw [hf] at z
            cases z
          · exact hS.full at_ cut k hg (by omega)
      · obtain ⟨y4, y5, xs, l, rfl, e, hm', hP, hl, hS⟩ := hW
        refine ⟨_, y4, y5, xs, l, rfl, e, hm', hP, by omega, ⟨hS.sound, fun at_ cut k hg h => hS.full at_ cut k hg ?_⟩⟩
        have := hg.h1
        rw [cs_len] at this
        omega
    · obtain ⟨y3, y4, y5, xs, l, rfl, e, hm', hP, hl, hS⟩ := hW
      walk_at "rd"
      refine q m H' xs l e hm' hP hS.sound fun at_ cut k hg => hS.full at_ cut k hg ?_
      have := hg.h1
      rw [cs_len] at this
      omega
def spLeast20 : Sp := fun vs H Q _ => ∃ x y : Str, vs = [.str x, .str y] ∧ x.length ≤ 20 ∧ y.length ≤ 20 ∧ ∀ v H', Ex H H' → OptS H' v (lso x y) → Q v H'
theorem ok_law_least (T : Txt K mg) : FnOk P w K mg base CX0 2 T.a_law_least T.d_law_least ["_law_before", "_law_after"] spLeast20 := by
  refine T.F_law_least.ok sc_law_least (fun vs H Q E h => ?_) (fun cdv A outer s H vs Q E hr h => ?_)
  · obtain ⟨x, y, rfl, _⟩ := h
    rfl
  · obtain ⟨x, y, rfl, hx, hy, q⟩ := h
    refine ⟨_, (pss_cons (ps_if (pt_cmpR (op_eqU hr.units) (pv 0) (pv 1) (nomark _)) (pss_one (ps_ret pe_non)) pss_nil)
        (pss_cons (ps_set (i := 2) sc_law_least.nd rfl (Or.inl rfl) (pe_callB (call_minLs rfl hr.units65) (by rfl) T.n_min (by decide +kernel) (pa_cons (pe_call (ok_law_singles T) hr (by rfl) T.g_law_singles T.F_law_singles.kp T.b_law_singles .nil pass0 (pa_cons (pv 0) (pa_cons (pv 1) pa_nil))) pa_nil)))
        (pss_cons (ps_set (i := 3) sc_law_least.nd rfl (Or.inl rfl) (pe_op op_sub pe_int (pe_ix ix_seq (pv 2) pe_int (fun _ _ => rfl))))
        (pss_one (ps_ret (pe_tup (pa_cons (pv 3) (pa_cons (pe_ix ix_seq (pv 2) pe_int (fun _ _ => rfl)) (pa_cons (pe_slice sl_U (pv 1) (po_some (pv 3)) (po_some (pe_op op_addU (pv 3) (pe_ix ix_seq (pv 2) pe_int (fun _ _ => rfl))))) pa_nil))))))))), ?_⟩
    unfold lso at q
    have y8 : y.length ≤ 8000 := by omega
    walk_at "rd"
    refine r_ite (fun h => ?_) (fun h => ?_)
    · walk_at "rd"
      rw [if_pos (V.str.inj h)] at q
      exact q _ H (Same.refl H) rfl
    · rw [if_neg fun z => h (by rw [z])] at q
      walk_at "rd"
      refine ⟨x, y, rfl, hx, hy, fun p H1 xs l e1 hp hP so fu => ?_⟩
      walk_at "rd"
      have g0 := least_good (cs x) (cs y)
      have m0 := fu _ _ _ g0
      refine r_minQ4 hp hP (List.length_pos_of_mem m0) fun v z hv hz hmin => ?_
      obtain ⟨at_, cut, many, g, rfl⟩ := so z hz
      obtain ⟨pv, rfl, hpv⟩ := hv
      have best := Ml.least_best g.h1 g.hm g.one
      have nl := hmin _ m0
      obtain ⟨p0, hp0⟩ : ∃ p0, p0 = Ml.lcp (cs x) (cs y) := ⟨_, rfl⟩
      rw [← hp0] at best nl g0
      obtain ⟨e0, he0⟩ : ∃ e0, e0 = Ml.lce p0 (cs x) (cs y) := ⟨_, rfl⟩
      rw [← he0] at best nl g0
      have same : at_ = p0 ∧ cut = (cs x).length - p0 - e0 ∧ many = (cs y).length - p0 - e0 := by
        unfold q4Lt q4 at nl
        dsimp only at nl
        omega
      unfold q4 at hpv
      dsimp only at hpv
      walk_at "rd"
      refine r_ixT (sqT hpv) (atI_nat (j := 1) rfl) ?_
      walk_at "rd"
      rw [show (0 : Int) - (0 - (at_ : Int)) = ((at_ : Nat) : Int) by omega]
      refine r_ixT (sqT hpv) (atI_nat (j := 2) rfl) ?_
      walk_at "rd"
      refine r_ixT (sqT hpv) (atI_nat (j := 3) rfl) ?_
      walk_at "rd"
      refine r_slS (small8 y8) ?_
      walk_at "rd"
      refine r_small nsz fun pt nt => ?_
      obtain ⟨H3, k3, e3, h3⟩ := nL (.tup [.int (at_ : Nat), .int (cut : Nat), .str (cutS y (some (at_ : Int)) (some ((at_ : Int) + (many : Int))))]) nt
      rw [← k3]
      refine q _ H3 (e1.trans e3) ⟨pt, rfl, ?_⟩
      have es := lsp_str (x := x) (y := y) (o := cutS y (some (at_ : Int)) (some ((at_ : Int) + (many : Int)))) (by
        rw [show ((at_ : Int) + (many : Int)) = ((at_ + many : Nat) : Int) by omega, cs_cut, Nat.add_sub_cancel_left, ← hp0, ← he0, ← cs_len, ← same.2.2, same.1])
      rw [h3, es, same.1, same.2.1, cs_len]
      unfold lsp
      rw [← hp0, ← he0]
def spIsSp : Sp := fun vs H Q _ => ∃ v x, vs = [v] ∧ SpcV H v x ∧ Q (.bl true) H
theorem ok_law_is_splice (T : Txt K mg) : FnOk P w K mg base CX0 1 T.a_law_is_splice T.d_law_is_splice ["_law_thing"] spIsSp := by
  refine T.F_law_is_splice.ok sc_law_is_splice (fun vs H Q E h => ?_) (fun cdv A outer s H vs Q E hr h => ?_)
  · obtain ⟨v, x, rfl, _⟩ := h
    rfl
  · obtain ⟨v, ⟨a, c, t⟩, rfl, ⟨p, rfl, hp⟩, q⟩ := h
    refine ⟨_, (pss_cons (ps_if (PW.pt (pw_or (pt_not (pt_val (pe_callB call_isi (by rfl) T.n_isinstance (by decide +kernel) (pa_cons (pv 0) (pa_cons (pe_bltn (v := .ty "tuple") (by rfl) T.n_tuple (by decide +kernel) rfl) pa_nil))))) (pw_or1 (pt_cmpR (op_neU hr.units) (pe_callB call_lenU (by rfl) T.n_len (by decide +kernel) (pa_cons (pv 0) pa_nil)) pe_int (nomark _))))) (pss_one (ps_ret pe_bl)) pss_nil)
        (pss_cons (ps_if (PW.pt (pw_or (pt_not (pt_val (pe_callB call_isi (by rfl) T.n_isinstance (by decide +kernel) (pa_cons (pe_ix ix_seq (pv 0) pe_int (fun _ _ => rfl)) (pa_cons (pe_bltn (v := .ty "int") (by rfl) T.n_int (by decide +kernel) rfl) pa_nil))))) (pw_or (pt_not (pt_val (pe_callB call_isi (by rfl) T.n_isinstance (by decide +kernel) (pa_cons (pe_ix ix_seq (pv 0) pe_int (fun _ _ => rfl)) (pa_cons (pe_bltn (v := .ty "int") (by rfl) T.n_int (by decide +kernel) rfl) pa_nil))))) (pw_or1 (pt_not (pt_val (pe_callB call_isi (by rfl) T.n_isinstance (by decide +kernel) (pa_cons (pe_ix ix_seq (pv 0) pe_int (fun _ _ => rfl)) (pa_cons (pe_bltn (v := .ty "str") (by rfl) T.n_str (by decide +kernel) rfl) pa_nil))))))))) (pss_one (ps_ret pe_bl)) pss_nil)
        (pss_one (ps_ret (pe_and (pe_not (pe_callB call_isi (by rfl) T.n_isinstance (by decide +kernel) (pa_cons (pe_ix ix_seq (pv 0) pe_int (fun _ _ => rfl)) (pa_cons (pe_bltn (v := .ty "bool") (by rfl) T.n_bool (by decide +kernel) rfl) pa_nil)))) (pe_one (pe_not (pe_callB call_isi (by rfl) T.n_isinstance (by decide +kernel) (pa_cons (pe_ix ix_seq (pv 0) pe_int (fun _ _ => rfl)) (pa_cons (pe_bltn (v := .ty "bool") (by rfl) T.n_bool (by decide +kernel) rfl) pa_nil)))))))))), ?_⟩
    dsimp only at hp
    have tyT : TyX K H (.ref p) (.type "tuple") := .base (.tup hp)
    have tyA : TyX K H (.int (a : Nat)) (.type "int") := .base (.int _)
    have tyC : TyX K H (.int (c : Nat)) (.type "int") := .base (.int _)
    have tyS : TyX K H (.str t) (.type "str") := .base (.str _)
    walk_at "rd"
    walk_at "isi"
    walk_at "rd"
    refine r_lenT (sqT hp) ?_
    walk_at "rd"
    first
      | refine r_iteN (fun h => by exact absurd rfl h) (fun _ => ?_)
      | skip
    walk_at "rd"
    refine r_ixT (sqT hp) (atI_nat (j := 0) rfl) ?_
    walk_at "rd"
    walk_at "isi"
    walk_at "rd"
    refine r_ixT (sqT hp) (atI_nat (j := 1) rfl) ?_
    walk_at "rd"
    walk_at "isi"
    walk_at "rd"
    refine r_ixT (sqT hp) (atI_nat (j := 2) rfl) ?_
    walk_at "rd"
    walk_at "isi"
    walk_at "rd"
    refine r_ixT (sqT hp) (atI_nat (j := 0) rfl) ?_
    walk_at "rd"
    walk_at "isi"
    walk_at "rd"
    refine r_ixT (sqT hp) (atI_nat (j := 1) rfl) ?_
    walk_at "rd"
    walk_at "isi"
    walk_at "rd"
    exact q
def spSame : Sp := fun vs H Q _ => ∃ v u o, vs = [v, u] ∧ OptS H v o ∧ OptS H u o ∧ Q (.bl true) H
theorem ok_law_same (T : Txt K mg) : FnOk P w K mg base CX0 2 T.a_law_same T.d_law_same ["_law_due", "_law_told"] spSame := by
  refine T.F_law_same.ok sc_law_same (fun vs H Q E h => ?_) (fun cdv A outer s H vs Q E hr h => ?_)
  · obtain ⟨v, u, o, rfl, _⟩ := h
    rfl
  · obtain ⟨v, u, o, rfl, hv, hu, q⟩ := h
    refine ⟨_, (pss_cons (ps_if (PW.pt (pw_or (pt_cmpR op_isU (pv 0) pe_non (nomark _)) (pw_or1 (pt_cmpR op_isU (pv 1) pe_non (nomark _))))) (pss_one (ps_ret (pe_and (pe_cmpR op_isU (pv 0) pe_non (nomark _)) (pe_one (pe_cmpR op_isU (pv 1) pe_non (nomark _)))))) pss_nil)
        (pss_one (ps_ret (pe_and (pe_call (ok_law_is_splice T) hr (by rfl) T.g_law_is_splice T.F_law_is_splice.kp T.b_law_is_splice .nil pass0 (pa_cons (pv 1) pa_nil)) (pe_and (pe_cmpR (op_eqU hr.units) (pe_ix ix_seq (pv 0) pe_int (fun _ _ => rfl)) (pe_ix ix_seq (pv 1) pe_int (fun _ _ => rfl)) (nomark _)) (pe_and (pe_cmpR (op_eqU hr.units) (pe_ix ix_seq (pv 0) pe_int (fun _ _ => rfl)) (pe_ix ix_seq (pv 1) pe_int (fun _ _ => rfl)) (nomark _)) (pe_one (pe_cmpR (op_eqU hr.units) (pe_ix ix_seq (pv 0) pe_int (fun _ _ => rfl)) (pe_ix ix_seq (pv 1) pe_int (fun _ _ => rfl)) (nomark _))))))))), ?_⟩
    cases o with
    | none =>
      have e1 : v = .non := hv
      have e2 : u = .non := hu
      subst e1 e2
      walk_at "rd"
      first
        | refine r_ite (fun _ => ?_) (fun h => by exact absurd rfl h)
        | skip
      walk_at "rd"
      have et : decide (V.non = V.non) = true := decide_eq_true rfl
      rw [et]
      walk_at "rd"
      exact q
    | some x =>
      have hu2 : SpcV H u x := hu
      obtain ⟨p1, rfl, h1⟩ := (show SpcV H v x from hv)
      obtain ⟨p2, rfl, h2⟩ := hu
      walk_at "rd"
      refine ⟨.ref p2, x, rfl, hu2, ?_⟩
      have et : ∀ z : V, decide (z = z) = true := fun z => decide_eq_true rfl
      walk_at "rd"
      refine r_ixT (sqT h1) (atI_nat (j := 0) rfl) ?_
      walk_at "rd"
      refine r_ixT (sqT h2) (atI_nat (j := 0) rfl) ?_
      walk_at "rd"
      rw [et]
      walk_at "rd"
      refine r_ixT (sqT h1) (atI_nat (j := 1) rfl) ?_
      walk_at "rd"
      refine r_ixT (sqT h2) (atI_nat (j := 1) rfl) ?_
      walk_at "rd"
      rw [et]
      walk_at "rd"
      refine r_ixT (sqT h1) (atI_nat (j := 2) rfl) ?_
      walk_at "rd"
      refine r_ixT (sqT h2) (atI_nat (j := 2) rfl) ?_
      walk_at "rd"
      rw [et]
      exact q
end
end K15
namespace K15
open PySem PySem.Spec PyProof.Rows L2 Dk
/-- one step of a reading -/
local macro_rules | `(tactic| walk_at "rd1") => `(tactic| first
  | ((with_reducible refine r_var (v := ?rv) ?rh ?_); (case rh => rfl))
  | with_reducible refine r_c ?_
  | with_reducible refine r_seq ?_
  | with_reducible refine r_asg ?_
  | with_reducible refine r_par ?_
  | with_reducible refine r_gname ?_
  | with_reducible refine r_op ?_
  | with_reducible refine r_forLo ?_
  | with_reducible refine r_forTo ?_
  | with_reducible refine r_forSo ?_
  | with_reducible refine r_forRo ?_
  | with_reducible refine r_forRvo ?_
  | with_reducible refine r_forZo ?_
  | with_reducible refine r_revS ?_
  | with_reducible refine r_lcRo ?_
  | with_reducible refine r_lcLo ?_
  | with_reducible refine r_yes ?_
  | with_reducible refine r_callK0 ?_
  | with_reducible refine r_break ?_
  | with_reducible refine r_forR2o ?_
  | with_reducible refine r_forEo ?_
  | with_reducible refine r_forESo ?_
  | with_reducible refine r_xfo ?_
  | with_reducible refine r_noP ?_
  | with_reducible refine r_part ?_
  | with_reducible refine r_pI ?_
  | with_reducible refine r_gcons ?_
  | with_reducible refine r_gnil ?_
  | with_reducible refine r_mkO ?_
  | with_reducible refine r_un ?_
  | with_reducible refine r_addI ?_
  | with_reducible refine r_I0 ?_
  | with_reducible refine r_U ?_
  | with_reducible refine r_cons ?_
  | with_reducible refine r_nil ?_
  | with_reducible refine r_CB ?_
  | with_reducible refine r_call ?_
  | with_reducible refine r_callS ?_
  | with_reducible refine r_int ?_
  | with_reducible refine r_max ?_
  | with_reducible refine r_min ?_
  | with_reducible refine r_test ?_
  | with_reducible refine r_B ?_
  | with_reducible refine r_blv ?_
  | with_reducible refine r_and ?_
  | with_reducible refine r_or ?_
  | with_reducible refine r_not ?_
  | with_reducible refine r_andV ?_
  | with_reducible refine r_orV ?_
  | with_reducible refine r_notV ?_
  | with_reducible refine r_ifE ?_
  | with_reducible refine r_ifS ?_
  | with_reducible refine r_ret ?_
  | with_reducible refine r_retN ?_
  | with_reducible refine r_drop ?_
  | with_reducible refine r_next ?_
  | with_reducible refine r_sl ?_
  | with_reducible refine r_gsub ?_
  | with_reducible refine r_bm ?_
  | with_reducible refine r_tup ?_
  | with_reducible refine r_lst ?_
  | with_reducible refine r_isN ?_
  | with_reducible refine r_notN ?_
  | with_reducible refine r_itt ?_
  | with_reducible refine r_iff ?_
  | with_reducible refine r_ittN ?_
  | with_reducible refine r_iffN ?_
  | ((with_reducible refine r_ittD ?rh ?_); (case rh => rfl))
  | ((with_reducible refine r_iffD ?rh ?_); (case rh => rfl))
  | ((with_reducible refine r_modP ?rh ?_); (case rh => decide))
  | ((with_reducible refine r_eq ?rh ?_); (case rh => rfl))
  | ((with_reducible refine r_eqP ?rh ?_); (case rh => rfl))
  | ((with_reducible refine r_ne ?rh ?_); (case rh => rfl)))
local macro_rules | `(tactic| walk_at "rd") => `(tactic| repeat walk_at "rd1")
local macro_rules | `(tactic| walk_at "isi") => `(tactic| first | refine r_isi (b := true) (by assumption) (by decide +kernel) ?_ | refine r_isi (b := false) (by assumption) (by decide +kernel) ?_)
local macro_rules | `(tactic| walk_at "rs1") => `(tactic| first
  | with_reducible refine r_seq ?_
  | with_reducible refine r_asg ?_
  | with_reducible refine r_gname ?_
  | with_reducible refine r_ret ?_)
local macro_rules | `(tactic| walk_at "rs") => `(tactic| repeat walk_at "rs1")

/-! ### rows as segments: what stays, what is cut, what is put -/
abbrev Seg := Str × Str × Str
def src : List Seg → List Nat → List Nat
  | [], u => u
  | (g, c, _) :: r, u => cs g ++ (cs c ++ src r u)
def dst : List Seg → List Nat → List Nat
  | [], u => u
  | (g, _, t) :: r, u => cs g ++ (cs t ++ dst r u)
def row : Nat → List Seg → List Spc
  | _, [] => []
  | lo, (g, c, t) :: r => (lo + g.length, c.length, t) :: row (lo + g.length + c.length) r
def swp (x : Seg) : Seg := (x.1, x.2.2, x.2.1)
def sl (s : List Seg) : Nat := (src s []).length
theorem src_app : ∀ (a b : List Seg) (u : List Nat), src (a ++ b) u = src a (src b u)
  | [], _, _ => rfl
  | (g, c, t) :: a, b, u => by
    show cs g ++ (cs c ++ src (a ++ b) u) = _
    rw [src_app a b u]
    rfl
theorem dst_app : ∀ (a b : List Seg) (u : List Nat), dst (a ++ b) u = dst a (dst b u)
  | [], _, _ => rfl
  | (g, c, t) :: a, b, u => by
    show cs g ++ (cs t ++ dst (a ++ b) u) = _
    rw [dst_app a b u]
    rfl
theorem src_len : ∀ (s : List Seg) (u : List Nat), (src s u).length = sl s + u.length
  | [], u => by simp [sl, src]
  | (g, c, t) :: r, u => by
    have ih := src_len r u
    have ih2 := src_len r []
    unfold sl at *
    show (cs g ++ (cs c ++ src r u)).length = (cs g ++ (cs c ++ src r [])).length + _
    simp only [List.length_append, List.length_nil] at *
    omega
theorem sl_cons (g c t : Str) (r : List Seg) : sl ((g, c, t) :: r) = g.length + c.length + sl r := by
  unfold sl
  show (cs g ++ (cs c ++ src r [])).length = _
  rw [List.length_append, List.length_append, cs_len, cs_len]
  omega
theorem sl_app (a b : List Seg) : sl (a ++ b) = sl a + sl b := by
  have h := src_len a (src b [])
  rw [← src_app] at h
  exact h
theorem swp_swp (s : List Seg) : (s.map swp).map swp = s := by
  rw [List.map_map]
  have e : swp ∘ swp = id := rfl
  rw [e, List.map_id]
theorem src_swp : ∀ (s : List Seg) (u : List Nat), src (s.map swp) u = dst s u
  | [], _ => rfl
  | (g, c, t) :: r, u => by
    show cs g ++ (cs t ++ src (r.map swp) u) = _
    rw [src_swp r u]
    rfl
theorem dst_swp (s : List Seg) (u : List Nat) : dst (s.map swp) u = src s u := by
  rw [← src_swp, swp_swp]
theorem row_app : ∀ (a b : List Seg) (lo : Nat), row lo (a ++ b) = row lo a ++ row (lo + sl a) b
  | [], b, lo => by simp [row, sl, src]
  | (g, c, t) :: a, b, lo => by
    show _ :: row (lo + g.length + c.length) (a ++ b) = _
    rw [row_app a b, sl_cons, show lo + (g.length + c.length + sl a) = lo + g.length + c.length + sl a by omega]
    rfl
theorem row_len : ∀ (s : List Seg) (lo : Nat), (row lo s).length = s.length
  | [], _ => rfl
  | (g, c, t) :: r, lo => by
    show (row _ r).length + 1 = _
    rw [row_len r]
    rfl
theorem split_at {s : List Seg} {i : Nat} {y : Seg} (h : s[i]? = some y) : s = s.take i ++ y :: s.drop (i + 1) := by
  obtain ⟨hi, e⟩ := List.getElem?_eq_some_iff.mp h
  rw [← e, ← List.drop_eq_getElem_cons hi, List.take_append_drop]
theorem take_snoc {s : List Seg} {i : Nat} {y : Seg} (h : s[i]? = some y) : s.take (i + 1) = s.take i ++ [y] := by
  rw [List.take_add_one, h]
  rfl
theorem row_at {s : List Seg} {i : Nat} {y : Seg} (h : s[i]? = some y) (lo : Nat) : (row lo s)[i]? = some (lo + sl (s.take i) + y.1.length, y.2.1.length, y.2.2) := by
  have hi := (List.getElem?_eq_some_iff.mp h).1
  have e := split_at h
  have l1 : (row lo (s.take i)).length = i := by rw [row_len, List.length_take]; omega
  rw [e, row_app, List.getElem?_append_right (by omega), l1, Nat.sub_self, ← e]
  rfl
theorem row_mem {s : List Seg} {lo : Nat} {x : Spc} (h : x ∈ row lo s) : ∃ y ∈ s, x.2.1 = y.2.1.length ∧ x.2.2 = y.2.2 := by
  obtain ⟨i, hi⟩ := List.getElem?_of_mem h
  have h1 := (List.getElem?_eq_some_iff.mp hi).1
  rw [row_len] at h1
  have z := row_at (List.getElem?_eq_getElem h1) lo
  rw [hi] at z
  have e := Option.some.inj z
  exact ⟨s[i], List.getElem_mem h1, by rw [e], by rw [e]⟩
/-! ### what touches is joined -/
def mrg (x y : Seg) : Seg := (x.1, x.2.1 ++ y.2.1, x.2.2 ++ y.2.2)
def add (acc : List Seg) (y : Seg) : List Seg :=
  match acc.getLast? with
  | some x => if y.1 = "" then acc.dropLast ++ [mrg x y] else acc ++ [y]
  | none => [y]
def join (s : List Seg) : List Seg := s.foldl add []
theorem add_nil (y : Seg) : add [] y = [y] := rfl
theorem add_snoc (A : List Seg) (x y : Seg) : add (A ++ [x]) y = if y.1 = "" then A ++ [mrg x y] else A ++ [x] ++ [y] := by
  unfold add
  rw [List.getLast?_concat, List.dropLast_concat]
theorem snoc_of {α : Type} (l : List α) : l = [] ∨ ∃ A x, l = A ++ [x] := by
  rcases List.eq_nil_or_concat l with h | ⟨A, x, h⟩
  · exact .inl h
  · exact .inr ⟨A, x, by rw [h, List.concat_eq_append]⟩
theorem join_snoc (s : List Seg) (y : Seg) : join (s ++ [y]) = add (join s) y := by
  unfold join
  rw [List.foldl_append]
  rfl
theorem empty_cs {g : Str} (h : g = "") : cs g = [] := by rw [h]; rfl
theorem len0 {g : Str} (h : g.length = 0) : g = "" := cs_ext (by
  rw [← cs_len] at h
  rw [List.eq_nil_of_length_eq_zero h]
  rfl)
theorem src_add (acc : List Seg) (y : Seg) (u : List Nat) : src (add acc y) u = src acc (src [y] u) := by
  rcases snoc_of acc with rfl | ⟨A, x, rfl⟩
  · rfl
  · rw [add_snoc]
    split
    · rename_i h
      rw [src_app, src_app]
      congr 1
      show cs x.1 ++ (cs (x.2.1 ++ y.2.1) ++ u) = cs x.1 ++ (cs x.2.1 ++ (cs y.1 ++ (cs y.2.1 ++ u)))
      rw [cs_app, empty_cs h, List.nil_append, List.append_assoc]
    · rw [src_app]
theorem dst_add (acc : List Seg) (y : Seg) (u : List Nat) : dst (add acc y) u = dst acc (dst [y] u) := by
  rcases snoc_of acc with rfl | ⟨A, x, rfl⟩
  · rfl
  · rw [add_snoc]
    split
    · rename_i h
      rw [dst_app, dst_app]
      congr 1
      show cs x.1 ++ (cs (x.2.2 ++ y.2.2) ++ u) = cs x.1 ++ (cs x.2.2 ++ (cs y.1 ++ (cs y.2.2 ++ u)))
      rw [cs_app, empty_cs h, List.nil_append, List.append_assoc]
    · rw [dst_app]
theorem src_fold : ∀ (s acc : List Seg) (u : List Nat), src (s.foldl add acc) u = src acc (src s u)
  | [], _, _ => rfl
  | y :: r, acc, u => by
    show src (r.foldl add (add acc y)) u = _
    rw [src_fold r, src_add]
    rfl
theorem dst_fold : ∀ (s acc : List Seg) (u : List Nat), dst (s.foldl add acc) u = dst acc (dst s u)
  | [], _, _ => rfl
  | y :: r, acc, u => by
    show dst (r.foldl add (add acc y)) u = _
    rw [dst_fold r, dst_add]
    rfl
theorem src_join (s : List Seg) (u : List Nat) : src (join s) u = src s u := src_fold s [] u
theorem dst_join (s : List Seg) (u : List Nat) : dst (join s) u = dst s u := dst_fold s [] u
theorem sl_join (s : List Seg) : sl (join s) = sl s := by
  unfold sl
  rw [src_join]
/-- joined: no two touch -/
def Jd (s : List Seg) : Prop := ∀ (i : Nat) (y : Seg), s[i + 1]? = some y → y.1 ≠ ""
theorem jd_add {acc : List Seg} {y : Seg} (h : Jd acc) : Jd (add acc y) := by
  rcases snoc_of acc with rfl | ⟨A, x, rfl⟩
  · intro i z hz
    rw [add_nil] at hz
    simp at hz
  · rw [add_snoc]
    split
    · intro i z hz
      by_cases c : i + 1 < A.length
      · rw [List.getElem?_append_left c] at hz
        exact h i z (by rw [List.getElem?_append_left c]; exact hz)
      · by_cases c2 : i + 1 = A.length
        · rw [List.getElem?_append_right (by omega), c2, Nat.sub_self] at hz
          have e : mrg x y = z := Option.some.inj hz
          rw [← e]
          exact h i x (by rw [List.getElem?_append_right (by omega), c2, Nat.sub_self]; rfl)
        · rw [List.getElem?_eq_none (by rw [List.length_append]; simp; omega)] at hz
          cases hz
    · rename_i hn
      intro i z hz
      by_cases c : i + 1 < (A ++ [x]).length
      · rw [List.getElem?_append_left c] at hz
        exact h i z hz
      · by_cases c2 : i + 1 = (A ++ [x]).length
        · rw [List.getElem?_append_right (by omega), c2, Nat.sub_self] at hz
          have e : y = z := Option.some.inj hz
          rw [← e]
          exact hn
        · rw [List.getElem?_eq_none (by rw [List.length_append]; simp at c c2 ⊢; omega)] at hz
          cases hz
theorem jd_fold : ∀ (s acc : List Seg), Jd acc → Jd (s.foldl add acc)
  | [], _, h => h
  | _ :: r, _, h => jd_fold r _ (jd_add h)
theorem jd_join (s : List Seg) : Jd (join s) := jd_fold s [] fun i y h => by simp at h
theorem Jd.swp {s : List Seg} (h : Jd s) : Jd (s.map swp) := fun i y hy => by
  rw [List.getElem?_map] at hy
  obtain ⟨z, hz, rfl⟩ := Option.map_eq_some_iff.mp hy
  exact h i z hz
theorem join_fold : ∀ (s acc : List Seg), Jd (acc ++ s) → s.foldl add acc = acc ++ s
  | [], acc, _ => (List.append_nil acc).symm
  | y :: r, acc, h => by
    have e : add acc y = acc ++ [y] := by
      rcases snoc_of acc with rfl | ⟨A, x, rfl⟩
      · rfl
      · rw [add_snoc, if_neg]
        exact h A.length y (by rw [List.getElem?_append_right (by simp)]; simp)
    show r.foldl add (add acc y) = _
    rw [e, join_fold r _ (by rw [List.append_assoc]; exact h), List.append_assoc]
    rfl
theorem join_id {s : List Seg} (h : Jd s) : join s = s := join_fold s [] h
/-- no splice is empty -/
def NN (s : List Seg) : Prop := ∀ x ∈ s, x.2.1 ≠ "" ∨ x.2.2 ≠ ""
theorem app_ne {a b : Str} (h : a ≠ "") : a ++ b ≠ "" := fun z => h (len0 (by
  have q := congrArg Str.length z
  rw [app_len] at q
  have e0 : ("" : Str).length = 0 := rfl
  omega))
theorem nn_add {acc : List Seg} {y : Seg} (h : NN acc) (hy : y.2.1 ≠ "" ∨ y.2.2 ≠ "") : NN (add acc y) := by
  rcases snoc_of acc with rfl | ⟨A, x, rfl⟩
  · intro z hz
    rw [List.mem_singleton.mp hz]
    exact hy
  · rw [add_snoc]
    split
    · intro z hz
      rcases List.mem_append.mp hz with hz | hz
      · exact h z (List.mem_append_left _ hz)
      · rw [List.mem_singleton.mp hz]
        rcases h x (by simp) with q | q
        · exact .inl (app_ne q)
        · exact .inr (app_ne q)
    · intro z hz
      rcases List.mem_append.mp hz with hz | hz
      · exact h z hz
      · rw [List.mem_singleton.mp hz]
        exact hy
theorem nn_fold : ∀ (s acc : List Seg), NN acc → NN s → NN (s.foldl add acc)
  | [], _, h, _ => h
  | _ :: r, _, h, g => nn_fold r _ (nn_add h (g _ (by simp))) fun x hx => g x (List.mem_cons_of_mem _ hx)
theorem nn_join {s : List Seg} (h : NN s) : NN (join s) := nn_fold s [] (fun x hx => by cases hx) h
theorem NN.swp {s : List Seg} (h : NN s) : NN (s.map swp) := fun x hx => by
  obtain ⟨y, hy, rfl⟩ := List.mem_map.mp hx
  exact (h y hy).symm
/-- all signs are of the alphabet -/
def SA (s : List Seg) : Prop := ∀ x ∈ s, InAL x.2.1 ∧ InAL x.2.2
theorem sa_add {acc : List Seg} {y : Seg} (h : SA acc) (hy : InAL y.2.1 ∧ InAL y.2.2) : SA (add acc y) := by
  rcases snoc_of acc with rfl | ⟨A, x, rfl⟩
  · intro z hz
    rw [List.mem_singleton.mp hz]
    exact hy
  · rw [add_snoc]
    split
    · intro z hz
      rcases List.mem_append.mp hz with hz | hz
      · exact h z (List.mem_append_left _ hz)
      · rw [List.mem_singleton.mp hz]
        have q := h x (by simp)
        exact ⟨inAL_app q.1 hy.1, inAL_app q.2 hy.2⟩
    · intro z hz
      rcases List.mem_append.mp hz with hz | hz
      · exact h z hz
      · rw [List.mem_singleton.mp hz]
        exact hy
theorem sa_fold : ∀ (s acc : List Seg), SA acc → SA s → SA (s.foldl add acc)
  | [], _, h, _ => h
  | _ :: r, _, h, g => sa_fold r _ (sa_add h (g _ (by simp))) fun x hx => g x (List.mem_cons_of_mem _ hx)
theorem sa_join {s : List Seg} (h : SA s) : SA (join s) := sa_fold s [] (fun x hx => by cases hx) h
theorem SA.swp {s : List Seg} (h : SA s) : SA (s.map swp) := fun x hx => by
  obtain ⟨y, hy, rfl⟩ := List.mem_map.mp hx
  exact (h y hy).symm
theorem add_len (acc : List Seg) (y : Seg) : (add acc y).length ≤ acc.length + 1 ∧ 1 ≤ (add acc y).length := by
  rcases snoc_of acc with rfl | ⟨A, x, rfl⟩
  · exact ⟨Nat.le_refl _, Nat.le_refl _⟩
  · rw [add_snoc]
    split <;> simp
theorem fold_len : ∀ (s acc : List Seg), (s.foldl add acc).length ≤ acc.length + s.length ∧ (1 ≤ acc.length ∨ 1 ≤ s.length → 1 ≤ (s.foldl add acc).length)
  | [], acc => ⟨Nat.le_refl _, fun h => h.elim id fun z => absurd z (by decide)⟩
  | y :: r, acc => by
    have ih := fold_len r (add acc y)
    have z := add_len acc y
    refine ⟨?_, fun _ => ih.2 (.inl z.2)⟩
    have := ih.1
    show (r.foldl add (add acc y)).length ≤ _
    rw [List.length_cons]
    omega
theorem join_len2 (s : List Seg) : (join s).length ≤ s.length ∧ (1 ≤ s.length → 1 ≤ (join s).length) := by
  have h := fold_len s []
  exact ⟨by have := h.1; simp only [List.length_nil] at this; unfold join; omega, fun z => h.2 (.inr z)⟩
/-! ### rows and texts -/
abbrev sp3i (x : Spc) : Spl := ((x.1 : Int), (x.2.1 : Int), x.2.2)
theorem led_row : ∀ (s : List Seg) (pre u : List Nat), ledC (pre ++ src s u) (pre.length : Int) ((row pre.length s).map sp3i) = dst s u
  | [], pre, u => by
    show (pre ++ u).drop (pre.length : Int).toNat = u
    rw [Int.toNat_natCast, List.drop_left']
    rfl
  | (g, c, t) :: r, pre, u => by
    have ih := led_row r (pre ++ cs g ++ cs c) u
    have el : (pre ++ cs g ++ cs c).length = pre.length + g.length + c.length := by rw [List.length_append, List.length_append, cs_len, cs_len]
    rw [el] at ih
    have ea : pre ++ src ((g, c, t) :: r) u = pre ++ cs g ++ cs c ++ src r u := by
      show pre ++ (cs g ++ (cs c ++ src r u)) = _
      simp only [List.append_assoc]
    rw [ea]
    show ((pre ++ cs g ++ cs c ++ src r u).drop (pre.length : Int).toNat).take (((pre.length + g.length : Nat) : Int).toNat - (pre.length : Int).toNat) ++ (cs t ++ ledC (pre ++ cs g ++ cs c ++ src r u) (((pre.length + g.length : Nat) : Int) + ((c.length : Nat) : Int)) ((row (pre.length + g.length + c.length) r).map sp3i)) = _
    rw [show (((pre.length + g.length : Nat) : Int) + ((c.length : Nat) : Int)) = ((pre.length + g.length + c.length : Nat) : Int) by omega, ih, Int.toNat_natCast, Int.toNat_natCast]
    have e2 : (pre ++ cs g ++ cs c ++ src r u).drop pre.length = cs g ++ (cs c ++ src r u) := by
      simp only [List.append_assoc]
      exact List.drop_left' rfl
    rw [e2, show pre.length + g.length - pre.length = (cs g).length by rw [cs_len]; omega, List.take_left' rfl]
    rfl
theorem led_row0 (s : List Seg) (u : List Nat) : ledC (src s u) 0 ((row 0 s).map sp3i) = dst s u := led_row s [] u
/-- each right row has its segments -/
theorem ex_seg : ∀ (l : List Spc) (lo : Nat) (z : List Nat), lo ≤ z.length → Mv.Rt z.length lo (l.map tri) → (∀ c ∈ z, c ∈ cs AL) → (∀ x ∈ l, Gsp x) → ∃ s u, z.drop lo = src s u ∧ row lo s = l ∧ NN s ∧ SA s
  | [], lo, z, _, _, _, _ => ⟨[], z.drop lo, rfl, rfl, (fun x hx => absurd hx List.not_mem_nil), fun x hx => absurd hx List.not_mem_nil⟩
  | (a, c, t) :: r, lo, z, hlo, h, hA, hg => by
    obtain ⟨h1, h2, h3⟩ := h
    have h1 : lo ≤ a := h1
    have h2 : a + c ≤ z.length := h2
    have h3 : Mv.Rt z.length (max (a + 1) (a + c)) (r.map tri) := h3
    obtain ⟨s, u, e1, e2, e3, e4⟩ := ex_seg r (a + c) z h2 (h3.lo (by omega)) hA fun x hx => hg x (List.mem_cons_of_mem _ hx)
    have gx := hg (a, c, t) (by simp)
    have csk : ∀ q : List Nat, cs ⟨q.toArray⟩ = q := fun q => List.toList_toArray
    have lenk : ∀ q : List Nat, (⟨q.toArray⟩ : Str).length = q.length := fun q => by rw [← cs_len, csk]
    have l1 : ((z.drop lo).take (a - lo)).length = a - lo := by rw [List.length_take, List.length_drop]; omega
    have l2 : ((z.drop a).take c).length = c := by rw [List.length_take, List.length_drop]; omega
    refine ⟨(⟨((z.drop lo).take (a - lo)).toArray⟩, ⟨((z.drop a).take c).toArray⟩, t) :: s, u, ?_, ?_, ?_, ?_⟩
    · show _ = cs _ ++ (cs _ ++ src s u)
      rw [csk, csk, ← e1]
      have q1 : (z.drop a).take c ++ z.drop (a + c) = z.drop a := by
        rw [← List.drop_drop, List.take_append_drop]
      have q2 : (z.drop lo).take (a - lo) ++ z.drop a = z.drop lo := by
        have q3 : z.drop a = (z.drop lo).drop (a - lo) := by rw [List.drop_drop]; congr 1; omega
        rw [q3, List.take_append_drop]
      rw [q1, q2]
    · show (lo + _, _, t) :: row _ s = _
      rw [lenk, lenk, l1, l2, show lo + (a - lo) = a by omega, e2]
    · intro x hx
      rcases List.mem_cons.mp hx with rfl | hx
      · rcases gx.ne with q | q
        · refine .inl fun y => ?_
          have y2 := congrArg Str.length y
          dsimp only at y2
          rw [lenk, l2] at y2
          have e0 : ("" : Str).length = 0 := rfl
          have q : 0 < c := q
          omega
        · exact .inr q
      · exact e3 x hx
    · intro x hx
      rcases List.mem_cons.mp hx with rfl | hx
      · refine ⟨fun y hy => ?_, gx.tA⟩
        dsimp only at hy
        rw [csk] at hy
        exact hA y (List.mem_of_mem_drop (List.mem_of_mem_take hy))
      · exact e4 x hx
theorem jd_row : ∀ (s : List Seg) (lo : Nat) (u : List Nat) (fl ed : Int) (k n : Nat), Jd s → (∀ y, s.head? = some y → fl < (lo + y.1.length : Nat) ∧ ed ≤ (lo + y.1.length : Nat)) → lo + sl s ≤ n → jd n fl ed k (((row lo s).map sp3i).map some) = none
  | [], _, _, _, _, _, _, _, _, _ => rfl
  | (g, c, t) :: r, lo, u, fl, ed, k, n, h, h0, hn => by
    have q := h0 _ rfl
    have q1 : fl < ((lo + g.length : Nat) : Int) := q.1
    have q2 : ed ≤ ((lo + g.length : Nat) : Int) := q.2
    rw [sl_cons] at hn
    show (if ((lo + g.length : Nat) : Int) ≤ fl ∨ ((lo + g.length : Nat) : Int) < ed ∨ ((lo + g.length : Nat) : Int) + ((c.length : Nat) : Int) > n then some (k : Int) else jd n ((lo + g.length : Nat) : Int) (((lo + g.length : Nat) : Int) + ((c.length : Nat) : Int)) (k + 1) (((row (lo + g.length + c.length) r).map sp3i).map some)) = none
    rw [if_neg (by omega)]
    refine jd_row r _ u _ _ _ _ (fun i y hy => h (i + 1) y hy) (fun y hy => ?_) (by omega)
    have hy1 : y.1 ≠ "" := h 0 y (by
      cases r with
      | nil => cases hy
      | cons z w => exact hy)
    have l1 : y.1.length ≠ 0 := fun z => hy1 (len0 z)
    omega
theorem judge_row {s : List Seg} {n : Nat} (h : Jd s) (h0 : 1 ≤ s.length) (hn : sl s ≤ n) : judge n (((row 0 s).map sp3i).map some) = none := by
  unfold judge
  rw [if_neg]
  · exact jd_row s 0 [] _ _ _ _ h (fun y hy => by omega) (by omega)
  · have l := row_len s 0
    cases e : row 0 s with
    | nil => rw [e] at l; simp at l; omega
    | cons x r => simp
end K15
namespace K15
open PySem PySem.Spec PyProof.Rows L2 Dk
/-- one step of a reading -/
local macro_rules | `(tactic| walk_at "rd1") => `(tactic| first
  | ((with_reducible refine r_var (v := ?rv) ?rh ?_); (case rh => rfl))
  | with_reducible refine r_c ?_
  | with_reducible refine r_seq ?_
  | with_reducible refine r_asg ?_
  | with_reducible refine r_par ?_
  | with_reducible refine r_gname ?_
  | with_reducible refine r_op ?_
  | with_reducible refine r_forLo ?_
  | with_reducible refine r_forTo ?_
  | with_reducible refine r_forSo ?_
  | with_reducible refine r_forRo ?_
  | with_reducible refine r_forRvo ?_
  | with_reducible refine r_forZo ?_
  | with_reducible refine r_revS ?_
  | with_reducible refine r_lcRo ?_
  | with_reducible refine r_lcLo ?_
  | with_reducible refine r_yes ?_
  | with_reducible refine r_callK0 ?_
  | with_reducible refine r_break ?_
  | with_reducible refine r_forR2o ?_
  | with_reducible refine r_forEo ?_
  | with_reducible refine r_forESo ?_
  | with_reducible refine r_xfo ?_
  | with_reducible refine r_noP ?_
  | with_reducible refine r_part ?_
  | with_reducible refine r_pI ?_
  | with_reducible refine r_gcons ?_
  | with_reducible refine r_gnil ?_
  | with_reducible refine r_mkO ?_
  | with_reducible refine r_un ?_
  | with_reducible refine r_addI ?_
  | with_reducible refine r_I0 ?_
  | with_reducible refine r_U ?_
  | with_reducible refine r_cons ?_
  | with_reducible refine r_nil ?_
  | with_reducible refine r_CB ?_
  | with_reducible refine r_call ?_
  | with_reducible refine r_callS ?_
  | with_reducible refine r_int ?_
  | with_reducible refine r_max ?_
  | with_reducible refine r_min ?_
  | with_reducible refine r_test ?_
  | with_reducible refine r_B ?_
  | with_reducible refine r_blv ?_
  | with_reducible refine r_and ?_
  | with_reducible refine r_or ?_
  | with_reducible refine r_not ?_
  | with_reducible refine r_andV ?_
  | with_reducible refine r_orV ?_
  | with_reducible refine r_notV ?_
  | with_reducible refine r_ifE ?_
  | with_reducible refine r_ifS ?_
  | with_reducible refine r_ret ?_
  | with_reducible refine r_retN ?_
  | with_reducible refine r_drop ?_
  | with_reducible refine r_next ?_
  | with_reducible refine r_sl ?_
  | with_reducible refine r_gsub ?_
  | with_reducible refine r_bm ?_
  | with_reducible refine r_tup ?_
  | with_reducible refine r_lst ?_
  | with_reducible refine r_isN ?_
  | with_reducible refine r_notN ?_
  | with_reducible refine r_itt ?_
  | with_reducible refine r_iff ?_
  | with_reducible refine r_ittN ?_
  | with_reducible refine r_iffN ?_
  | ((with_reducible refine r_ittD ?rh ?_); (case rh => rfl))
  | ((with_reducible refine r_iffD ?rh ?_); (case rh => rfl))
  | ((with_reducible refine r_modP ?rh ?_); (case rh => decide))
  | ((with_reducible refine r_eq ?rh ?_); (case rh => rfl))
  | ((with_reducible refine r_eqP ?rh ?_); (case rh => rfl))
  | ((with_reducible refine r_ne ?rh ?_); (case rh => rfl)))
local macro_rules | `(tactic| walk_at "rd") => `(tactic| repeat walk_at "rd1")
local macro_rules | `(tactic| walk_at "isi") => `(tactic| first | refine r_isi (b := true) (by assumption) (by decide +kernel) ?_ | refine r_isi (b := false) (by assumption) (by decide +kernel) ?_)
local macro_rules | `(tactic| walk_at "rs1") => `(tactic| first
  | with_reducible refine r_seq ?_
  | with_reducible refine r_asg ?_
  | with_reducible refine r_gname ?_
  | with_reducible refine r_ret ?_)
local macro_rules | `(tactic| walk_at "rs") => `(tactic| repeat walk_at "rs1")

theorem r_bm0 {K : PySem.W.Frag} {T : String} {r : V → List V → Hp → VK → Prop} {to : TE} {σ : L2.St} {H : Hp} {Q : VK} (h : to σ H fun x H1 => tyV K T x H1 ∧ r x [] H1 Q) : tBM0 K T r to σ H Q := h
theorem r_pop {p : Addr} {ys : List V} {y : V} {H : Hp} {Q : VK} (h : H p = some (.lst (ys ++ [y]))) (q : Q y (upd H p (.lst ys))) : rPop (.ref p) [] H Q :=
  ⟨p, ys ++ [y], y, rfl, rfl, h, by simp, by rw [List.dropLast_concat]; exact q⟩
theorem p2_snoc {α : Type} {R : V → α → Prop} {x : α} : ∀ {l : List α} {xs : List V}, P2 R xs (l ++ [x]) → ∃ ys v, xs = ys ++ [v] ∧ P2 R ys l ∧ R v x
  | [], xs, h => by
    cases h with
    | cons h t =>
      cases t
      exact ⟨[], _, rfl, .nil, h⟩
  | b :: l, xs, h => by
    cases h with
    | cons h t =>
      obtain ⟨ys, v, e, h2, h3⟩ := p2_snoc t
      exact ⟨_ :: ys, v, by rw [e]; rfl, .cons h h2, h3⟩
theorem src_out : ∀ (a : List Seg) (u : List Nat), src a u = src a [] ++ u
  | [], _ => rfl
  | (g, c, t) :: r, u => by
    show cs g ++ (cs c ++ src r u) = (cs g ++ (cs c ++ src r [])) ++ u
    rw [src_out r u]
    simp only [List.append_assoc]
theorem lost_eq {s : List Seg} {u : List Nat} {i : Nat} {y : Seg} (h : s[i]? = some y) : ((src s u).drop (sl (s.take i) + y.1.length)).take y.2.1.length = cs y.2.1 := by
  have e : src s u = (src (s.take i) [] ++ cs y.1) ++ (cs y.2.1 ++ src (s.drop (i + 1)) u) := by
    have z : src s u = src (s.take i ++ y :: s.drop (i + 1)) u := congrArg (fun q => src q u) (split_at h)
    rw [z, src_app, src_out (s.take i), List.append_assoc]
    rfl
  rw [e, List.drop_left' (by rw [List.length_append, cs_len]; rfl), List.take_left' (cs_len _)]
def dl (s : List Seg) : Nat := (dst s []).length
theorem sl_swp (s : List Seg) : sl (s.map swp) = dl s := by
  unfold sl dl
  rw [src_swp]
theorem dl_swp (s : List Seg) : dl (s.map swp) = sl s := by
  unfold sl dl
  rw [dst_swp]
theorem dl_join (s : List Seg) : dl (join s) = dl s := by
  unfold dl
  rw [dst_join]
theorem dl_app (a b : List Seg) : dl (a ++ b) = dl a + dl b := by
  rw [← sl_swp, ← sl_swp, ← sl_swp, List.map_append, sl_app]
theorem sl_one (y : Seg) : sl [y] = y.1.length + y.2.1.length := by
  obtain ⟨g, c, t⟩ := y
  rw [sl_cons]
  rfl
theorem dl_one (y : Seg) : dl [y] = y.1.length + y.2.2.length := by
  rw [← sl_swp]
  exact sl_one (swp y)
theorem dst_len (s : List Seg) (u : List Nat) : (dst s u).length = dl s + u.length := by
  rw [← src_swp, src_len, sl_swp]
theorem sl_split {s : List Seg} {i : Nat} {y : Seg} (h : s[i]? = some y) : sl s = sl (s.take i) + (y.1.length + y.2.1.length) + sl (s.drop (i + 1)) := by
  have e := congrArg sl (split_at h)
  rw [sl_app] at e
  have e2 : sl (y :: s.drop (i + 1)) = sl [y] + sl (s.drop (i + 1)) := sl_app [y] _
  rw [e2, sl_one] at e
  omega
theorem dl_split {s : List Seg} {i : Nat} {y : Seg} (h : s[i]? = some y) : dl s = dl (s.take i) + (y.1.length + y.2.2.length) + dl (s.drop (i + 1)) := by
  have e := congrArg dl (split_at h)
  rw [dl_app] at e
  have e2 : dl (y :: s.drop (i + 1)) = dl [y] + dl (s.drop (i + 1)) := dl_app [y] _
  rw [e2, dl_one] at e
  omega
theorem mem_len {s : List Seg} {y : Seg} (h : y ∈ s) : y.2.1.length ≤ sl s ∧ y.2.2.length ≤ dl s := by
  obtain ⟨i, hi⟩ := List.getElem?_of_mem h
  have h1 := sl_split hi
  have h2 := dl_split hi
  omega
/-- rows of right splices -/
theorem row_rw {H : Hp} {xs : List V} {l : List Spc} (h : P2 (SpcV H) xs l) (hl : l.length ≤ 1000) (g : ∀ x ∈ l, (0 < x.2.1 ∨ x.2.2 ≠ "") ∧ InAL x.2.2 ∧ x.2.2.length ≤ 8000) :
    Rw H xs ∧ sps H xs = (l.map sp3i).map some := by
  have key : (∀ y ∈ xs, Thg H y) ∧ sps H xs = (l.map sp3i).map some := by
    clear hl
    induction h with
    | nil => exact ⟨(fun y hy => absurd hy List.not_mem_nil), rfl⟩
    | @cons v x xs l hv t ih =>
      have ih := ih fun x hx => g x (List.mem_cons_of_mem _ hx)
      obtain ⟨g1, g2, g3⟩ := g x (by simp)
      obtain ⟨p, rfl, hp⟩ := hv
      have hsp : sp3 H (.ref p) = some ((x.1 : Int), (x.2.1 : Int), x.2.2) := by
        show sp3o (H p) = _
        rw [hp]
        exact if_pos ⟨by omega, by omega, List.all_eq_true.mpr fun c hc => decide_eq_true (g2 c hc), g1.imp (fun h => by omega) id⟩
      refine ⟨fun y hy => ?_, ?_⟩
      · rcases List.mem_cons.mp hy with rfl | hy
        · refine ⟨⟨_, .tup hp⟩, fun a xs ea ht => ?_⟩
          cases ea
          rw [hp] at ht
          cases ht
          refine ⟨nsz, fun y hy => ?_⟩
          rcases List.mem_cons.mp hy with rfl | hy
          · exact ⟨_, .int _⟩
          rcases List.mem_cons.mp hy with rfl | hy
          · exact ⟨_, .int _⟩
          rw [List.mem_singleton.mp hy]
          exact ⟨_, .str _ g3⟩
        · exact ih.1 y hy
      · show sp3 H (.ref p) :: sps H xs = _
        rw [hsp, ih.2]
        rfl
  exact ⟨⟨by rw [h.len]; exact hl, key.1⟩, key.2⟩
section
variable {P : Program} {w : World} {K : PySem.W.Frag} {mg : Str → Option Value} {base : Heap}
def spDone : Sp := fun vs H Q _ => ∃ (z : Str) (p : Addr) (xs : List V) (l : List Spc), vs = [.str z, .ref p] ∧ H p = some (.lst xs) ∧ P2 (SpcV H) xs l ∧ z.length ≤ 4000 ∧ l.length ≤ 200 ∧ (∀ x ∈ l, x.2.2.length ≤ 3) ∧
  ∀ o, cs o = ledC (cs z) 0 (l.map sp3i) → Q (.str o) H
theorem ok_law_done (T : Txt K mg) : FnOk P w K mg base CX0 1 T.a_law_done T.d_law_done ["_law_text", "_law_row"] spDone := by
  refine T.F_law_done.ok sc_law_done (fun vs H Q E h => ?_) (fun cdv A outer s H vs Q E hr h => ?_)
  · obtain ⟨z, p, xs, l, rfl, _⟩ := h
    rfl
  · obtain ⟨z, p, xs, l, rfl, hp, hP, hz, hl, h3, q⟩ := h
    refine ⟨_, (pss_cons (ps_set (i := 2) sc_law_done.nd rfl (Or.inl rfl) pe_str)
        (pss_cons (ps_set (i := 3) sc_law_done.nd rfl (Or.inl rfl) pe_int)
        (pss_cons (ps_for PassesOwn.never rfl (pi_list (pv 1)) (pg_name (i := 4) sc_law_done.nd rfl (Or.inl rfl)) (pss_cons (ps_set (i := 2) sc_law_done.nd rfl (Or.inl rfl) (pe_op op_addU (pe_op op_addU (pv 2) (pe_slice sl_U (pv 0) (po_some (pv 3)) (po_some (pe_ix ix_seq (pv 4) pe_int (fun _ _ => rfl))))) (pe_ix ix_seq (pv 4) pe_int (fun _ _ => rfl))))
        (pss_one (ps_set (i := 3) sc_law_done.nd rfl (Or.inl rfl) (pe_op op_addU (pe_ix ix_seq (pv 4) pe_int (fun _ _ => rfl)) (pe_ix ix_seq (pv 4) pe_int (fun _ _ => rfl)))))))
        (pss_one (ps_ret (pe_op op_addU (pv 2) (pe_slice sl_U (pv 0) (po_some (pv 3)) po_none))))))), ?_⟩
    have xl := hP.len
    have z8 : z.length ≤ 8000 := by omega
    walk_at "rd"
    refine l_L (sqL hp) (fun i σ H' => ∃ (made : Str) (d : Nat) (y4 : Option V), σ = [some (.str z), some (.ref p), some (.str made), some (.int (d : Nat)), y4] ∧ H' = H ∧ made.length ≤ i * 4003 ∧ cs made ++ ledC (cs z) (d : Nat) ((l.map sp3i).drop i) = ledC (cs z) 0 (l.map sp3i)) ⟨"", 0, none, rfl, rfl, Nat.zero_le _, rfl⟩ (fun i σ H' hW => ?_) (fun i v σ H' hv hW => ?_) (fun σ H' hW => ?_)
    · obtain ⟨_, _, _, _, rfl, _⟩ := hW
      exact sqL hp
    · obtain ⟨made, d, y4, rfl, rfl, hm, hled⟩ := hW
      obtain ⟨⟨a, c, t⟩, hx, qv, rfl, hq⟩ := hP.get hv
      have xi := (List.getElem?_eq_some_iff.mp hx).1
      have tl : t.length ≤ 3 := h3 _ (List.mem_of_getElem? hx)
      dsimp only at hq
      have i200 : i * 4003 ≤ 800600 := by omega
      have z1 := cut_len z (some (d : Int)) (some (a : Int))
      have z2 := app_len made (cutS z (some (d : Int)) (some (a : Int)))
      have z3 := app_len (made ++ cutS z (some (d : Int)) (some (a : Int))) t
      walk_at "rd"
      refine r_ixT (sqT hq) (atI_nat (j := 0) rfl) ?_
      walk_at "rd"
      refine r_slS (small8 z8) ?_
      refine r_addS (by rw [sizeLine_eq]; omega) ?_
      walk_at "rd"
      refine r_ixT (sqT hq) (atI_nat (j := 2) rfl) ?_
      refine r_addS (by rw [sizeLine_eq]; omega) ?_
      walk_at "rd"
      refine r_ixT (sqT hq) (atI_nat (j := 0) rfl) ?_
      walk_at "rd"
      refine r_ixT (sqT hq) (atI_nat (j := 1) rfl) ?_
      walk_at "rd"
      rw [show ((a : Int) + (c : Int)) = ((a + c : Nat) : Int) by omega]
      refine ⟨_, a + c, _, rfl, rfl, by omega, ?_⟩
      have hr : (l.map sp3i)[i]? = some ((a : Int), (c : Int), t) := by rw [List.getElem?_map, hx]; rfl
      rw [led_drop _ hr] at hled
      rw [← hled, cs_app, cs_app, cs_cut, Int.toNat_natCast, Int.toNat_natCast, show ((a : Int) + (c : Int)) = ((a + c : Nat) : Int) by omega]
      simp only [List.append_assoc]
    · obtain ⟨made, d, y4, rfl, rfl, hm, hled⟩ := hW
      have i200 : xs.length * 4003 ≤ 800600 := by omega
      have z1 := cut_len z (some (d : Int)) none
      walk_at "rd"
      refine r_slS (small8 z8) ?_
      refine r_addS (by rw [sizeLine_eq]; omega) ?_
      refine q _ ?_
      rw [xl, show l.length = (l.map sp3i).length by rw [List.length_map], List.drop_length] at hled
      rw [← hled, cs_app, cs_from]
      show _ = cs made ++ (cs z).drop (d : Int).toNat
      rw [Int.toNat_natCast]
def spSameR : Sp := fun vs H Q _ => ∃ v u l, vs = [v, u] ∧ TupV SpcV H v l ∧ TupV SpcV H u l ∧ l.length ≤ 1000 ∧ ∀ H', Ex H H' → Q (.bl true) H'
theorem ok_law_same_round (T : Txt K mg) : FnOk P w K mg base CX0 3 T.a_law_same_round T.d_law_same_round ["_law_due", "_law_told"] spSameR := by
  refine T.F_law_same_round.ok sc_law_same_round (fun vs H Q E h => ?_) (fun cdv A outer s H vs Q E hr h => ?_)
  · obtain ⟨v, u, l, rfl, _⟩ := h
    rfl
  · obtain ⟨v, u, l, rfl, hv, hu, hl, q⟩ := h
    refine ⟨_, (pss_cons (ps_if (PW.pt (pw_or (pt_not (pt_val (pe_callB call_isi (by rfl) T.n_isinstance (by decide +kernel) (pa_cons (pv 1) (pa_cons (pe_bltn (v := .ty "tuple") (by rfl) T.n_tuple (by decide +kernel) rfl) pa_nil))))) (pw_or1 (pt_cmpR (op_neU hr.units) (pe_callB call_lenU (by rfl) T.n_len (by decide +kernel) (pa_cons (pv 1) pa_nil)) (pe_callB call_lenU (by rfl) T.n_len (by decide +kernel) (pa_cons (pv 0) pa_nil)) (nomark _))))) (pss_one (ps_ret pe_bl)) pss_nil)
        (pss_one (ps_ret (pe_cmpR (op_eqU hr.units) (pe_callB call_lenU (by rfl) T.n_len (by decide +kernel) (pa_cons (pe_lc (own := [("_law_k", 2)]) (g := gName 2) rfl sc_law_same_round.nd (pi_range1 (by rfl) T.n_range (pa_cons (pe_callB call_lenU (by rfl) T.n_len (by decide +kernel) (pa_cons (pv 0) pa_nil)) pa_nil)) (blkOk_by (N := N_law_same_round) (sc := defScope s_law_same_round) (by decide +kernel)) (fun _ _ _ _ _ => pg_name (i := 2) sc_law_same_round.nd rfl (Or.inl rfl)) (fun _ _ _ _ _ => (pts_one (pt_not (pt_val (pe_call (ok_law_same T) hr (by rfl) T.g_law_same T.F_law_same.kp T.b_law_same .nil pass0 (pa_cons (pe_ix (k_ix (K := K) rfl) (pv 0) (pv 2) (fun _ _ => rfl)) (pa_cons (pe_ix (k_ix (K := K) rfl) (pv 1) (pv 2) (fun _ _ => rfl)) pa_nil))))))) (fun _ _ _ _ _ => (pv 2))) pa_nil)) pe_int (nomark _))))), ?_⟩
    obtain ⟨p, xs, rfl, hp, hP⟩ := id hu
    have tyT : TyX K H (.ref p) (.type "tuple") := .base (.tup hp)
    walk_at "rd"
    walk_at "isi"
    walk_at "rd"
    refine r_lenTV hu ?_
    walk_at "rd"
    refine r_lenTV hv ?_
    walk_at "rd"
    refine r_iteN (fun h => by exact absurd rfl h) (fun _ => ?_)
    walk_at "rd"
    refine r_lenTV hv ?_
    walk_at "rd"
    refine l_lcR (by omega) (by omega) (fun D i H' => Ex H H' ∧ H' D = some (.lst [])) (fun D hD => ⟨Same.new (Same.refl H) hD, upd_same⟩) (fun D i H' hD hi hW => ?_) (fun D H' hD hW => ?_)
    · obtain ⟨e, hD'⟩ := hW
      have hil : i < l.length := by omega
      walk_at "rd"
      refine ⟨rfl, ?_⟩
      walk_at "rd"
      refine r_ixTV (imm (.ex e) hv) (List.getElem?_eq_getElem hil) fun v1 h1 => ?_
      walk_at "rd"
      refine r_ixTV (imm (.ex e) hu) (List.getElem?_eq_getElem hil) fun v2 h2 => ?_
      walk_at "rd"
      refine ⟨v1, v2, some l[i], rfl, h1, h2, ?_⟩
      walk_at "rd"
      exact ⟨e, hD'⟩
    · obtain ⟨e, hD'⟩ := hW
      walk_at "rd"
      refine r_lenL (sqL hD') ?_
      walk_at "rd"
      have et : decide (V.int ((([] : List V).length : Nat) : Int) = V.int 0) = true := decide_eq_true rfl
      rw [et]
      exact q H' e
def spBack : Sp := fun vs H Q _ => ∃ (z : Str) (v : V) (s : List Seg) (u : List Nat), vs = [.str z, v] ∧ TupV SpcV H v (row 0 s) ∧ cs z = src s u ∧ z.length ≤ 8000 ∧ (dst s u).length ≤ 8000 ∧ s.length ≤ 200 ∧
  ∀ w H', Ex H H' → TupV SpcV H' w (row 0 ((join s).map swp)) → Q w H'
theorem ok_back_round (T : Txt K mg) : FnOk P w K mg base CX0 1 T.a_back_round T.d_back_round ["text", "splices"] spBack := by
  refine T.F_back_round.ok sc_back_round (fun vs H Q E h => ?_) (fun cdv A outer s H vs Q E hr h => ?_)
  · obtain ⟨z, v, s, u, rfl, _⟩ := h
    rfl
  · obtain ⟨z, v, s, u, rfl, ⟨tp, vs, rfl, htp, hV⟩, hz, z8, d8, hs, q⟩ := h
    refine ⟨_, (pss_cons (ps_set (i := 2) sc_back_round.nd rfl (Or.inl rfl) (pe_lst pa_nil))
        (pss_cons (ps_set (i := 3) sc_back_round.nd rfl (Or.inl rfl) pe_int)
        (pss_cons (ps_set (i := 4) sc_back_round.nd rfl (Or.inl rfl) (pe_un un_neg pe_int))
        (pss_cons (ps_for PassesOwn.never rfl (pi_tup (pv 1)) (pg_tup rfl (pgs_cons (pg_name (i := 5) sc_back_round.nd rfl (Or.inl rfl)) (pgs_cons (pg_name (i := 6) sc_back_round.nd rfl (Or.inl rfl)) (pgs_cons (pg_name (i := 7) sc_back_round.nd rfl (Or.inl rfl)) pgs_nil)))) (pss_cons (ps_set (i := 8) sc_back_round.nd rfl (Or.inl rfl) (pe_slice sl_U (pv 0) (po_some (pv 5)) (po_some (pe_op op_addU (pv 5) (pv 6)))))
        (pss_cons (ps_if (pt_cmpR (op_eqU hr.units) (pv 5) (pv 4) (nomark _)) (pss_cons (ps_asg (pe_bm0 PySem.F.plainAttrs_list PySem.F.slot_list_pop PySem.F.type_list_pop mt_pop (pv 2)) (pg_tup rfl (pgs_cons (pg_name (i := 9) sc_back_round.nd rfl (Or.inl rfl)) (pgs_cons (pg_name (i := 10) sc_back_round.nd rfl (Or.inl rfl)) (pgs_cons (pg_name (i := 11) sc_back_round.nd rfl (Or.inl rfl)) pgs_nil)))))
        (pss_one (ps_expr (pe_bm PySem.F.plainAttrs_list PySem.F.slot_list_append PySem.F.type_list_append mt_append (pv 2) (pa_cons (pe_tup (pa_cons (pv 9) (pa_cons (pe_op op_addU (pv 10) (pe_callB call_lenU (by rfl) T.n_len (by decide +kernel) (pa_cons (pv 7) pa_nil))) (pa_cons (pe_op op_addU (pv 11) (pv 8)) pa_nil)))) pa_nil))))) (pss_one (ps_expr (pe_bm PySem.F.plainAttrs_list PySem.F.slot_list_append PySem.F.type_list_append mt_append (pv 2) (pa_cons (pe_tup (pa_cons (pe_op op_addU (pv 5) (pv 3)) (pa_cons (pe_callB call_lenU (by rfl) T.n_len (by decide +kernel) (pa_cons (pv 7) pa_nil)) (pa_cons (pv 8) pa_nil)))) pa_nil)))))
        (pss_cons (ps_aug (i := 3) sc_back_round.nd rfl (Or.inl rfl) (pe_op op_sub (pe_callB call_lenU (by rfl) T.n_len (by decide +kernel) (pa_cons (pv 7) pa_nil)) (pv 6)) ip_add)
        (pss_one (ps_set (i := 4) sc_back_round.nd rfl (Or.inl rfl) (pe_op op_addU (pv 5) (pv 6))))))))
        (pss_one (ps_ret (pe_callTy call_tupU (by rfl) T.n_tuple (by decide +kernel) (pa_cons (pv 2) pa_nil)))))))), ?_⟩
    have vl := hV.len
    rw [row_len] at vl
    have slz := src_len s u
    rw [← hz, cs_len] at slz
    rw [dst_len] at d8
    walk_at "rd"
    refine r_small nsz fun m hm => ?_
    walk_at "rd"
    have e0 := Same.new (o := .lst []) (Same.refl H) hm
    refine l_T (sqT (e0 _ _ htp)) (fun i σ H' => ∃ (ed : Int) (y5 y6 y7 y8 y9 ya yb : Option V) (xs : List V), σ = [some (.str z), some (.ref tp), some (.ref m), some (.int ((dl (s.take i) : Nat) - (sl (s.take i) : Nat))), some (.int ed), y5, y6, y7, y8, y9, ya, yb] ∧ Ex H H' ∧ H' m = some (.lst xs) ∧ P2 (SpcV H') xs (row 0 ((join (s.take i)).map swp)) ∧ (i = 0 → ed = -1) ∧ (0 < i → ed = (sl (s.take i) : Nat))) ⟨-1, none, none, none, none, none, none, none, [], rfl, e0, upd_same, .nil, (fun _ => rfl), fun h => absurd h (Nat.lt_irrefl 0)⟩ (fun i σ H' hW => ?_) (fun i x σ H' hx hW => ?_) (fun σ H' hW => ?_)
    · obtain ⟨_, _, _, _, _, _, _, _, _, _, e, _⟩ := hW
      exact sqT (e _ _ htp)
    · obtain ⟨ed, y5, y6, y7, y8, y9, ya, yb, xs, rfl, e, hm', hP, he0, he1⟩ := hW
      have hi : i < s.length := by rw [← vl]; exact (List.getElem?_eq_some_iff.mp hx).1
      obtain ⟨y, hy⟩ : ∃ y, s[i]? = some y := ⟨_, List.getElem?_eq_getElem hi⟩
      obtain ⟨x', hx', pv, rfl, hpv⟩ := hV.get hx
      rw [row_at hy, Nat.zero_add] at hx'
      have ex' := (Option.some.inj hx').symm
      subst ex'
      dsimp only at hpv
      have lost := lost_eq (u := u) hy
      have s1 := sl_split hy
      have d1 := dl_split hy
      have tsn := take_snoc hy
      have sl1 : sl (s.take (i + 1)) = sl (s.take i) + (y.1.length + y.2.1.length) := by rw [tsn, sl_app, sl_one]
      have dl1 : dl (s.take (i + 1)) = dl (s.take i) + (y.1.length + y.2.2.length) := by rw [tsn, dl_app, dl_one]
      obtain ⟨at_, hat⟩ : ∃ a, a = sl (s.take i) + y.1.length := ⟨_, rfl⟩
      rw [← hat] at hpv lost
      have t8 : y.2.2.length ≤ 8000 := by omega
      have jl : (join (s.take i)).length ≤ 200 := by
        have := (join_len2 (s.take i)).1
        rw [List.length_take] at this
        omega
      have xl := hP.len
      rw [row_len, List.length_map] at xl
      refine r_gtup (sqT (e _ _ hpv)) rfl ?_
      walk_at "rd"
      refine r_slS (small8 z8) ?_
      have el : cutS z (some (at_ : Int)) (some ((at_ : Int) + (y.2.1.length : Nat))) = y.2.1 := cs_ext (by
        rw [show ((at_ : Int) + ((y.2.1.length : Nat) : Int)) = ((at_ + y.2.1.length : Nat) : Int) by omega, cs_cut, Nat.add_sub_cancel_left, hz]
        exact lost)
      rw [el]
      have fin : ∀ (H2 : Hp) (xs2 : List V) (σ2 : L2.St), Ex H H2 → H2 m = some (.lst xs2) → P2 (SpcV H2) xs2 (row 0 ((join (s.take (i + 1))).map swp)) → ∃ (ed : Int) (y5 y6 y7 y8 y9 ya yb : Option V) (xs : List V), [some (V.str z), some (.ref tp), some (.ref m), some (.int ((dl (s.take i) : Nat) - (sl (s.take i) : Nat) + (((y.2.2.length : Nat) : Int) - ((y.2.1.length : Nat) : Int)))), some (.int ((at_ : Int) + ((y.2.1.length : Nat) : Int)))] ++ σ2 = [some (.str z), some (.ref tp), some (.ref m), some (.int ((dl (s.take (i + 1)) : Nat) - (sl (s.take (i + 1)) : Nat))), some (.int ed)] ++ σ2 ∧ Ex H H2 ∧ H2 m = some (.lst xs) ∧ P2 (SpcV H2) xs (row 0 ((join (s.take (i + 1))).map swp)) ∧ (i + 1 = 0 → ed = -1) ∧ (0 < i + 1 → ed = (sl (s.take (i + 1)) : Nat)) := fun H2 xs2 σ2 a b c => by
        refine ⟨(at_ : Int) + ((y.2.1.length : Nat) : Int), none, none, none, none, none, none, none, xs2, ?_, a, b, c, fun h => absurd h (by omega), fun _ => by omega⟩
        rw [show ((dl (s.take (i + 1)) : Nat) : Int) - (sl (s.take (i + 1)) : Nat) = (dl (s.take i) : Nat) - (sl (s.take i) : Nat) + (((y.2.2.length : Nat) : Int) - ((y.2.1.length : Nat) : Int)) by omega]
      walk_at "rd"
      refine r_ite (fun hin => ?_) (fun hout => ?_)
      · have hin' : ((at_ : Nat) : Int) = ed := V.int.inj hin
        have i0 : 0 < i := by
          rcases Nat.eq_zero_or_pos i with h | h
          · have := he0 h
            omega
          · exact h
        have g0 : y.1 = "" := len0 (by have := he1 i0; omega)
        have jn1 : 1 ≤ (join (s.take i)).length := (join_len2 _).2 (by rw [List.length_take]; omega)
        obtain ⟨A, x, hA⟩ : ∃ A x, join (s.take i) = A ++ [x] := by
          rcases snoc_of (join (s.take i)) with h | h
          · rw [h] at jn1
            exact absurd jn1 (by decide)
          · exact h
        have jn2 : join (s.take (i + 1)) = A ++ [mrg x y] := by rw [tsn, join_snoc, hA, add_snoc, if_pos g0]
        have lens := mem_len (s := join (s.take i)) (y := x) (by rw [hA]; simp)
        rw [sl_join, dl_join] at lens
        have er : row 0 ((A ++ [x]).map swp) = row 0 (A.map swp) ++ [(sl (A.map swp) + x.1.length, x.2.2.length, x.2.1)] := by
          rw [List.map_append, row_app, Nat.zero_add]
          rfl
        have er2 : row 0 ((A ++ [mrg x y]).map swp) = row 0 (A.map swp) ++ [(sl (A.map swp) + x.1.length, x.2.2.length + y.2.2.length, x.2.1 ++ y.2.1)] := by
          rw [List.map_append, row_app, Nat.zero_add, ← app_len]
          rfl
        rw [hA, er] at hP
        obtain ⟨ys, bv, rfl, hP1, bp, rfl, hbp⟩ := p2_snoc hP
        dsimp only at hbp
        walk_at "rd"
        refine r_bm0 ?_
        walk_at "rd"
        refine r_tyL (sqL hm') ?_
        refine r_pop hm' ?_
        have tpop := Tk.put (o := .lst ys) hm'
        refine r_gtup (sqT (tpop _ _ hbp)) rfl ?_
        walk_at "rd"
        refine r_tyL (sqL upd_same) ?_
        walk_at "rd"
        refine r_lenS (small8 t8) ?_
        walk_at "rd"
        refine r_addS (by rw [sizeLine_eq]; omega) ?_
        walk_at "rd"
        refine r_small nsz fun pt nt => ?_
        obtain ⟨H3, k3, e3, h3⟩ := nL (.tup [.int (sl (A.map swp) + x.1.length : Nat), .int (((x.2.2.length : Nat) : Int) + ((y.2.2.length : Nat) : Int)), .str (x.2.1 ++ y.2.1)]) nt
        rw [← k3]
        walk_at "rd"
        have hm3 := e3 _ _ (show (upd H' m (.lst ys)) m = some (.lst ys) from upd_same)
        have yl : ys.length ≤ 1000 := by rw [List.length_append] at xl; simp at xl; omega
        refine r_app hm3 (Nat.lt_of_le_of_lt yl (by decide)) ?_
        walk_at "rd"
        refine r_aug rfl ?_
        walk_at "rd"
        refine r_lenS (small8 t8) ?_
        walk_at "rd"
        refine r_ip ?_
        walk_at "rd"
        have t4 := Tk.put (o := .lst (ys ++ [.ref pt])) hm3
        obtain ⟨ed', _, _, _, _, _, _, _, xs2, f1, f2, f3, f4, f5, f6⟩ := fin (upd H3 m (.lst (ys ++ [.ref pt]))) (ys ++ [.ref pt]) [some (.int (at_ : Nat)), some (.int (y.2.1.length : Nat)), some (.str y.2.2), some (.str y.2.1), some (.int (sl (A.map swp) + x.1.length : Nat)), some (.int (x.2.2.length : Nat)), some (.str x.2.1)] (Same.mut ((Same.mut e hm).trans e3) hm) upd_same (by
          rw [jn2, er2]
          refine (p2_imm ((tpop.trans (.ex e3)).trans t4) hP1).snoc (imm t4 ⟨pt, rfl, ?_⟩)
          rw [h3]
          dsimp only
          rw [show (((x.2.2.length : Nat) : Int) + ((y.2.2.length : Nat) : Int)) = ((x.2.2.length + y.2.2.length : Nat) : Int) by omega])
        exact ⟨ed', _, _, _, _, _, _, _, xs2, f1, f2, f3, f4, f5, f6⟩
      · have join1 : join (s.take (i + 1)) = join (s.take i) ++ [y] := by
          rw [tsn, join_snoc]
          rcases snoc_of (join (s.take i)) with h | ⟨A, x, h⟩
          · rw [h]
            rfl
          · rw [h, add_snoc, if_neg]
            intro g0
            have i0 : 0 < i := by
              rcases Nat.eq_zero_or_pos i with h0 | h0
              · rw [h0] at h
                have := congrArg List.length h
                rw [List.length_append] at this
                simp [join] at this
              · exact h0
            refine hout ?_
            have := he1 i0
            have l0 : y.1.length = 0 := by rw [g0]; rfl
            congr 1
            omega
        have er : row 0 ((join (s.take i) ++ [y]).map swp) = row 0 ((join (s.take i)).map swp) ++ [(dl (s.take i) + y.1.length, y.2.2.length, y.2.1)] := by
          rw [List.map_append, row_app, Nat.zero_add, sl_swp, dl_join]
          rfl
        walk_at "rd"
        refine r_tyL (sqL hm') ?_
        walk_at "rd"
        refine r_lenS (small8 t8) ?_
        walk_at "rd"
        refine r_small nsz fun pt nt => ?_
        rw [show ((at_ : Nat) : Int) + ((dl (s.take i) : Nat) - (sl (s.take i) : Nat)) = ((dl (s.take i) + y.1.length : Nat) : Int) by omega]
        obtain ⟨H3, k3, e3, h3⟩ := nL (.tup [.int ((dl (s.take i) + y.1.length : Nat) : Int), .int (y.2.2.length : Nat), .str y.2.1]) nt
        rw [← k3]
        walk_at "rd"
        have hm3 := e3 _ _ hm'
        refine r_app hm3 (Nat.lt_of_le_of_lt (show xs.length ≤ 1000 by omega) (by decide)) ?_
        walk_at "rd"
        refine r_aug rfl ?_
        walk_at "rd"
        refine r_lenS (small8 t8) ?_
        walk_at "rd"
        refine r_ip ?_
        walk_at "rd"
        have t4 := Tk.put (o := .lst (xs ++ [.ref pt])) hm3
        obtain ⟨ed', _, _, _, _, _, _, _, xs2, f1, f2, f3, f4, f5, f6⟩ := fin (upd H3 m (.lst (xs ++ [.ref pt]))) (xs ++ [.ref pt]) [some (.int (at_ : Nat)), some (.int (y.2.1.length : Nat)), some (.str y.2.2), some (.str y.2.1), y9, ya, yb] (Same.mut (e.trans e3) hm) upd_same (by
          rw [join1, er]
          exact (p2_imm ((Tk.ex e3).trans t4) hP).snoc (imm t4 ⟨pt, rfl, h3⟩))
        exact ⟨ed', _, _, _, _, _, _, _, xs2, f1, f2, f3, f4, f5, f6⟩
    · obtain ⟨ed, y5, y6, y7, y8, y9, ya, yb, xs, rfl, e, hm', hP, he0, he1⟩ := hW
      walk_at "rd"
      rw [vl, List.take_length] at hP
      exact r_tupLV hm' hP fun p H2 hp e2 hT => q _ H2 (e.trans e2) hT
end
end K15
namespace K15
open PySem PySem.Spec PyProof.Rows L2 Dk
/-- one step of a reading -/
local macro_rules | `(tactic| walk_at "rd1") => `(tactic| first
  | ((with_reducible refine r_var (v := ?rv) ?rh ?_); (case rh => rfl))
  | with_reducible refine r_c ?_
  | with_reducible refine r_seq ?_
  | with_reducible refine r_asg ?_
  | with_reducible refine r_par ?_
  | with_reducible refine r_gname ?_
  | with_reducible refine r_op ?_
  | with_reducible refine r_forLo ?_
  | with_reducible refine r_forTo ?_
  | with_reducible refine r_forSo ?_
  | with_reducible refine r_forRo ?_
  | with_reducible refine r_forRvo ?_
  | with_reducible refine r_forZo ?_
  | with_reducible refine r_revS ?_
  | with_reducible refine r_lcRo ?_
  | with_reducible refine r_lcLo ?_
  | with_reducible refine r_yes ?_
  | with_reducible refine r_callK0 ?_
  | with_reducible refine r_break ?_
  | with_reducible refine r_forR2o ?_
  | with_reducible refine r_forEo ?_
  | with_reducible refine r_forESo ?_
  | with_reducible refine r_xfo ?_
  | with_reducible refine r_noP ?_
  | with_reducible refine r_part ?_
  | with_reducible refine r_pI ?_
  | with_reducible refine r_gcons ?_
  | with_reducible refine r_gnil ?_
  | with_reducible refine r_mkO ?_
  | with_reducible refine r_un ?_
  | with_reducible refine r_addI ?_
  | with_reducible refine r_I0 ?_
  | with_reducible refine r_U ?_
  | with_reducible refine r_cons ?_
  | with_reducible refine r_nil ?_
  | with_reducible refine r_CB ?_
  | with_reducible refine r_call ?_
  | with_reducible refine r_callS ?_
  | with_reducible refine r_int ?_
  | with_reducible refine r_max ?_
  | with_reducible refine r_min ?_
  | with_reducible refine r_test ?_
  | with_reducible refine r_B ?_
  | with_reducible refine r_blv ?_
  | with_reducible refine r_and ?_
  | with_reducible refine r_or ?_
  | with_reducible refine r_not ?_
  | with_reducible refine r_andV ?_
  | with_reducible refine r_orV ?_
  | with_reducible refine r_notV ?_
  | with_reducible refine r_ifE ?_
  | with_reducible refine r_ifS ?_
  | with_reducible refine r_ret ?_
  | with_reducible refine r_retN ?_
  | with_reducible refine r_drop ?_
  | with_reducible refine r_next ?_
  | with_reducible refine r_sl ?_
  | with_reducible refine r_gsub ?_
  | with_reducible refine r_bm ?_
  | with_reducible refine r_tup ?_
  | with_reducible refine r_lst ?_
  | with_reducible refine r_isN ?_
  | with_reducible refine r_notN ?_
  | with_reducible refine r_itt ?_
  | with_reducible refine r_iff ?_
  | with_reducible refine r_ittN ?_
  | with_reducible refine r_iffN ?_
  | ((with_reducible refine r_ittD ?rh ?_); (case rh => rfl))
  | ((with_reducible refine r_iffD ?rh ?_); (case rh => rfl))
  | ((with_reducible refine r_modP ?rh ?_); (case rh => decide))
  | ((with_reducible refine r_eq ?rh ?_); (case rh => rfl))
  | ((with_reducible refine r_eqP ?rh ?_); (case rh => rfl))
  | ((with_reducible refine r_ne ?rh ?_); (case rh => rfl)))
local macro_rules | `(tactic| walk_at "rd") => `(tactic| repeat walk_at "rd1")
local macro_rules | `(tactic| walk_at "isi") => `(tactic| first | refine r_isi (b := true) (by assumption) (by decide +kernel) ?_ | refine r_isi (b := false) (by assumption) (by decide +kernel) ?_)
local macro_rules | `(tactic| walk_at "rs1") => `(tactic| first
  | with_reducible refine r_seq ?_
  | with_reducible refine r_asg ?_
  | with_reducible refine r_gname ?_
  | with_reducible refine r_ret ?_)
local macro_rules | `(tactic| walk_at "rs") => `(tactic| repeat walk_at "rs1")

section
variable {P : Program} {w : World} {K : PySem.W.Frag} {mg : Str → Option Value} {base : Heap}
theorem opts_up {H H' : Hp} {v : V} {o : Option Spc} (e : Ex H H') (h : OptS H v o) : OptS H' v o := by
  cases o with
  | none => exact h
  | some y => exact imm (R := SpcV) (.ex e) h
theorem lsp_good {x y : Str} (h : x ≠ y) (hA : InAL y) : (0 < (lsp x y).2.1 ∨ (lsp x y).2.2 ≠ "") ∧ InAL (lsp x y).2.2 ∧ (lsp x y).2.2.length ≤ y.length ∧ (lsp x y).1 + (lsp x y).2.1 ≤ x.length ∧ spl (cs x) (lsp x y).1 (lsp x y).2.1 (cs (lsp x y).2.2) = cs y := by
  have ll := lcp_len x y
  have le := lce_len x y
  have one := Ml.least_one (b := cs x) (a := cs y)
  have csk : cs (lsp x y).2.2 = ((cs y).drop (Ml.lcp (cs x) (cs y))).take (y.length - Ml.lcp (cs x) (cs y) - Ml.lce (Ml.lcp (cs x) (cs y)) (cs x) (cs y)) := List.toList_toArray
  have e1 : (lsp x y).1 = Ml.lcp (cs x) (cs y) := rfl
  have e2 : (lsp x y).2.1 = x.length - Ml.lcp (cs x) (cs y) - Ml.lce (Ml.lcp (cs x) (cs y)) (cs x) (cs y) := rfl
  have sp : spl (cs x) (lsp x y).1 (lsp x y).2.1 (cs (lsp x y).2.2) = cs y := by
    rw [csk, e1, e2]
    unfold Ml.one at one
    rw [cs_len, cs_len] at one
    exact one
  refine ⟨?_, fun c hc => ?_, ?_, by omega, sp⟩
  · by_cases c : 0 < (lsp x y).2.1
    · exact .inl c
    · refine .inr fun z => h (cs_ext ?_)
      rw [z, show (lsp x y).2.1 = 0 by omega] at sp
      unfold spl at sp
      rw [← sp, Nat.add_zero]
      show cs x = (cs x).take _ ++ [] ++ (cs x).drop _
      rw [List.append_nil, List.take_append_drop]
  · rw [csk] at hc
    exact hA c (List.mem_of_mem_drop (List.mem_of_mem_take hc))
  · rw [← cs_len, csk, List.length_take, List.length_drop, cs_len]
    omega
def spPair : Sp := fun vs H Q _ => ∃ x y : Str, vs = [.str x, .str y] ∧ x.length ≤ 20 ∧ y.length ≤ 20 ∧ InAL y ∧ ∀ H', Ex H H' → Q (.bl true) H'
theorem ok_law_pair (T : Txt K mg) : FnOk P w K mg base CX0 6 T.a_law_pair T.d_law_pair ["_law_before", "_law_after"] spPair := by
  refine T.F_law_pair.ok sc_law_pair (fun vs H Q E h => ?_) (fun cdv A outer s H vs Q E hr h => ?_)
  · obtain ⟨x, y, rfl, _⟩ := h
    rfl
  · obtain ⟨x, y, rfl, hx, hy, hA, q⟩ := h
    refine ⟨_, (pss_cons (ps_set (i := 2) sc_law_pair.nd rfl (Or.inl rfl) (pe_call (ok_law_least T) (hr.mono (by decide)) (by rfl) T.g_law_least T.F_law_least.kp T.b_law_least .nil pass0 (pa_cons (pv 0) (pa_cons (pv 1) pa_nil))))
        (pss_cons (ps_set (i := 3) sc_law_pair.nd rfl (Or.inl rfl) (pe_call (ok_least_splice T) (hr.mono (by decide)) (by rfl) T.g_least_splice T.F_least_splice.kp T.b_least_splice .nil pass0 (pa_cons (pv 0) (pa_cons (pv 1) pa_nil))))
        (pss_cons (ps_if (PW.pt (pw_or (pt_not (pt_val (pe_call (ok_law_same T) (hr.mono (by decide)) (by rfl) T.g_law_same T.F_law_same.kp T.b_law_same .nil pass0 (pa_cons (pv 2) (pa_cons (pv 3) pa_nil))))) (pw_or1 (pt_not (pt_val (pe_call (ok_law_same T) (hr.mono (by decide)) (by rfl) T.g_law_same T.F_law_same.kp T.b_law_same .nil pass0 (pa_cons (pe_call (ok_law_least_long T) (hr.mono (by decide)) (by rfl) T.g_law_least_long T.F_law_least_long.kp T.b_law_least_long .nil pass0 (pa_cons (pv 0) (pa_cons (pv 1) pa_nil))) (pa_cons (pv 3) pa_nil)))))))) (pss_one (ps_ret pe_bl)) pss_nil)
        (pss_cons (ps_if (pt_cmpR op_isU (pv 2) pe_non (nomark _)) (pss_one (ps_ret pe_bl)) pss_nil)
        (pss_one (ps_ret (pe_and (pe_cmpR (op_eqU hr.units) (pe_call (ok_spliced T) hr (by rfl) T.g_spliced T.F_spliced.kp T.b_spliced .nil passL (pa_cons (pv 0) (pa_cons (pe_tup (pa_cons (pv 3) pa_nil)) pa_nil))) (pv 1) (nomark _)) (pe_one (pe_cmpR op_isU (pe_call (ok_check_round T) (hr.mono (by decide)) (by rfl) T.g_check_round T.F_check_round.kp T.b_check_round .nil passL (pa_cons (pe_callB call_lenU (by rfl) T.n_len (by decide +kernel) (pa_cons (pv 0) pa_nil)) (pa_cons (pe_tup (pa_cons (pv 3) pa_nil)) pa_nil))) pe_non (nomark _)))))))))), ?_⟩
    have x8 : x.length ≤ 8000 := by omega
    have y8 : y.length ≤ 8000 := by omega
    walk_at "rd"
    refine ⟨x, y, rfl, hx, hy, fun due H1 e1 h1 => ?_⟩
    walk_at "rd"
    refine ⟨x, y, rfl, x8, y8, fun told H2 e2 h2 => ?_⟩
    walk_at "rd"
    have h12 := opts_up e2 h1
    refine ⟨due, told, _, rfl, h12, h2, ?_⟩
    walk_at "rd"
    refine ⟨x, y, rfl, x8, y8, fun due2 H3 e3 h3 => ?_⟩
    walk_at "rd"
    have h13 := opts_up e3 h12
    have h23 := opts_up e3 h2
    refine ⟨due2, told, _, rfl, h3, h23, ?_⟩
    walk_at "rd"
    have e13 := (e1.trans e2).trans e3
    unfold lso at h13 h23
    by_cases hxy : x = y
    · rw [if_pos hxy] at h13
      have ed : due = .non := h13
      subst ed
      refine r_ite (fun _ => ?_) (fun h => absurd rfl h)
      walk_at "rd"
      exact q _ e13
    · rw [if_neg hxy] at h13 h23
      obtain ⟨pd, rfl, hpd⟩ := (show SpcV H3 due _ from h13)
      have h23' : SpcV H3 told (lsp x y) := h23
      obtain ⟨g1, g2, g3, g4, g5⟩ := lsp_good hxy hA
      walk_at "rd"
      refine r_small nsz fun pi ni => ?_
      obtain ⟨Hi, ki, ei, hi⟩ := nL (.tup [told]) ni
      rw [← ki]
      obtain ⟨rw1, sp1, jd1⟩ := one_spl (imm (.ex ei) h23') g1 g2 (by omega) (n := x.length) g4
      walk_at "rd"
      refine ⟨x, pi, [told], rfl, x8, hi, rw1, fun rs hrs _ Hj o1 ej ho1 => ?_, fun k hk => by rw [jd1] at hk; cases hk⟩
      have ers : rs = [(((lsp x y).1 : Int), ((lsp x y).2.1 : Int), (lsp x y).2.2)] := by
        rw [sp1] at hrs
        exact ((List.map_inj_right fun a b h => Option.some.inj h).mp hrs).symm
      rw [ers, led_one, g5] at ho1
      have eo : o1 = y := cs_ext ho1
      subst eo
      walk_at "rd"
      have et : decide (V.str o1 = V.str o1) = true := decide_eq_true rfl
      rw [et]
      walk_at "rd"
      refine r_lenS (small8 x8) ?_
      walk_at "rd"
      refine r_small nsz fun pk nk => ?_
      obtain ⟨Hk, kk, ek, hk⟩ := nL (.tup [told]) nk
      rw [← kk]
      obtain ⟨rw2, sp2, jd2⟩ := one_spl (imm (.ex ((ei.trans ej).trans ek)) h23') g1 g2 (by omega) (n := x.length) g4
      walk_at "rd"
      refine ⟨(x.length : Nat), pk, [told], rfl, hk, rw2, fun _ Hl el => ?_, fun k hk => by rw [jd2] at hk; cases hk⟩
      walk_at "rd"
      have en : decide (V.non = V.non) = true := decide_eq_true rfl
      rw [en]
      exact q Hl ((((e13.trans ei).trans ej).trans ek).trans el)
end
end K15
namespace K15
open PySem PySem.Spec PyProof.Rows L2 Dk
/-- one step of a reading -/
local macro_rules | `(tactic| walk_at "rd1") => `(tactic| first
  | ((with_reducible refine r_var (v := ?rv) ?rh ?_); (case rh => rfl))
  | with_reducible refine r_c ?_
  | with_reducible refine r_seq ?_
  | with_reducible refine r_asg ?_
  | with_reducible refine r_par ?_
  | with_reducible refine r_gname ?_
  | with_reducible refine r_op ?_
  | with_reducible refine r_forLo ?_
  | with_reducible refine r_forTo ?_
  | with_reducible refine r_forSo ?_
  | with_reducible refine r_forRo ?_
  | with_reducible refine r_forRvo ?_
  | with_reducible refine r_forZo ?_
  | with_reducible refine r_revS ?_
  | with_reducible refine r_lcRo ?_
  | with_reducible refine r_lcLo ?_
  | with_reducible refine r_yes ?_
  | with_reducible refine r_callK0 ?_
  | with_reducible refine r_break ?_
  | with_reducible refine r_forR2o ?_
  | with_reducible refine r_forEo ?_
  | with_reducible refine r_forESo ?_
  | with_reducible refine r_xfo ?_
  | with_reducible refine r_noP ?_
  | with_reducible refine r_part ?_
  | with_reducible refine r_pI ?_
  | with_reducible refine r_gcons ?_
  | with_reducible refine r_gnil ?_
  | with_reducible refine r_mkO ?_
  | with_reducible refine r_un ?_
  | with_reducible refine r_addI ?_
  | with_reducible refine r_I0 ?_
  | with_reducible refine r_U ?_
  | with_reducible refine r_cons ?_
  | with_reducible refine r_nil ?_
  | with_reducible refine r_CB ?_
  | with_reducible refine r_call ?_
  | with_reducible refine r_callS ?_
  | with_reducible refine r_int ?_
  | with_reducible refine r_max ?_
  | with_reducible refine r_min ?_
  | with_reducible refine r_test ?_
  | with_reducible refine r_B ?_
  | with_reducible refine r_blv ?_
  | with_reducible refine r_and ?_
  | with_reducible refine r_or ?_
  | with_reducible refine r_not ?_
  | with_reducible refine r_andV ?_
  | with_reducible refine r_orV ?_
  | with_reducible refine r_notV ?_
  | with_reducible refine r_ifE ?_
  | with_reducible refine r_ifS ?_
  | with_reducible refine r_ret ?_
  | with_reducible refine r_retN ?_
  | with_reducible refine r_drop ?_
  | with_reducible refine r_next ?_
  | with_reducible refine r_sl ?_
  | with_reducible refine r_gsub ?_
  | with_reducible refine r_bm ?_
  | with_reducible refine r_tup ?_
  | with_reducible refine r_lst ?_
  | with_reducible refine r_isN ?_
  | with_reducible refine r_notN ?_
  | with_reducible refine r_itt ?_
  | with_reducible refine r_iff ?_
  | with_reducible refine r_ittN ?_
  | with_reducible refine r_iffN ?_
  | ((with_reducible refine r_ittD ?rh ?_); (case rh => rfl))
  | ((with_reducible refine r_iffD ?rh ?_); (case rh => rfl))
  | ((with_reducible refine r_modP ?rh ?_); (case rh => decide))
  | ((with_reducible refine r_eq ?rh ?_); (case rh => rfl))
  | ((with_reducible refine r_eqP ?rh ?_); (case rh => rfl))
  | ((with_reducible refine r_ne ?rh ?_); (case rh => rfl)))
local macro_rules | `(tactic| walk_at "rd") => `(tactic| repeat walk_at "rd1")
local macro_rules | `(tactic| walk_at "isi") => `(tactic| first | refine r_isi (b := true) (by assumption) (by decide +kernel) ?_ | refine r_isi (b := false) (by assumption) (by decide +kernel) ?_)
local macro_rules | `(tactic| walk_at "rs1") => `(tactic| first
  | with_reducible refine r_seq ?_
  | with_reducible refine r_asg ?_
  | with_reducible refine r_gname ?_
  | with_reducible refine r_ret ?_)
local macro_rules | `(tactic| walk_at "rs") => `(tactic| repeat walk_at "rs1")

/-! ### a comprehension over a text -/
theorem r_lcSo {tl : TE} {g : TG} {tt : TT} {te : TE} {vs : List Nat} {σ : L2.St} {H : Hp} {Q : VK} (h : tl σ H fun x H1 => ∃ z, x = .str z ∧ ∀ D, H1 D = none → ∃ W : Nat → Nat → Hp → Prop, (∃ m, W 0 m (upd H1 D (.lst []))) ∧ ∀ i m H, W i m H →
  ((Its z).stop i H ∧ Q (.ref D) H) ∨ ((Its z).go i H ∧ ∃ Nx : Hp → Prop, (∀ H', Nx H' → ∃ m', m' < m ∧ W (i + 1) m' H') ∧ ∀ x H', (Its z).yld i H x H' → g x (wipe σ vs) H' fun σ2 H2 => wipe σ2 vs = wipe σ vs ∧ tt σ2 H2 fun b H3 =>
    if b = true then te σ2 H3 fun y H4 => ∃ acc, H4 D = some (.lst acc) ∧ acc.length < sizeLine ∧ Nx (upd H4 D (.lst (acc ++ [y]))) else Nx H3)) : tLc (iStr tl) g tt te vs σ H Q := h
theorem l_lcS {z : Str} {g : TG} {tt : TT} {te : TE} {vs : List Nat} {σ : L2.St} {H1 : Hp} {Qd : Addr → Hp → Prop} (Pv : Addr → Nat → Hp → Prop) (h0 : ∀ D, H1 D = none → Pv D 0 (upd H1 D (.lst [])))
    (hs : ∀ D (i : Nat) c H, H1 D = none → (cs z)[i]? = some c → Pv D i H → g (.str ⟨#[c]⟩) (wipe σ vs) H fun σ2 H2 => wipe σ2 vs = wipe σ vs ∧ tt σ2 H2 fun b H3 =>
      if b = true then te σ2 H3 fun y H4 => ∃ acc, H4 D = some (.lst acc) ∧ acc.length < sizeLine ∧ Pv D (i + 1) (upd H4 D (.lst (acc ++ [y]))) else Pv D (i + 1) H3) (hd : ∀ D H, H1 D = none → Pv D z.length H → Qd D H) :
    ∃ y, V.str z = .str y ∧ ∀ D, H1 D = none → ∃ W : Nat → Nat → Hp → Prop, (∃ m, W 0 m (upd H1 D (.lst []))) ∧ ∀ i m H, W i m H →
  ((Its y).stop i H ∧ Qd D H) ∨ ((Its y).go i H ∧ ∃ Nx : Hp → Prop, (∀ H', Nx H' → ∃ m', m' < m ∧ W (i + 1) m' H') ∧ ∀ x H', (Its y).yld i H x H' → g x (wipe σ vs) H' fun σ2 H2 => wipe σ2 vs = wipe σ vs ∧ tt σ2 H2 fun b H3 =>
    if b = true then te σ2 H3 fun y H4 => ∃ acc, H4 D = some (.lst acc) ∧ acc.length < sizeLine ∧ Nx (upd H4 D (.lst (acc ++ [y]))) else Nx H3) :=
  ⟨z, rfl, fun D hD => lc_it walk_str (Pv D) (h0 D hD) (fun _ _ _ _ => trivial) (fun i x H H' hi p y => by
    obtain ⟨rfl, c, hc, rfl⟩ := y
    exact hs D i c H' hD (by rw [Array.getElem?_toList]; exact hc) p) fun H p => hd D H hD p⟩
/-! ### events -/
abbrev Ev := Nat × Nat
def nm (k : Nat) : Str := if k = 0 then "stay" else if k = 1 then "cut" else "put"
def EvV (H : Hp) (v : V) (e : Ev) : Prop := ∃ p s, v = .ref p ∧ H p = some (.tup [.str (nm e.1), .str s]) ∧ e.1 ≤ 2 ∧ (e.1 ≠ 0 → s = ⟨#[e.2]⟩)
instance : Imm EvV := ⟨fun t h => h.imp fun p z => z.imp fun s y => ⟨y.1, t _ _ y.2.1, y.2.2⟩⟩
def ek (k : Nat) (z : Str) : List Ev := (cs z).map fun c => (k, c)
def evs : List Seg → List Ev
  | [] => []
  | (g, c, t) :: r => ek 0 g ++ (ek 1 c ++ ek 2 t) ++ evs r
theorem evs_app : ∀ (a b : List Seg), evs (a ++ b) = evs a ++ evs b
  | [], _ => rfl
  | (g, c, t) :: a, b => by
    show ek 0 g ++ (ek 1 c ++ ek 2 t) ++ evs (a ++ b) = _
    rw [evs_app a b, ← List.append_assoc]
    rfl
theorem evs_one (y : Seg) : evs [y] = ek 0 y.1 ++ (ek 1 y.2.1 ++ ek 2 y.2.2) := by
  show ek 0 y.1 ++ (ek 1 y.2.1 ++ ek 2 y.2.2) ++ [] = _
  rw [List.append_nil]
theorem ek_len (k : Nat) (z : Str) : (ek k z).length = z.length := by
  unfold ek
  rw [List.length_map, cs_len]
theorem evs_len : ∀ (s : List Seg), (evs s).length ≤ sl s + dl s
  | [] => Nat.zero_le _
  | (g, c, t) :: r => by
    have ih := evs_len r
    have e1 := sl_cons g c t r
    have e2 : dl ((g, c, t) :: r) = dl [(g, c, t)] + dl r := dl_app [(g, c, t)] r
    rw [dl_one] at e2
    dsimp only at e2
    show (ek 0 g ++ (ek 1 c ++ ek 2 t) ++ evs r).length ≤ _
    simp only [List.length_append, ek_len]
    omega
/-- the signs of one kind -/
def tx (k : Nat) (r : List Ev) : List Nat := (r.filter fun e => decide (e.1 = k)).map (·.2)
theorem tx_app (k : Nat) (a b : List Ev) : tx k (a ++ b) = tx k a ++ tx k b := by
  unfold tx
  rw [List.filter_append, List.map_append]
theorem tx_ek (k j : Nat) (z : Str) : tx k (ek j z) = if j = k then cs z else [] := by
  unfold tx ek
  rw [List.filter_map]
  by_cases h : j = k
  · rw [if_pos h]
    have e : (cs z).filter ((fun e : Ev => decide (e.1 = k)) ∘ fun c => ((j, c) : Ev)) = cs z := List.filter_eq_self.mpr fun c _ => decide_eq_true h
    rw [e, List.map_map]
    exact List.map_id _
  · rw [if_neg h]
    have e : (cs z).filter ((fun e : Ev => decide (e.1 = k)) ∘ fun c => ((j, c) : Ev)) = [] := List.filter_eq_nil_iff.mpr fun c _ => by
      show ¬ decide (j = k) = true
      rw [decide_eq_true_iff]
      exact h
    rw [e]
    rfl
abbrev St2 := List Spc × Nat × List Ev
/-- the run's splice -/
def cl (k0 k1 : Nat) (p : Nat) (r : List Ev) : Spc := (p, (tx k0 r).length, ⟨(tx k1 r).toArray⟩)
def stp (k0 k1 : Nat) (st : St2) (e : Ev) : St2 :=
  if e.1 = 0 then (if st.2.2 = [] then (st.1, st.2.1 + 1, []) else (st.1 ++ [cl k0 k1 st.2.1 st.2.2], st.2.1 + (tx k0 st.2.2).length + 1, []))
  else (st.1, st.2.1, st.2.2 ++ [e])
theorem fold_stay0 (k0 k1 : Nat) : ∀ (l : List Ev) (m : List Spc) (p : Nat), (∀ e ∈ l, e.1 = 0) → l.foldl (stp k0 k1) (m, p, []) = (m, p + l.length, [])
  | [], _, _, _ => rfl
  | e :: l, m, p, h => by
    have e1 : stp k0 k1 (m, p, []) e = (m, p + 1, []) := by
      unfold stp
      rw [if_pos (h e (by simp)), if_pos rfl]
    show l.foldl (stp k0 k1) (stp k0 k1 (m, p, []) e) = _
    rw [e1, fold_stay0 k0 k1 l m (p + 1) fun x hx => h x (List.mem_cons_of_mem _ hx), List.length_cons]
    congr 2
    omega
theorem fold_stay1 (k0 k1 : Nat) {l : List Ev} {m : List Spc} {p : Nat} {r : List Ev} (h : ∀ e ∈ l, e.1 = 0) (hl : l ≠ []) (hr : r ≠ []) : l.foldl (stp k0 k1) (m, p, r) = (m ++ [cl k0 k1 p r], p + (tx k0 r).length + l.length, []) := by
  cases l with
  | nil => exact absurd rfl hl
  | cons e l =>
    have e1 : stp k0 k1 (m, p, r) e = (m ++ [cl k0 k1 p r], p + (tx k0 r).length + 1, []) := by
      unfold stp
      rw [if_pos (h e (by simp)), if_neg hr]
    show l.foldl (stp k0 k1) (stp k0 k1 (m, p, r) e) = _
    rw [e1, fold_stay0 k0 k1 l _ _ fun x hx => h x (List.mem_cons_of_mem _ hx), List.length_cons]
    congr 2
    omega
theorem fold_run (k0 k1 : Nat) : ∀ (l : List Ev) (m : List Spc) (p : Nat) (r : List Ev), (∀ e ∈ l, e.1 ≠ 0) → l.foldl (stp k0 k1) (m, p, r) = (m, p, r ++ l)
  | [], _, _, _, _ => by simp
  | e :: l, m, p, r, h => by
    have e1 : stp k0 k1 (m, p, r) e = (m, p, r ++ [e]) := by
      unfold stp
      rw [if_neg (h e (by simp))]
    show l.foldl (stp k0 k1) (stp k0 k1 (m, p, r) e) = _
    rw [e1, fold_run k0 k1 l m p _ fun x hx => h x (List.mem_cons_of_mem _ hx), List.append_assoc]
    rfl
def sel (b : Bool) (x : Seg) : Seg := if b = true then x else swp x
def k0 (b : Bool) : Nat := if b = true then 1 else 2
def k1 (b : Bool) : Nat := if b = true then 2 else 1
theorem sel_1 (b : Bool) (x : Seg) : (sel b x).1 = x.1 := by cases b <;> rfl
theorem tx_sel {b : Bool} {x : Seg} {r : List Ev} (h1 : tx 1 r = cs x.2.1) (h2 : tx 2 r = cs x.2.2) : tx (k0 b) r = cs (sel b x).2.1 ∧ tx (k1 b) r = cs (sel b x).2.2 := by
  cases b
  · exact ⟨h2, h1⟩
  · exact ⟨h1, h2⟩
theorem cl_sel {b : Bool} {x : Seg} {r : List Ev} {p : Nat} (h1 : tx 1 r = cs x.2.1) (h2 : tx 2 r = cs x.2.2) : cl (k0 b) (k1 b) p r = (p, (sel b x).2.1.length, (sel b x).2.2) := by
  obtain ⟨e1, e2⟩ := tx_sel (b := b) h1 h2
  unfold cl
  rw [e1, e2, cs_len]
/-- what the law's walk has made behind some segments -/
def IV (b : Bool) (s : List Seg) (st : St2) : Prop :=
  (s = [] ∧ st = ([], 0, [])) ∨ ∃ A x, join s = A ++ [x] ∧ st.1 = row 0 (A.map (sel b)) ∧ st.2.1 = sl (A.map (sel b)) + x.1.length ∧ tx 1 st.2.2 = cs x.2.1 ∧ tx 2 st.2.2 = cs x.2.2 ∧ st.2.2 ≠ []
theorem ek0 {z : Str} : ∀ e ∈ ek 0 z, e.1 = 0 := fun e he => by
  obtain ⟨c, _, rfl⟩ := List.mem_map.mp he
  rfl
theorem ek12 {y z : Str} : ∀ e ∈ ek 1 y ++ ek 2 z, e.1 ≠ 0 := fun e he => by
  rcases List.mem_append.mp he with he | he
  · obtain ⟨c, _, rfl⟩ := List.mem_map.mp he
    exact Nat.one_ne_zero
  · obtain ⟨c, _, rfl⟩ := List.mem_map.mp he
    exact Nat.succ_ne_zero 1
theorem tx1_run (y z : Str) : tx 1 (ek 1 y ++ ek 2 z) = cs y := by
  rw [tx_app, tx_ek, tx_ek, if_pos rfl, if_neg (by decide), List.append_nil]
theorem tx2_run (y z : Str) : tx 2 (ek 1 y ++ ek 2 z) = cs z := by
  rw [tx_app, tx_ek, tx_ek, if_neg (by decide), if_pos rfl, List.nil_append]
theorem run_ne {y : Seg} (h : y.2.1 ≠ "" ∨ y.2.2 ≠ "") : ek 1 y.2.1 ++ ek 2 y.2.2 ≠ [] := fun z => by
  have l := congrArg List.length z
  rw [List.length_append, ek_len, ek_len] at l
  simp only [List.length_nil] at l
  rcases h with h | h
  · exact h (len0 (by omega))
  · exact h (len0 (by omega))
theorem row_last (b : Bool) (A : List Seg) (x : Seg) : row 0 ((A ++ [x]).map (sel b)) = row 0 (A.map (sel b)) ++ [(sl (A.map (sel b)) + x.1.length, (sel b x).2.1.length, (sel b x).2.2)] := by
  rw [List.map_append, row_app, Nat.zero_add, ← sel_1 b x]
  rfl
theorem sl_last (b : Bool) (A : List Seg) (x : Seg) : sl ((A ++ [x]).map (sel b)) = sl (A.map (sel b)) + (x.1.length + (sel b x).2.1.length) := by
  rw [List.map_append, sl_app]
  congr 1
  show sl [sel b x] = _
  rw [sl_one, sel_1]
theorem IV.step {b : Bool} {s : List Seg} {st : St2} {y : Seg} (h : IV b s st) (hy : y.2.1 ≠ "" ∨ y.2.2 ≠ "") : IV b (s ++ [y]) ((evs [y]).foldl (stp (k0 b) (k1 b)) st) := by
  right
  rw [evs_one, List.foldl_append, join_snoc]
  rcases h with ⟨rfl, rfl⟩ | ⟨A, x, hj, h1, h2, h3, h4, h5⟩
  · rw [fold_stay0 _ _ _ _ _ ek0, fold_run _ _ _ _ _ _ ek12, ek_len]
    refine ⟨[], y, rfl, rfl, ?_, tx1_run _ _, tx2_run _ _, run_ne hy⟩
    show 0 + y.1.length = sl [] + y.1.length
    rfl
  · obtain ⟨m, p, r⟩ := st
    dsimp only at h1 h2 h3 h4 h5
    rw [hj, add_snoc]
    by_cases g : y.1 = ""
    · rw [if_pos g]
      have e0 : ek 0 y.1 = [] := by rw [g]; rfl
      rw [e0, List.foldl_nil, fold_run _ _ _ _ _ _ ek12]
      refine ⟨A, mrg x y, rfl, h1, h2, ?_, ?_, fun z => h5 (List.append_eq_nil_iff.mp z).1⟩
      · show tx 1 (r ++ (ek 1 y.2.1 ++ ek 2 y.2.2)) = cs (x.2.1 ++ y.2.1)
        rw [tx_app, h3, tx1_run, cs_app]
      · show tx 2 (r ++ (ek 1 y.2.1 ++ ek 2 y.2.2)) = cs (x.2.2 ++ y.2.2)
        rw [tx_app, h4, tx2_run, cs_app]
    · rw [if_neg g]
      have hn : ek 0 y.1 ≠ [] := fun z => g (len0 (by rw [← ek_len 0, z]; rfl))
      rw [fold_stay1 _ _ ek0 hn h5, fold_run _ _ _ _ _ _ ek12, ek_len, cl_sel h3 h4]
      refine ⟨A ++ [x], y, rfl, ?_, ?_, tx1_run _ _, tx2_run _ _, run_ne hy⟩
      · show m ++ _ = _
        rw [row_last, h1, h2]
      · show p + (tx (k0 b) r).length + y.1.length = _
        rw [sl_last, h2, (tx_sel (b := b) h3 h4).1, cs_len]
        omega
theorem iv_all {b : Bool} : ∀ (r s : List Seg) (st : St2), NN r → IV b s st → IV b (s ++ r) ((evs r).foldl (stp (k0 b) (k1 b)) st)
  | [], s, st, _, h => by
    rw [List.append_nil]
    exact h
  | y :: r, s, st, hn, h => by
    have e : evs (y :: r) = evs [y] ++ evs r := evs_app [y] r
    rw [e, List.foldl_append]
    have z := iv_all r (s ++ [y]) _ (fun x hx => hn x (List.mem_cons_of_mem _ hx)) (h.step (hn y (by simp)))
    rw [List.append_assoc] at z
    exact z
theorem back_all {b : Bool} {s : List Seg} {l : List Ev} (hn : NN s) (hl : ∀ e ∈ l, e.1 = 0) (h0 : l ≠ []) : ((evs s ++ l).foldl (stp (k0 b) (k1 b)) ([], 0, [])).1 = row 0 ((join s).map (sel b)) := by
  have h := iv_all (b := b) s [] ([], 0, []) hn (.inl ⟨rfl, rfl⟩)
  rw [List.nil_append] at h
  rw [List.foldl_append]
  generalize (evs s).foldl (stp (k0 b) (k1 b)) ([], 0, []) = st at h ⊢
  obtain ⟨m, p, r⟩ := st
  rcases h with ⟨rfl, e⟩ | ⟨A, x, hj, h1, h2, h3, h4, h5⟩
  · rw [e, fold_stay0 _ _ _ _ _ hl]
    rfl
  · dsimp only at h1 h2 h3 h4 h5
    rw [fold_stay1 _ _ hl h0 h5, cl_sel h3 h4, hj, row_last, h1, h2]
end K15
namespace K15
open PySem PySem.Spec PyProof.Rows L2 Dk
/-- one step of a reading -/
local macro_rules | `(tactic| walk_at "rd1") => `(tactic| first
  | ((with_reducible refine r_var (v := ?rv) ?rh ?_); (case rh => rfl))
  | with_reducible refine r_c ?_
  | with_reducible refine r_seq ?_
  | with_reducible refine r_asg ?_
  | with_reducible refine r_par ?_
  | with_reducible refine r_gname ?_
  | with_reducible refine r_op ?_
  | with_reducible refine r_forLo ?_
  | with_reducible refine r_forTo ?_
  | with_reducible refine r_forSo ?_
  | with_reducible refine r_forRo ?_
  | with_reducible refine r_forRvo ?_
  | with_reducible refine r_forZo ?_
  | with_reducible refine r_revS ?_
  | with_reducible refine r_lcRo ?_
  | with_reducible refine r_lcLo ?_
  | with_reducible refine r_yes ?_
  | with_reducible refine r_callK0 ?_
  | with_reducible refine r_break ?_
  | with_reducible refine r_forR2o ?_
  | with_reducible refine r_forEo ?_
  | with_reducible refine r_forESo ?_
  | with_reducible refine r_xfo ?_
  | with_reducible refine r_noP ?_
  | with_reducible refine r_part ?_
  | with_reducible refine r_pI ?_
  | with_reducible refine r_gcons ?_
  | with_reducible refine r_gnil ?_
  | with_reducible refine r_mkO ?_
  | with_reducible refine r_un ?_
  | with_reducible refine r_addI ?_
  | with_reducible refine r_I0 ?_
  | with_reducible refine r_U ?_
  | with_reducible refine r_cons ?_
  | with_reducible refine r_nil ?_
  | with_reducible refine r_CB ?_
  | with_reducible refine r_call ?_
  | with_reducible refine r_callS ?_
  | with_reducible refine r_int ?_
  | with_reducible refine r_max ?_
  | with_reducible refine r_min ?_
  | with_reducible refine r_test ?_
  | with_reducible refine r_B ?_
  | with_reducible refine r_blv ?_
  | with_reducible refine r_and ?_
  | with_reducible refine r_or ?_
  | with_reducible refine r_not ?_
  | with_reducible refine r_andV ?_
  | with_reducible refine r_orV ?_
  | with_reducible refine r_notV ?_
  | with_reducible refine r_ifE ?_
  | with_reducible refine r_ifS ?_
  | with_reducible refine r_ret ?_
  | with_reducible refine r_retN ?_
  | with_reducible refine r_drop ?_
  | with_reducible refine r_next ?_
  | with_reducible refine r_sl ?_
  | with_reducible refine r_gsub ?_
  | with_reducible refine r_bm ?_
  | with_reducible refine r_tup ?_
  | with_reducible refine r_lst ?_
  | with_reducible refine r_isN ?_
  | with_reducible refine r_notN ?_
  | with_reducible refine r_itt ?_
  | with_reducible refine r_iff ?_
  | with_reducible refine r_ittN ?_
  | with_reducible refine r_iffN ?_
  | ((with_reducible refine r_ittD ?rh ?_); (case rh => rfl))
  | ((with_reducible refine r_iffD ?rh ?_); (case rh => rfl))
  | ((with_reducible refine r_modP ?rh ?_); (case rh => decide))
  | ((with_reducible refine r_eq ?rh ?_); (case rh => rfl))
  | ((with_reducible refine r_eqP ?rh ?_); (case rh => rfl))
  | ((with_reducible refine r_ne ?rh ?_); (case rh => rfl)))
local macro_rules | `(tactic| walk_at "rd") => `(tactic| repeat walk_at "rd1")
local macro_rules | `(tactic| walk_at "isi") => `(tactic| first | refine r_isi (b := true) (by assumption) (by decide +kernel) ?_ | refine r_isi (b := false) (by assumption) (by decide +kernel) ?_)
local macro_rules | `(tactic| walk_at "rs1") => `(tactic| first
  | with_reducible refine r_seq ?_
  | with_reducible refine r_asg ?_
  | with_reducible refine r_gname ?_
  | with_reducible refine r_ret ?_)
local macro_rules | `(tactic| walk_at "rs") => `(tactic| repeat walk_at "rs1")

local macro_rules | `(tactic| walk_at "rd1") => `(tactic| with_reducible refine r_lcSo ?_)
theorem ek_take {k i c : Nat} {z : Str} (h : (cs z)[i]? = some c) : (ek k z).take (i + 1) = (ek k z).take i ++ [(k, c)] := by
  unfold ek
  rw [List.take_add_one, List.getElem?_map, h]
  rfl
theorem gap_eq {s : List Seg} {u : List Nat} {i : Nat} {y : Seg} (h : s[i]? = some y) : ((src s u).drop (sl (s.take i))).take y.1.length = cs y.1 := by
  have e : src s u = src (s.take i) [] ++ (cs y.1 ++ (cs y.2.1 ++ src (s.drop (i + 1)) u)) := by
    have z : src s u = src (s.take i ++ y :: s.drop (i + 1)) u := congrArg (fun q => src q u) (split_at h)
    rw [z, src_app, src_out (s.take i)]
    rfl
  rw [e, List.drop_left' (show (src (s.take i) []).length = sl (s.take i) from rfl), List.take_left' (cs_len _)]
theorem nm_inj {a c : Nat} (ha : a ≤ 2) (hc : c ≤ 2) : nm a = nm c ↔ a = c := by
  have h1 : a = 0 ∨ a = 1 ∨ a = 2 := by omega
  have h2 : c = 0 ∨ c = 1 ∨ c = 2 := by omega
  rcases h1 with rfl | rfl | rfl <;> rcases h2 with rfl | rfl | rfl <;> decide +kernel
theorem k0_le (b : Bool) : k0 b ≤ 2 := by cases b <;> decide
theorem k1_le (b : Bool) : k1 b ≤ 2 := by cases b <;> decide
theorem filter_take {k i : Nat} {r : List Ev} {e : Ev} (h : r[i]? = some e) : (r.take (i + 1)).filter (fun e => decide (e.1 = k)) = (r.take i).filter (fun e => decide (e.1 = k)) ++ (if e.1 = k then [e] else []) := by
  rw [List.take_add_one, h, List.filter_append]
  congr 1
  by_cases c : e.1 = k
  · rw [if_pos c]
    show List.filter _ [e] = [e]
    rw [List.filter_cons, decide_eq_true c]
    rfl
  · rw [if_neg c]
    show List.filter _ [e] = []
    rw [List.filter_cons, decide_eq_false c]
    rfl
theorem sgn_join (r : List Ev) (k : Nat) : cs (Txt.join "" ((r.filter fun e => decide (e.1 = k)).map fun e => (⟨#[e.2]⟩ : Str))) = tx k r := by
  rw [cs_join, List.map_map]
  unfold tx
  induction r.filter fun e => decide (e.1 = k) with
  | nil => rfl
  | cons e l ih =>
    rw [List.map_cons, List.flatten_cons, ih]
    rfl
section
variable {P : Program} {w : World} {K : PySem.W.Frag} {mg : Str → Option Value} {base : Heap}
def spLBack : Sp := fun vs H Q _ => ∃ (z : Str) (p : Addr) (b : Bool) (xs : List V) (s : List Seg) (u : List Nat), vs = [.str z, .ref p, .bl b] ∧ H p = some (.lst xs) ∧ P2 (SpcV H) xs (row 0 s) ∧ cs z = src s u ∧ z.length ≤ 8000 ∧ dl s ≤ 8000 ∧ NN s ∧
  ∀ w H', Ex H H' → TupV SpcV H' w (row 0 ((join s).map (sel b))) → Q w H'
theorem ok_law_back (T : Txt K mg) : FnOk P w K mg base CX0 1 T.a_law_back T.d_law_back ["_law_text", "_law_row", "_law_turned"] spLBack := by
  refine T.F_law_back.ok sc_law_back (fun vs H Q E h => ?_) (fun cdv A outer s H vs Q E hr h => ?_)
  · obtain ⟨z, p, b, xs, s, u, rfl, _⟩ := h
    rfl
  · obtain ⟨z, p, b, vs, s, u, rfl, hp, hV, hz, z8, d8, hn, q⟩ := h
    refine ⟨_, (pss_cons (ps_set (i := 3) sc_law_back.nd rfl (Or.inl rfl) (pe_lst pa_nil))
        (pss_cons (ps_set (i := 4) sc_law_back.nd rfl (Or.inl rfl) pe_int)
        (pss_cons (ps_for PassesOwn.never rfl (pi_list (pv 1)) (pg_name (i := 5) sc_law_back.nd rfl (Or.inl rfl)) (pss_cons (ps_expr (pe_bm PySem.F.plainAttrs_list PySem.F.slot_list_extend PySem.F.type_list_extend mt_extend (pv 3) (pa_cons (pe_lc (own := [("_law_c", 12)]) (g := gName 12) rfl sc_law_back.nd (pi_str (pe_slice sl_U (pv 0) (po_some (pv 4)) (po_some (pe_ix ix_seq (pv 5) pe_int (fun _ _ => rfl))))) (blkOk_by (N := N_law_back) (sc := defScope s_law_back) (by decide +kernel)) (fun _ _ _ _ _ => pg_name (i := 12) sc_law_back.nd rfl (Or.inl rfl)) (fun _ _ _ _ _ => pts_nil) (fun _ _ _ _ _ => (pe_tup (pa_cons pe_str (pa_cons (pv 12) pa_nil))))) pa_nil)))
        (pss_cons (ps_expr (pe_bm PySem.F.plainAttrs_list PySem.F.slot_list_extend PySem.F.type_list_extend mt_extend (pv 3) (pa_cons (pe_lc (own := [("_law_c", 12)]) (g := gName 12) rfl sc_law_back.nd (pi_str (pe_slice sl_U (pv 0) (po_some (pe_ix ix_seq (pv 5) pe_int (fun _ _ => rfl))) (po_some (pe_op op_addU (pe_ix ix_seq (pv 5) pe_int (fun _ _ => rfl)) (pe_ix ix_seq (pv 5) pe_int (fun _ _ => rfl)))))) (blkOk_by (N := N_law_back) (sc := defScope s_law_back) (by decide +kernel)) (fun _ _ _ _ _ => pg_name (i := 12) sc_law_back.nd rfl (Or.inl rfl)) (fun _ _ _ _ _ => pts_nil) (fun _ _ _ _ _ => (pe_tup (pa_cons pe_str (pa_cons (pv 12) pa_nil))))) pa_nil)))
        (pss_cons (ps_expr (pe_bm PySem.F.plainAttrs_list PySem.F.slot_list_extend PySem.F.type_list_extend mt_extend (pv 3) (pa_cons (pe_lc (own := [("_law_c", 12)]) (g := gName 12) rfl sc_law_back.nd (pi_str (pe_ix ix_seq (pv 5) pe_int (fun _ _ => rfl))) (blkOk_by (N := N_law_back) (sc := defScope s_law_back) (by decide +kernel)) (fun _ _ _ _ _ => pg_name (i := 12) sc_law_back.nd rfl (Or.inl rfl)) (fun _ _ _ _ _ => pts_nil) (fun _ _ _ _ _ => (pe_tup (pa_cons pe_str (pa_cons (pv 12) pa_nil))))) pa_nil)))
        (pss_one (ps_set (i := 4) sc_law_back.nd rfl (Or.inl rfl) (pe_op op_addU (pe_ix ix_seq (pv 5) pe_int (fun _ _ => rfl)) (pe_ix ix_seq (pv 5) pe_int (fun _ _ => rfl)))))))))
        (pss_cons (ps_expr (pe_bm PySem.F.plainAttrs_list PySem.F.slot_list_extend PySem.F.type_list_extend mt_extend (pv 3) (pa_cons (pe_lc (own := [("_law_c", 12)]) (g := gName 12) rfl sc_law_back.nd (pi_str (pe_slice sl_U (pv 0) (po_some (pv 4)) po_none)) (blkOk_by (N := N_law_back) (sc := defScope s_law_back) (by decide +kernel)) (fun _ _ _ _ _ => pg_name (i := 12) sc_law_back.nd rfl (Or.inl rfl)) (fun _ _ _ _ _ => pts_nil) (fun _ _ _ _ _ => (pe_tup (pa_cons pe_str (pa_cons (pv 12) pa_nil))))) pa_nil)))
        (pss_cons (ps_expr (pe_bm PySem.F.plainAttrs_list PySem.F.slot_list_append PySem.F.type_list_append mt_append (pv 3) (pa_cons (pe_tup (pa_cons pe_str (pa_cons pe_str pa_nil))) pa_nil)))
        (pss_cons (ps_set (i := 6) sc_law_back.nd rfl (Or.inr rfl) (pe_lst (pa_cons pe_str (pa_cons pe_str pa_nil))))
        (Evl.pss_cut (ps_if (pt_val (pv 2)) (pss_one (ps_set (i := 6) sc_law_back.nd rfl (Or.inr rfl) (pe_lst (pa_cons pe_str (pa_cons pe_str pa_nil))))) pss_nil)
        (pss_cons (ps_set (i := 7) sc_law_back.nd rfl (Or.inl rfl) (pe_lst pa_nil))
        (pss_cons (ps_set (i := 8) sc_law_back.nd rfl (Or.inl rfl) pe_int)
        (pss_cons (ps_set (i := 9) sc_law_back.nd rfl (Or.inl rfl) (pe_lst pa_nil))
        (pss_cons (ps_for PassesOwn.never rfl (pi_list (pv 3)) (pg_name (i := 10) sc_law_back.nd rfl (Or.inl rfl)) (pss_one (ps_if (pt_cmpR (op_neU hr.units) (pe_ix ix_seq (pv 10) pe_int (fun _ _ => rfl)) pe_str (nomark _)) (pss_one (ps_expr (pe_bm PySem.F.plainAttrs_list PySem.F.slot_list_append PySem.F.type_list_append mt_append (pv 9) (pa_cons (pv 10) pa_nil)))) (Evl.pss_cut (ps_if (pt_cmpR op_gt (pe_callB call_lenU (by rfl) T.n_len (by decide +kernel) (pa_cons (pv 9) pa_nil)) pe_int (nomark _)) (pss_cons (ps_set (i := 11) sc_law_back.nd rfl (Or.inl rfl) (pe_callB call_lenU (by rfl) T.n_len (by decide +kernel) (pa_cons (pe_lc (own := [("_law_e", 13)]) (g := gName 13) rfl sc_law_back.nd (pi_list (pv 9)) (blkOk_by (N := N_law_back) (sc := defScope s_law_back) (by decide +kernel)) (fun _ _ _ _ _ => pg_name (i := 13) sc_law_back.nd rfl (Or.inl rfl)) (fun _ _ _ _ _ => (pts_one (pt_cmpR (k_eqU (K := K) rfl hr.units) (pe_ix (k_ix (K := K) rfl) (pv 13) pe_int (fun _ _ => rfl)) (pe_ix (k_ix (K := K) rfl) (pv 6) pe_int (fun _ _ => rfl)) (nomark _)))) (fun _ _ _ _ _ => (pv 13))) pa_nil)))
        (pss_cons (ps_expr (pe_bm PySem.F.plainAttrs_list PySem.F.slot_list_append PySem.F.type_list_append mt_append (pv 7) (pa_cons (pe_tup (pa_cons (pv 8) (pa_cons (pv 11) (pa_cons (pe_join pe_str (pe_lc (own := [("_law_e", 13)]) (g := gName 13) rfl sc_law_back.nd (pi_list (pv 9)) (blkOk_by (N := N_law_back) (sc := defScope s_law_back) (by decide +kernel)) (fun _ _ _ _ _ => pg_name (i := 13) sc_law_back.nd rfl (Or.inl rfl)) (fun _ _ _ _ _ => (pts_one (pt_cmpR (k_eqU (K := K) rfl hr.units) (pe_ix (k_ix (K := K) rfl) (pv 13) pe_int (fun _ _ => rfl)) (pe_ix (k_ix (K := K) rfl) (pv 6) pe_int (fun _ _ => rfl)) (nomark _)))) (fun _ _ _ _ _ => (pe_ix (k_ix (K := K) rfl) (pv 13) pe_int (fun _ _ => rfl))))) pa_nil)))) pa_nil)))
        (pss_one (ps_set (i := 8) sc_law_back.nd rfl (Or.inl rfl) (pe_op op_addU (pv 8) (pv 11)))))) pss_nil)
        (pss_cons (ps_set (i := 9) sc_law_back.nd rfl (Or.inl rfl) (pe_lst pa_nil))
        (pss_one (ps_set (i := 8) sc_law_back.nd rfl (Or.inl rfl) (pe_op op_addU (pv 8) pe_int))))))))
        (pss_one (ps_ret (pe_callTy call_tupU (by rfl) T.n_tuple (by decide +kernel) (pa_cons (pv 7) pa_nil))))))))))))))), ?_⟩
    have vl := hV.len
    rw [row_len] at vl
    have slz := src_len s u
    rw [← hz, cs_len] at slz
    walk_at "rd"
    refine r_small nsz fun m hm => ?_
    walk_at "rd"
    have e0 := Same.new (o := .lst []) (Same.refl H) hm
    refine l_L (sqL (e0 _ _ hp)) (fun i σ H' => ∃ (y5 : Option V) (xs : List V), σ = [some (.str z), some (.ref p), some (.bl b), some (.ref m), some (.int (sl (s.take i) : Nat)), y5, none, none, none, none, none, none, none, none] ∧ Ex H H' ∧ H' m = some (.lst xs) ∧ P2 (EvV H') xs (evs (s.take i))) ⟨none, [], rfl, e0, upd_same, .nil⟩ (fun i σ H' hW => ?_) (fun i v σ HC hv hW => ?_) (fun σ HC hW => ?_)
    · obtain ⟨_, _, _, e, _⟩ := hW
      exact sqL (e _ _ hp)
    · obtain ⟨y5, xs, rfl, e, hm', hP⟩ := hW
      have hi : i < s.length := by rw [← vl]; exact (List.getElem?_eq_some_iff.mp hv).1
      obtain ⟨y, hy⟩ : ∃ y, s[i]? = some y := ⟨_, List.getElem?_eq_getElem hi⟩
      obtain ⟨x', hx', pv, rfl, hpv⟩ := hV.get hv
      rw [row_at hy, Nat.zero_add] at hx'
      have ex' := (Option.some.inj hx').symm
      subst ex'
      dsimp only at hpv
      have lost := lost_eq (u := u) hy
      have gap := gap_eq (u := u) hy
      have s1 := sl_split hy
      have d1 := dl_split hy
      have tsn := take_snoc hy
      have sl1 : sl (s.take (i + 1)) = sl (s.take i) + (y.1.length + y.2.1.length) := by rw [tsn, sl_app, sl_one]
      have xl := hP.len
      have xle := evs_len (s.take i)
      have y1 : y.1.length ≤ 8000 := by omega
      have y2 : y.2.1.length ≤ 8000 := by omega
      have y3 : y.2.2.length ≤ 8000 := by omega
      have d9 := dl_split hy
      obtain ⟨at_, hat⟩ : ∃ a, a = sl (s.take i) + y.1.length := ⟨_, rfl⟩
      rw [← hat] at hpv lost
      walk_at "rd"
      refine r_tyL (sqL hm') ?_
      walk_at "rd"
      refine r_ixT (sqT (e _ _ hpv)) (atI_nat (j := 0) rfl) ?_
      walk_at "rd"
      refine r_slS (small8 z8) ?_
      have eg : cutS z (some ((sl (s.take i) : Nat) : Int)) (some (at_ : Int)) = y.1 := cs_ext (by
        rw [cs_cut, hat, Nat.add_sub_cancel_left, hz]
        exact gap)
      rw [eg]
      refine l_lcS (fun D i H' => ∃ acc, Ex HC H' ∧ H' D = some (.lst acc) ∧ P2 (EvV H') acc ((ek 0 y.1).take i)) (fun D hD => ⟨[], Same.new (Same.refl HC) hD, upd_same, .nil⟩) (fun D i c H' hD hc hW => ?_) (fun D HD hD hW => ?_)
      · obtain ⟨acc, ec, hD', hA⟩ := hW
        have ci := (List.getElem?_eq_some_iff.mp hc).1
        rw [cs_len] at ci
        walk_at "rd"
        refine ⟨rfl, ?_⟩
        walk_at "rd"
        refine r_small nsz fun pt nt => ?_
        obtain ⟨H2, k2, e2, h2⟩ := nL (.tup [.str (nm 0), .str ⟨#[c]⟩]) nt
        have k2' : H2 = upd H' pt (.tup [.str "stay", .str ⟨#[c]⟩]) := k2
        rw [← k2']
        have al := hA.len
        rw [List.length_take, ek_len] at al
        have t := Tk.put (o := .lst (acc ++ [.ref pt])) (e2 _ _ hD')
        refine ⟨acc, e2 _ _ hD', Nat.lt_of_le_of_lt (show acc.length ≤ 8000 by omega) (by decide), acc ++ [.ref pt], Same.mut (ec.trans e2) hD, upd_same, ?_⟩
        rw [ek_take hc]
        exact (p2_imm ((Tk.ex e2).trans t) hA).snoc (imm t ⟨pt, ⟨#[c]⟩, rfl, h2, (show (0 : Nat) ≤ 2 by decide), fun _ => rfl⟩)
      obtain ⟨acc, ec, hD', hA⟩ := hW
      rw [List.take_of_length_le (by rw [ek_len]; exact Nat.le_refl _)] at hA
      have al := hA.len
      rw [ek_len] at al
      walk_at "rd"
      obtain ⟨x1, hx1⟩ : ∃ y, y = xs ++ acc := ⟨_, rfl⟩
      obtain ⟨H1, kN⟩ : ∃ y, y = upd HD m (.lst x1) := ⟨_, rfl⟩
      have mD := ec _ _ hm'
      refine ⟨m, D, xs, acc, rfl, rfl, mD, hD', Nat.le_trans (show xs.length + acc.length ≤ 60000 by omega) (by decide), ?_⟩
      rw [← hx1, ← kN]
      have e1 : Ex H H1 := by rw [kN]; exact Same.mut (e.trans ec) hm
      have m1 : H1 m = some (.lst x1) := by rw [kN]; exact upd_same
      have P1 : P2 (EvV H1) x1 (evs (s.take i) ++ ek 0 y.1) := by
        rw [kN, hx1]
        have tp := Tk.put (o := .lst (xs ++ acc)) mD
        exact (p2_imm ((Tk.ex ec).trans tp) hP).app (p2_imm tp hA)
      have l1 : x1.length = xs.length + acc.length := by rw [hx1, List.length_append]
      clear hx1 kN
      walk_at "rd"
      refine r_tyL (sqL m1) ?_
      walk_at "rd"
      refine r_ixT (sqT (e1 _ _ hpv)) (atI_nat (j := 0) rfl) ?_
      walk_at "rd"
      refine r_ixT (sqT (e1 _ _ hpv)) (atI_nat (j := 0) rfl) ?_
      walk_at "rd"
      refine r_ixT (sqT (e1 _ _ hpv)) (atI_nat (j := 1) rfl) ?_
      walk_at "rd"
      refine r_slS (small8 z8) ?_
      have el : cutS z (some (at_ : Int)) (some ((at_ : Int) + (y.2.1.length : Nat))) = y.2.1 := cs_ext (by
        rw [show ((at_ : Int) + ((y.2.1.length : Nat) : Int)) = ((at_ + y.2.1.length : Nat) : Int) by omega, cs_cut, Nat.add_sub_cancel_left, hz]
        exact lost)
      rw [el]
      refine l_lcS (fun D i H' => ∃ acc, Ex H1 H' ∧ H' D = some (.lst acc) ∧ P2 (EvV H') acc ((ek 1 y.2.1).take i)) (fun D hD => ⟨[], Same.new (Same.refl H1) hD, upd_same, .nil⟩) (fun D i c H' hD hc hW => ?_) (fun D HD1 hD hW => ?_)
      · obtain ⟨acc, ec, hD', hA⟩ := hW
        have ci := (List.getElem?_eq_some_iff.mp hc).1
        rw [cs_len] at ci
        walk_at "rd"
        refine ⟨rfl, ?_⟩
        walk_at "rd"
        refine r_small nsz fun pt nt => ?_
        obtain ⟨H2, k2, e2, h2⟩ := nL (.tup [.str (nm 1), .str ⟨#[c]⟩]) nt
        have k2' : H2 = upd H' pt (.tup [.str "cut", .str ⟨#[c]⟩]) := k2
        rw [← k2']
        have al := hA.len
        rw [List.length_take, ek_len] at al
        have t := Tk.put (o := .lst (acc ++ [.ref pt])) (e2 _ _ hD')
        refine ⟨acc, e2 _ _ hD', Nat.lt_of_le_of_lt (show acc.length ≤ 8000 by omega) (by decide), acc ++ [.ref pt], Same.mut (ec.trans e2) hD, upd_same, ?_⟩
        rw [ek_take hc]
        exact (p2_imm ((Tk.ex e2).trans t) hA).snoc (imm t ⟨pt, ⟨#[c]⟩, rfl, h2, (show (1 : Nat) ≤ 2 by decide), fun _ => rfl⟩)
      obtain ⟨acc, ec, hD', hA⟩ := hW
      rw [List.take_of_length_le (by rw [ek_len]; exact Nat.le_refl _)] at hA
      have al := hA.len
      rw [ek_len] at al
      walk_at "rd"
      obtain ⟨x2, hx2⟩ : ∃ y, y = x1 ++ acc := ⟨_, rfl⟩
      obtain ⟨H2a, kN⟩ : ∃ y, y = upd HD1 m (.lst x2) := ⟨_, rfl⟩
      have mD := ec _ _ m1
      refine ⟨m, D, x1, acc, rfl, rfl, mD, hD', Nat.le_trans (show x1.length + acc.length ≤ 60000 by omega) (by decide), ?_⟩
      rw [← hx2, ← kN]
      have e2a : Ex H H2a := by rw [kN]; exact Same.mut (e1.trans ec) hm
      have m2 : H2a m = some (.lst x2) := by rw [kN]; exact upd_same
      have P2a : P2 (EvV H2a) x2 (evs (s.take i) ++ ek 0 y.1 ++ ek 1 y.2.1) := by
        rw [kN, hx2]
        have tp := Tk.put (o := .lst (x1 ++ acc)) mD
        exact (p2_imm ((Tk.ex ec).trans tp) P1).app (p2_imm tp hA)
      have l2 : x2.length = x1.length + acc.length := by rw [hx2, List.length_append]
      clear hx2 kN
      walk_at "rd"
      refine r_tyL (sqL m2) ?_
      walk_at "rd"
      refine r_ixT (sqT (e2a _ _ hpv)) (atI_nat (j := 2) rfl) ?_
      walk_at "rd"
      refine l_lcS (fun D i H' => ∃ acc, Ex H2a H' ∧ H' D = some (.lst acc) ∧ P2 (EvV H') acc ((ek 2 y.2.2).take i)) (fun D hD => ⟨[], Same.new (Same.refl H2a) hD, upd_same, .nil⟩) (fun D i c H' hD hc hW => ?_) (fun D HD2 hD hW => ?_)
      · obtain ⟨acc, ec, hD', hA⟩ := hW
        have ci := (List.getElem?_eq_some_iff.mp hc).1
        rw [cs_len] at ci
        walk_at "rd"
        refine ⟨rfl, ?_⟩
        walk_at "rd"
        refine r_small nsz fun pt nt => ?_
        obtain ⟨H2, k2, e2, h2⟩ := nL (.tup [.str (nm 2), .str ⟨#[c]⟩]) nt
        have k2' : H2 = upd H' pt (.tup [.str "put", .str ⟨#[c]⟩]) := k2
        rw [← k2']
        have al := hA.len
        rw [List.length_take, ek_len] at al
        have t := Tk.put (o := .lst (acc ++ [.ref pt])) (e2 _ _ hD')
        refine ⟨acc, e2 _ _ hD', Nat.lt_of_le_of_lt (show acc.length ≤ 8000 by omega) (by decide), acc ++ [.ref pt], Same.mut (ec.trans e2) hD, upd_same, ?_⟩
        rw [ek_take hc]
        exact (p2_imm ((Tk.ex e2).trans t) hA).snoc (imm t ⟨pt, ⟨#[c]⟩, rfl, h2, (show (2 : Nat) ≤ 2 by decide), fun _ => rfl⟩)
      obtain ⟨acc, ec, hD', hA⟩ := hW
      rw [List.take_of_length_le (by rw [ek_len]; exact Nat.le_refl _)] at hA
      have al := hA.len
      rw [ek_len] at al
      walk_at "rd"
      obtain ⟨x3, hx3⟩ : ∃ y, y = x2 ++ acc := ⟨_, rfl⟩
      obtain ⟨H3a, kN⟩ : ∃ y, y = upd HD2 m (.lst x3) := ⟨_, rfl⟩
      have mD := ec _ _ m2
      refine ⟨m, D, x2, acc, rfl, rfl, mD, hD', Nat.le_trans (show x2.length + acc.length ≤ 60000 by omega) (by decide), ?_⟩
      rw [← hx3, ← kN]
      have e3a : Ex H H3a := by rw [kN]; exact Same.mut (e2a.trans ec) hm
      have m3 : H3a m = some (.lst x3) := by rw [kN]; exact upd_same
      have P3a : P2 (EvV H3a) x3 (evs (s.take i) ++ ek 0 y.1 ++ ek 1 y.2.1 ++ ek 2 y.2.2) := by
        rw [kN, hx3]
        have tp := Tk.put (o := .lst (x2 ++ acc)) mD
        exact (p2_imm ((Tk.ex ec).trans tp) P2a).app (p2_imm tp hA)
      have l3 : x3.length = x2.length + acc.length := by rw [hx3, List.length_append]
      clear hx3 kN
      walk_at "rd"
      refine r_ixT (sqT (e3a _ _ hpv)) (atI_nat (j := 0) rfl) ?_
      walk_at "rd"
      refine r_ixT (sqT (e3a _ _ hpv)) (atI_nat (j := 1) rfl) ?_
      walk_at "rd"
      rw [show ((at_ : Nat) : Int) + ((y.2.1.length : Nat) : Int) = ((sl (s.take (i + 1)) : Nat) : Int) by omega]
      refine ⟨_, x3, rfl, e3a, m3, ?_⟩
      rw [tsn, evs_app, evs_one]
      simp only [List.append_assoc] at P3a ⊢
      exact P3a
    · obtain ⟨y5, xs, rfl, e, hm', hP⟩ := hW
      rw [vl, List.take_length] at hP
      have xl := hP.len
      have xle := evs_len s
      walk_at "rd"
      refine r_tyL (sqL hm') ?_
      walk_at "rd"
      refine r_slS (small8 z8) ?_
      rw [vl, List.take_length]
      obtain ⟨zu, hzu⟩ : ∃ zu, zu = cutS z (some ((sl s : Nat) : Int)) none := ⟨_, rfl⟩
      rw [← hzu]
      have zul : zu.length ≤ 8000 := by rw [hzu]; exact Nat.le_trans (cut_len _ _ _) z8
      refine l_lcS (fun D i H' => ∃ acc, Ex HC H' ∧ H' D = some (.lst acc) ∧ P2 (EvV H') acc ((ek 0 zu).take i)) (fun D hD => ⟨[], Same.new (Same.refl HC) hD, upd_same, .nil⟩) (fun D i c H' hD hc hW => ?_) (fun D HD hD hW => ?_)
      · obtain ⟨acc, ec, hD', hA⟩ := hW
        have ci := (List.getElem?_eq_some_iff.mp hc).1
        rw [cs_len] at ci
        walk_at "rd"
        refine ⟨rfl, ?_⟩
        walk_at "rd"
        refine r_small nsz fun pt nt => ?_
        obtain ⟨H2, k2, e2, h2⟩ := nL (.tup [.str (nm 0), .str ⟨#[c]⟩]) nt
        have k2' : H2 = upd H' pt (.tup [.str "stay", .str ⟨#[c]⟩]) := k2
        rw [← k2']
        have al := hA.len
        rw [List.length_take, ek_len] at al
        have t := Tk.put (o := .lst (acc ++ [.ref pt])) (e2 _ _ hD')
        refine ⟨acc, e2 _ _ hD', Nat.lt_of_le_of_lt (show acc.length ≤ 8000 by omega) (by decide), acc ++ [.ref pt], Same.mut (ec.trans e2) hD, upd_same, ?_⟩
        rw [ek_take hc]
        exact (p2_imm ((Tk.ex e2).trans t) hA).snoc (imm t ⟨pt, ⟨#[c]⟩, rfl, h2, (show (0 : Nat) ≤ 2 by decide), fun _ => rfl⟩)
      obtain ⟨acc, ec, hD', hA⟩ := hW
      rw [List.take_of_length_le (by rw [ek_len]; exact Nat.le_refl _)] at hA
      have al := hA.len
      rw [ek_len] at al
      walk_at "rd"
      obtain ⟨x1, hx1⟩ : ∃ y, y = xs ++ acc := ⟨_, rfl⟩
      obtain ⟨H1, kN⟩ : ∃ y, y = upd HD m (.lst x1) := ⟨_, rfl⟩
      have mD := ec _ _ hm'
      refine ⟨m, D, xs, acc, rfl, rfl, mD, hD', Nat.le_trans (show xs.length + acc.length ≤ 60000 by omega) (by decide), ?_⟩
      rw [← hx1, ← kN]
      have e1 : Ex H H1 := by rw [kN]; exact Same.mut (e.trans ec) hm
      have m1 : H1 m = some (.lst x1) := by rw [kN]; exact upd_same
      have P1 : P2 (EvV H1) x1 (evs s ++ ek 0 zu) := by
        rw [kN, hx1]
        have tp := Tk.put (o := .lst (xs ++ acc)) mD
        exact (p2_imm ((Tk.ex ec).trans tp) hP).app (p2_imm tp hA)
      have l1 : x1.length = xs.length + acc.length := by rw [hx1, List.length_append]
      clear hx1 kN
      walk_at "rd"
      refine r_tyL (sqL m1) ?_
      walk_at "rd"
      refine r_small nsz fun pe ne => ?_
      obtain ⟨H2, k2, e2, h2⟩ := nL (.tup [.str (nm 0), .str ""]) ne
      have k2' : H2 = upd H1 pe (.tup [.str "stay", .str ""]) := k2
      rw [← k2']
      walk_at "rd"
      have m2 := e2 _ _ m1
      refine r_app m2 (Nat.lt_of_le_of_lt (show x1.length ≤ 60000 by omega) (by decide)) ?_
      obtain ⟨es, hes⟩ : ∃ es, es = x1 ++ [.ref pe] := ⟨_, rfl⟩
      rw [← hes]
      obtain ⟨H3, k3⟩ : ∃ y, y = upd H2 m (.lst es) := ⟨_, rfl⟩
      rw [← k3]
      have e3 : Ex H H3 := by rw [k3]; exact Same.mut (e1.trans e2) hm
      have m3 : H3 m = some (.lst es) := by rw [k3]; exact upd_same
      obtain ⟨EL, hEL⟩ : ∃ EL, EL = evs s ++ (ek 0 zu ++ [(0, 0)]) := ⟨_, rfl⟩
      have P3 : P2 (EvV H3) es EL := by
        rw [k3, hes, hEL, ← List.append_assoc]
        have tp := Tk.put (o := .lst (x1 ++ [.ref pe])) m2
        exact (p2_imm ((Tk.ex e2).trans tp) P1).snoc (imm tp ⟨pe, "", rfl, h2, (by decide), fun h => absurd rfl h⟩)
      have esl : es.length ≤ 60000 := by rw [hes, List.length_append, l1]; simp; omega
      have fin := back_all (b := b) (s := s) (l := ek 0 zu ++ [(0, 0)]) hn (fun x hx => by
        rcases List.mem_append.mp hx with hx | hx
        · exact ek0 x hx
        · rw [List.mem_singleton.mp hx]) (by simp)
      rw [← hEL] at fin
      clear hes k3 k2 k2'
      walk_at "rd"
      refine r_small nsz fun tk1 nt1 => ?_
      walk_at "rd"
      have e4 := Same.new (o := .lst [.str "put", .str "cut"]) (Same.refl H3) nt1
      refine ⟨fun σ H' => ∃ tk, σ = [some (.str z), some (.ref p), some (.bl b), some (.ref m), some (.int (sl s : Nat)), y5, some (.ref tk), none, none, none, none, none, none, none] ∧ Ex H3 H' ∧ H' tk = some (.lst [.str (nm (k0 b)), .str (nm (k1 b))]), ?_, ?_⟩
      · cases b
        · walk_at "rd"
          exact ⟨tk1, rfl, e4, upd_same⟩
        · walk_at "rd"
          refine r_small nsz fun tk2 nt2 => ?_
          exact ⟨tk2, rfl, Same.new e4 nt2, upd_same⟩
      rintro σ H5 ⟨tk, rfl, e5, htk⟩
      have m5 := e5 _ _ m3
      have P5 := p2_imm (.ex e5) P3
      walk_at "rd"
      refine r_small nsz fun md nmd => ?_
      obtain ⟨H6, k6, e6, h6⟩ := nL (.lst []) nmd
      rw [← k6]
      walk_at "rd"
      refine r_small nsz fun rn nrn => ?_
      obtain ⟨H7, k7, e7, h7⟩ := nL (.lst []) nrn
      rw [← k7]
      walk_at "rd"
      have e57 := e6.trans e7
      have rmd : rn ≠ md := fun h => by rw [h, h6] at nrn; cases nrn
      refine l_L (sqL (e57 _ _ m5)) (fun j σ H' => ∃ (y10 y11 : Option V) (rn : Addr) (rs ms : List V) (st : St2), σ = [some (.str z), some (.ref p), some (.bl b), some (.ref m), some (.int (sl s : Nat)), y5, some (.ref tk), some (.ref md), some (.int (st.2.1 : Nat)), some (.ref rn), y10, y11, none, none] ∧ Ex H5 H' ∧ H' md = some (.lst ms) ∧ P2 (SpcV H') ms st.1 ∧ H' rn = some (.lst rs) ∧ P2 (EvV H') rs st.2.2 ∧ rn ≠ md ∧ H5 rn = none ∧ st.1.length ≤ j ∧ st.2.2.length ≤ j ∧ st = (EL.take j).foldl (stp (k0 b) (k1 b)) ([], 0, []))
        ⟨none, none, rn, [], [], ([], 0, []), rfl, e57, e7 _ _ h6, .nil, h7, .nil, rmd, e6.free nrn, Nat.le_refl _, Nat.le_refl _, rfl⟩ (fun j σ H' hW => ?_) (fun j v σ H' hv hW => ?_) (fun σ H' hW => ?_)
      · obtain ⟨_, _, _, _, _, _, _, e, _⟩ := hW
        exact sqL (e _ _ m5)
      · obtain ⟨y10, y11, rn, rs, ms, ⟨made, place, run⟩, rfl, e, hmd, hM, hrn, hR, rmd, nrn, lm, lr, hst⟩ := hW
        dsimp only at hM hR lm lr
        obtain ⟨ev, hev, pe, es1, rfl, hpe, k2, sg⟩ := P5.get hv
        have hpe' := e _ _ hpe
        have jl := (List.getElem?_eq_some_iff.mp hv).1
        have hst1 : (EL.take (j + 1)).foldl (stp (k0 b) (k1 b)) ([], 0, []) = stp (k0 b) (k1 b) (made, place, run) ev := by
          rw [List.take_add_one, hev, List.foldl_append, ← hst]
          rfl
        rw [hst1]
        have rl := hR.len
        have ml := hM.len
        have htk' := e _ _ htk
        walk_at "rd"
        refine r_ixT (sqT hpe') (atI_nat (j := 0) rfl) ?_
        walk_at "rd"
        refine r_iteN (fun hne => ?_) (fun heq => ?_)
        · have ek : ev.1 ≠ 0 := fun h => hne (by rw [h]; rfl)
          walk_at "rd"
          refine r_tyL (sqL hrn) ?_
          walk_at "rd"
          refine r_app hrn (Nat.lt_of_le_of_lt (show rs.length ≤ 60000 by omega) (by decide)) ?_
          have tp := Tk.put (o := .lst (rs ++ [.ref pe])) hrn
          have es2 : stp (k0 b) (k1 b) (made, place, run) ev = (made, place, run ++ [ev]) := by
            unfold stp
            rw [if_neg ek]
          rw [es2]
          refine ⟨_, _, rn, rs ++ [.ref pe], ms, (made, place, run ++ [ev]), rfl, Same.mut e nrn, by rw [upd_ne (Ne.symm rmd)]; exact hmd, p2_imm tp hM, upd_same, (p2_imm tp hR).snoc (imm tp ⟨pe, es1, rfl, hpe', k2, sg⟩), rmd, nrn, by dsimp only; omega, by dsimp only; rw [List.length_append]; simp; omega, rfl⟩
        · have ek : ev.1 = 0 := by
            have z : nm ev.1 = nm 0 := V.str.inj heq
            exact (nm_inj k2 (by decide)).mp z
          refine ⟨fun σ H2 => ∃ (y11 : Option V) (ms2 : List V) (made2 : List Spc) (pl2 : Nat), σ = [some (.str z), some (.ref p), some (.bl b), some (.ref m), some (.int (sl s : Nat)), y5, some (.ref tk), some (.ref md), some (.int (pl2 : Nat)), some (.ref rn), some (.ref pe), y11, none, none] ∧ Ex H5 H2 ∧ H2 md = some (.lst ms2) ∧ P2 (SpcV H2) ms2 made2 ∧ made2.length ≤ j + 1 ∧ stp (k0 b) (k1 b) (made, place, run) ev = (made2, pl2 + 1, []), ?_, ?_⟩
          · walk_at "rd"
            refine r_lenL (sqL hrn) ?_
            walk_at "rd"
            refine r_ite (fun hpos => ?_) (fun hno => ?_)
            · have rne : run ≠ [] := fun h => by
                rw [h] at rl
                simp at rl
                rw [rl] at hpos
                simp at hpos
              have es2 : stp (k0 b) (k1 b) (made, place, run) ev = (made ++ [cl (k0 b) (k1 b) place run], place + (tx (k0 b) run).length + 1, []) := by
                unfold stp
                rw [if_pos ek, if_neg rne]
              walk_at "rd"
              refine l_lcL (sqL hrn) (fun D i H2 => ∃ acc, Ex H' H2 ∧ H2 D = some (.lst acc) ∧ acc.length = ((run.take i).filter fun e => decide (e.1 = k0 b)).length ∧ acc.length ≤ i) (fun D hD => ⟨[], Same.new (Same.refl H') hD, upd_same, rfl, Nat.le_refl _⟩) (fun D i H2 hW => ?_) (fun D i x H2 hD hx hW => ?_) (fun D H2 hD hW => ?_)
              · obtain ⟨_, ec, _⟩ := hW
                exact sqL (ec _ _ hrn)
              · obtain ⟨acc, ec, hD', ha, hai⟩ := hW
                obtain ⟨e1, he1, p1, s1, rfl, hp1, k21, sg1⟩ := hR.get hx
                have il := (List.getElem?_eq_some_iff.mp hx).1
                have ft := filter_take (k := k0 b) he1
                walk_at "rd"
                refine ⟨rfl, ?_⟩
                walk_at "rd"
                refine r_ixT (sqT (ec _ _ hp1)) (atI_nat (j := 0) rfl) ?_
                walk_at "rd"
                refine r_ixL (sqL (ec _ _ htk')) (atI_nat (j := 0) rfl) ?_
                walk_at "rd"
                refine r_ite (fun h => ?_) (fun h => ?_)
                · have h1 := (nm_inj k21 (k0_le b)).mp (V.str.inj h)
                  rw [if_pos h1] at ft
                  walk_at "rd"
                  refine ⟨acc, hD', Nat.lt_of_le_of_lt (show acc.length ≤ 60000 by omega) (by decide), acc ++ [.ref p1], Same.mut ec hD, upd_same, by rw [ft, List.length_append, List.length_append, ha]; rfl, by rw [List.length_append]; simp; omega⟩
                · have h1 : e1.1 ≠ k0 b := fun z => h (by rw [z])
                  rw [if_neg h1, List.append_nil] at ft
                  exact ⟨acc, ec, hD', by rw [ft]; exact ha, by omega⟩
              · obtain ⟨acc, ec, hD', ha, hai⟩ := hW
                rw [rl, List.take_length] at ha
                have ha2 : acc.length = (tx (k0 b) run).length := by
                  unfold tx
                  rw [List.length_map]
                  exact ha
                walk_at "rd"
                refine r_lenL (sqL hD') ?_
                rw [ha2]
                have hmd2 := ec _ _ hmd
                have hrn2 := ec _ _ hrn
                walk_at "rd"
                refine r_tyL (sqL hmd2) ?_
                walk_at "rd"
                refine ⟨⟨_, rfl⟩, ?_⟩
                walk_at "rd"
                refine l_lcL (sqL hrn2) (fun D i H3 => Ex H2 H3 ∧ H3 D = some (.lst ((((run.take i).filter fun e => decide (e.1 = k1 b)).map fun e => (⟨#[e.2]⟩ : Str)).map V.str))) (fun D hD => ⟨Same.new (Same.refl H2) hD, upd_same⟩) (fun D i H3 hW => sqL (hW.1 _ _ hrn2)) (fun D i x H3 hD hx hW => ?_) (fun D H3 hD hW => ?_)
                · obtain ⟨ed, hD'⟩ := hW
                  obtain ⟨e1, he1, p1, s1, rfl, hp1, k21, sg1⟩ := hR.get hx
                  have il := (List.getElem?_eq_some_iff.mp hx).1
                  have ft := filter_take (k := k1 b) he1
                  have hp13 := (ec.trans ed) _ _ hp1
                  walk_at "rd"
                  refine ⟨rfl, ?_⟩
                  walk_at "rd"
                  refine r_ixT (sqT hp13) (atI_nat (j := 0) rfl) ?_
                  walk_at "rd"
                  refine r_ixL (sqL ((ec.trans ed) _ _ htk')) (atI_nat (j := 1) rfl) ?_
                  walk_at "rd"
                  refine r_ite (fun h => ?_) (fun h => ?_)
                  · have h1 := (nm_inj k21 (k1_le b)).mp (V.str.inj h)
                    rw [if_pos h1] at ft
                    have e10 : e1.1 ≠ 0 := by
                      rw [h1]
                      cases b <;> decide
                    have fl : ((run.take i).filter fun e => decide (e.1 = k1 b)).length ≤ i := Nat.le_trans (List.length_filter_le _ _) (by rw [List.length_take]; omega)
                    walk_at "rd"
                    refine r_ixT (sqT hp13) (atI_nat (j := 1) rfl) ?_
                    refine ⟨_, hD', Nat.lt_of_le_of_lt (by rw [List.length_map, List.length_map]; exact Nat.le_trans fl (show i ≤ 60000 by omega)) (by decide), Same.mut ed hD, ?_⟩
                    rw [upd_same, ft, sg1 e10, List.map_append, List.map_append]
                    rfl
                  · have h1 : e1.1 ≠ k1 b := fun z => h (by rw [z])
                    rw [if_neg h1, List.append_nil] at ft
                    rw [ft]
                    exact ⟨ed, hD'⟩
                · obtain ⟨ed, hD'⟩ := hW
                  rw [rl, List.take_length] at hD'
                  have fl := List.length_filter_le (fun e : Ev => decide (e.1 = k1 b)) run
                  refine ⟨"", D, _, rfl, rfl, .inl (sqL hD'), ?_, ?_⟩
                  · rw [sum_len fun y hy => by
                      obtain ⟨e, _, rfl⟩ := List.mem_map.mp hy
                      rfl]
                    have e0 : ("" : Str).length = 0 := rfl
                    rw [e0, Nat.mul_zero, Nat.add_zero, List.length_map]
                    exact Nat.le_trans (show _ ≤ 60000 by omega) (by decide)
                  obtain ⟨jn, hjn⟩ : ∃ jn, jn = Txt.join "" ((run.filter fun e => decide (e.1 = k1 b)).map fun e => (⟨#[e.2]⟩ : Str)) := ⟨_, rfl⟩
                  rw [← hjn]
                  have ejn : jn = ⟨(tx (k1 b) run).toArray⟩ := cs_ext (by
                    rw [hjn, sgn_join])
                  walk_at "rd"
                  refine r_small nsz fun pt nt => ?_
                  obtain ⟨H4, k4, e4, h4⟩ := nL (.tup [.int (place : Nat), .int ((tx (k0 b) run).length : Nat), .str jn]) nt
                  rw [← k4]
                  walk_at "rd"
                  have hmd4 := (ed.trans e4) _ _ hmd2
                  refine r_app hmd4 (Nat.lt_of_le_of_lt (show ms.length ≤ 60000 by omega) (by decide)) ?_
                  walk_at "rd"
                  rw [show ((place : Nat) : Int) + (((tx (k0 b) run).length : Nat) : Int) = ((place + (tx (k0 b) run).length : Nat) : Int) by omega]
                  have tp := Tk.put (o := .lst (ms ++ [.ref pt])) hmd4
                  have e14 := (ec.trans ed).trans e4
                  refine ⟨_, ms ++ [.ref pt], made ++ [cl (k0 b) (k1 b) place run], _, rfl, Same.mut (e.trans e14) nmd, upd_same, (p2_imm ((Tk.ex e14).trans tp) hM).snoc (imm tp ⟨pt, rfl, ?_⟩), by rw [List.length_append]; simp; omega, es2⟩
                  rw [h4, ejn]
                  rfl
            · have rne : run = [] := by
                have : rs.length = 0 := by omega
                rw [this] at rl
                exact List.eq_nil_of_length_eq_zero rl.symm
              have es2 : stp (k0 b) (k1 b) (made, place, run) ev = (made, place + 1, []) := by
                unfold stp
                rw [if_pos ek, if_pos rne]
              walk_at "rd"
              exact ⟨_, ms, made, place, rfl, e, hmd, hM, by omega, es2⟩
          · rintro σ H2 ⟨y11, ms2, made2, pl2, rfl, e2, hmd2, hM2, lm2, es2⟩
            walk_at "rd"
            refine r_small nsz fun rn2 nrn2 => ?_
            obtain ⟨H3, k3, e3, h3⟩ := nL (.lst []) nrn2
            rw [← k3]
            walk_at "rd"
            rw [es2]
            refine ⟨_, _, rn2, [], ms2, (made2, pl2 + 1, []), rfl, e2.trans e3, e3 _ _ hmd2, p2_imm (.ex e3) hM2, h3, .nil, (fun h => by rw [h, hmd2] at nrn2; cases nrn2), e2.free nrn2, lm2, Nat.zero_le _, rfl⟩
      · obtain ⟨y10, y11, rn, rs, ms, st, rfl, e, hmd, hM, hrn, hR, rmd, nrn, lm, lr, hst⟩ := hW
        rw [P5.len, List.take_length] at hst
        rw [hst, fin] at hM
        walk_at "rd"
        exact r_tupLV hmd hM fun pq H2 hp e2 hT => q _ H2 (((e3.trans e5).trans e).trans e2) hT
end
end K15
namespace K15
open PySem PySem.Spec PyProof.Rows L2 Dk
/-- one step of a reading -/
local macro_rules | `(tactic| walk_at "rd1") => `(tactic| first
  | ((with_reducible refine r_var (v := ?rv) ?rh ?_); (case rh => rfl))
  | with_reducible refine r_c ?_
  | with_reducible refine r_seq ?_
  | with_reducible refine r_asg ?_
  | with_reducible refine r_par ?_
  | with_reducible refine r_gname ?_
  | with_reducible refine r_op ?_
  | with_reducible refine r_forLo ?_
  | with_reducible refine r_forTo ?_
  | with_reducible refine r_forSo ?_
  | with_reducible refine r_forRo ?_
  | with_reducible refine r_forRvo ?_
  | with_reducible refine r_forZo ?_
  | with_reducible refine r_revS ?_
  | with_reducible refine r_lcRo ?_
  | with_reducible refine r_lcLo ?_
  | with_reducible refine r_yes ?_
  | with_reducible refine r_callK0 ?_
  | with_reducible refine r_break ?_
  | with_reducible refine r_forR2o ?_
  | with_reducible refine r_forEo ?_
  | with_reducible refine r_forESo ?_
  | with_reducible refine r_xfo ?_
  | with_reducible refine r_noP ?_
  | with_reducible refine r_part ?_
  | with_reducible refine r_pI ?_
  | with_reducible refine r_gcons ?_
  | with_reducible refine r_gnil ?_
  | with_reducible refine r_mkO ?_
  | with_reducible refine r_un ?_
  | with_reducible refine r_addI ?_
  | with_reducible refine r_I0 ?_
  | with_reducible refine r_U ?_
  | with_reducible refine r_cons ?_
  | with_reducible refine r_nil ?_
  | with_reducible refine r_CB ?_
  | with_reducible refine r_call ?_
  | with_reducible refine r_callS ?_
  | with_reducible refine r_int ?_
  | with_reducible refine r_max ?_
  | with_reducible refine r_min ?_
  | with_reducible refine r_test ?_
  | with_reducible refine r_B ?_
  | with_reducible refine r_blv ?_
  | with_reducible refine r_and ?_
  | with_reducible refine r_or ?_
  | with_reducible refine r_not ?_
  | with_reducible refine r_andV ?_
  | with_reducible refine r_orV ?_
  | with_reducible refine r_notV ?_
  | with_reducible refine r_ifE ?_
  | with_reducible refine r_ifS ?_
  | with_reducible refine r_ret ?_
  | with_reducible refine r_retN ?_
  | with_reducible refine r_drop ?_
  | with_reducible refine r_next ?_
  | with_reducible refine r_sl ?_
  | with_reducible refine r_gsub ?_
  | with_reducible refine r_bm ?_
  | with_reducible refine r_tup ?_
  | with_reducible refine r_lst ?_
  | with_reducible refine r_isN ?_
  | with_reducible refine r_notN ?_
  | with_reducible refine r_itt ?_
  | with_reducible refine r_iff ?_
  | with_reducible refine r_ittN ?_
  | with_reducible refine r_iffN ?_
  | ((with_reducible refine r_ittD ?rh ?_); (case rh => rfl))
  | ((with_reducible refine r_iffD ?rh ?_); (case rh => rfl))
  | ((with_reducible refine r_modP ?rh ?_); (case rh => decide))
  | ((with_reducible refine r_eq ?rh ?_); (case rh => rfl))
  | ((with_reducible refine r_eqP ?rh ?_); (case rh => rfl))
  | ((with_reducible refine r_ne ?rh ?_); (case rh => rfl)))
local macro_rules | `(tactic| walk_at "rd") => `(tactic| repeat walk_at "rd1")
local macro_rules | `(tactic| walk_at "isi") => `(tactic| first | refine r_isi (b := true) (by assumption) (by decide +kernel) ?_ | refine r_isi (b := false) (by assumption) (by decide +kernel) ?_)
local macro_rules | `(tactic| walk_at "rs1") => `(tactic| first
  | with_reducible refine r_seq ?_
  | with_reducible refine r_asg ?_
  | with_reducible refine r_gname ?_
  | with_reducible refine r_ret ?_)
local macro_rules | `(tactic| walk_at "rs") => `(tactic| repeat walk_at "rs1")

theorem r_lcR2o {ta : TA} {g : TG} {tt : TT} {te : TE} {vs : List Nat} {σ : L2.St} {H : Hp} {Q : VK} (h : ta σ H fun us H1 => ∃ i j : Int, us = [.int i, .int j] ∧ (-(2 ^ 62) ≤ i ∧ i < 2 ^ 62 ∧ -(2 ^ 62) ≤ j ∧ j < 2 ^ 62) ∧ ∀ D, H1 D = none → ∃ W : Nat → Nat → Hp → Prop, (∃ m, W 0 m (upd H1 D (.lst []))) ∧ ∀ k m H, W k m H →
  ((Itr i (j - i).toNat).stop k H ∧ Q (.ref D) H) ∨ ((Itr i (j - i).toNat).go k H ∧ ∃ Nx : Hp → Prop, (∀ H', Nx H' → ∃ m', m' < m ∧ W (k + 1) m' H') ∧ ∀ x H', (Itr i (j - i).toNat).yld k H x H' → g x (wipe σ vs) H' fun σ2 H2 => wipe σ2 vs = wipe σ vs ∧ tt σ2 H2 fun b H3 =>
    if b = true then te σ2 H3 fun y H4 => ∃ acc, H4 D = some (.lst acc) ∧ acc.length < sizeLine ∧ Nx (upd H4 D (.lst (acc ++ [y]))) else Nx H3)) : tLc (iRng2 ta) g tt te vs σ H Q := h
local macro_rules | `(tactic| walk_at "rd1") => `(tactic| with_reducible refine r_lcR2o ?_)
/-- [.. for x in range(1, n)] -/
theorem l_lcR1n {n : Nat} {g : TG} {tt : TT} {te : TE} {vs : List Nat} {σ : L2.St} {H1 : Hp} {Qd : Addr → Hp → Prop} (n1 : n ≤ 1000000) (Pv : Addr → Nat → Hp → Prop) (h0 : ∀ D, H1 D = none → Pv D 0 (upd H1 D (.lst [])))
    (hs : ∀ D (i : Nat) H, H1 D = none → i + 1 < n → Pv D i H → g (.int (i + 1 : Nat)) (wipe σ vs) H fun σ2 H2 => wipe σ2 vs = wipe σ vs ∧ tt σ2 H2 fun b H3 =>
      if b = true then te σ2 H3 fun y H4 => ∃ acc, H4 D = some (.lst acc) ∧ acc.length < sizeLine ∧ Pv D (i + 1) (upd H4 D (.lst (acc ++ [y]))) else Pv D (i + 1) H3) (hd : ∀ D H, H1 D = none → Pv D (n - 1) H → Qd D H) :
    ∃ i j : Int, [V.int 1, V.int (n : Nat)] = [.int i, .int j] ∧ (-(2 ^ 62) ≤ i ∧ i < 2 ^ 62 ∧ -(2 ^ 62) ≤ j ∧ j < 2 ^ 62) ∧ ∀ D, H1 D = none → ∃ W : Nat → Nat → Hp → Prop, (∃ m, W 0 m (upd H1 D (.lst []))) ∧ ∀ k m H, W k m H →
  ((Itr i (j - i).toNat).stop k H ∧ Qd D H) ∨ ((Itr i (j - i).toNat).go k H ∧ ∃ Nx : Hp → Prop, (∀ H', Nx H' → ∃ m', m' < m ∧ W (k + 1) m' H') ∧ ∀ x H', (Itr i (j - i).toNat).yld k H x H' → g x (wipe σ vs) H' fun σ2 H2 => wipe σ2 vs = wipe σ vs ∧ tt σ2 H2 fun b H3 =>
    if b = true then te σ2 H3 fun y H4 => ∃ acc, H4 D = some (.lst acc) ∧ acc.length < sizeLine ∧ Nx (upd H4 D (.lst (acc ++ [y]))) else Nx H3) := by
  refine ⟨1, n, rfl, ⟨by omega, by omega, by omega, by omega⟩, fun D hD => lc_range (lo := 1) (Pv D) (h0 D hD) (fun i H hi p => ?_) fun H p => hd D H hD ?_⟩
  · have z := hs D i H hD (by omega) p
    rw [show (1 : Int) + (i : Nat) = ((i + 1 : Nat) : Int) by omega]
    exact z
  · rw [show ((n : Int) - 1).toNat = n - 1 by omega] at p
    exact p
theorem row_good {s : List Seg} {lo : Nat} (hn : NN s) (ha : SA s) (hd : dl s ≤ 8000) : ∀ x ∈ row lo s, (0 < x.2.1 ∨ x.2.2 ≠ "") ∧ InAL x.2.2 ∧ x.2.2.length ≤ 8000 := fun x hx => by
  obtain ⟨y, hy, e1, e2⟩ := row_mem hx
  have ml := mem_len hy
  refine ⟨?_, by rw [e2]; exact (ha y hy).2, by rw [e2]; omega⟩
  rcases hn y hy with h | h
  · refine .inl ?_
    have : y.2.1.length ≠ 0 := fun z => h (len0 z)
    omega
  · exact .inr (by rw [e2]; exact h)
theorem dl_le : ∀ (s : List Seg) (lo : Nat), (∀ x ∈ row lo s, x.2.2.length ≤ 3) → dl s ≤ sl s + 3 * s.length
  | [], _, _ => Nat.zero_le _
  | (g, c, t) :: r, lo, h => by
    have ih := dl_le r (lo + g.length + c.length) fun x hx => h x (List.mem_cons_of_mem _ hx)
    have t3 : t.length ≤ 3 := h (lo + g.length, c.length, t) (List.mem_cons_self ..)
    have e1 := sl_cons g c t r
    have e2 : dl ((g, c, t) :: r) = dl [(g, c, t)] + dl r := dl_app [(g, c, t)] r
    rw [dl_one] at e2
    dsimp only at e2
    rw [List.length_cons]
    omega
theorem dst_al : ∀ (s : List Seg) (u : List Nat), (∀ c ∈ src s u, c ∈ cs AL) → SA s → ∀ c ∈ dst s u, c ∈ cs AL
  | [], _, h, _, c, hc => h c hc
  | (g, k, t) :: r, u, h, ha, c, hc => by
    have hc : c ∈ cs g ++ (cs t ++ dst r u) := hc
    have h : ∀ c ∈ cs g ++ (cs k ++ src r u), c ∈ cs AL := h
    rcases List.mem_append.mp hc with hc | hc
    · exact h c (List.mem_append_left _ hc)
    rcases List.mem_append.mp hc with hc | hc
    · exact (ha _ (List.mem_cons_self ..)).2 c hc
    · exact dst_al r u (fun c hc => h c (List.mem_append_right _ (List.mem_append_right _ hc))) (fun x hx => ha x (List.mem_cons_of_mem _ hx)) c hc
theorem row_gap {s : List Seg} (h : Jd s) {k : Nat} {a b : Seg} (ha : s[k]? = some a) (hb : s[k + 1]? = some b) : sl (s.take k) + a.1.length + a.2.1.length < sl (s.take (k + 1)) + b.1.length := by
  have e := take_snoc ha
  have b0 : b.1.length ≠ 0 := fun z => h k b hb (len0 z)
  rw [e, sl_app, sl_one]
  omega
theorem sel_true (s : List Seg) : s.map (sel true) = s := List.map_id'' (fun _ => rfl) s
theorem sel_false (s : List Seg) : s.map (sel false) = s.map swp := rfl
theorem inAL_mul {z : Str} (h : InAL z) (n : Nat) : InAL (Txt.mul z n) := fun c hc => by
  rw [cs_mul] at hc
  obtain ⟨l, hl, hc⟩ := List.mem_flatten.mp hc
  rw [(List.mem_replicate.mp hl).2] at hc
  exact h c hc
section
variable {P : Program} {w : World} {K : PySem.W.Frag} {mg : Str → Option Value} {base : Heap}
theorem map_some_inj {a b : List Spl} (h : a.map some = b.map some) : a = b := (List.map_inj_right fun a b h => Option.some.inj h).mp h
def spBacks : Sp := fun vs H Q _ => ∃ (z : Str) (p : Addr) (xs : List V) (l : List Spc) (m : Nat), vs = [.str z, .ref p] ∧ H p = some (.lst xs) ∧ P2 (SpcV H) xs l ∧ Rnd z.length m l ∧ m ≤ 200 ∧ z.length ≤ 4000 ∧ InAL z ∧ ∀ H', Ex H H' → Q (.bl true) H'
theorem ok_law_backs (T : Txt K mg) : FnOk P w K mg base CX0 6 T.a_law_backs T.d_law_backs ["_law_text", "_law_row"] spBacks := by
  refine T.F_law_backs.ok sc_law_backs (fun vs H Q E h => ?_) (fun cdv A outer s H vs Q E hr h => ?_)
  · obtain ⟨z, p, xs, l, m, rfl, _⟩ := h
    rfl
  · obtain ⟨z, p, xs, l, m, rfl, hp, hP, rnd, hm, hz, zA, q⟩ := h
    refine ⟨_, (pss_cons (ps_set (i := 2) sc_law_backs.nd rfl (Or.inl rfl) (pe_call (ok_law_done T) (hr.mono (by decide)) (by rfl) T.g_law_done T.F_law_done.kp T.b_law_done .nil pass0 (pa_cons (pv 0) (pa_cons (pv 1) pa_nil))))
        (pss_cons (ps_set (i := 3) sc_law_backs.nd rfl (Or.inl rfl) (pe_call (ok_law_back T) (hr.mono (by decide)) (by rfl) T.g_law_back T.F_law_back.kp T.b_law_back .nil pass0 (pa_cons (pv 0) (pa_cons (pv 1) (pa_cons pe_bl pa_nil)))))
        (pss_cons (ps_set (i := 4) sc_law_backs.nd rfl (Or.inr rfl) (pe_call (ok_back_round T) (hr.mono (by decide)) (by rfl) T.g_back_round T.F_back_round.kp T.b_back_round .nil pass0 (pa_cons (pv 0) (pa_cons (pe_callTy call_tupU (by rfl) T.n_tuple (by decide +kernel) (pa_cons (pv 1) pa_nil)) pa_nil))))
        (pss_cons (ps_if (pt_not (pt_val (pe_call (ok_law_same_round T) (hr.mono (by decide)) (by rfl) T.g_law_same_round T.F_law_same_round.kp T.b_law_same_round .nil pass0 (pa_cons (pv 3) (pa_cons (pv 4) pa_nil))))) (pss_one (ps_ret pe_bl)) pss_nil)
        (pss_cons (ps_if (PW.pt (pw_or (pt_cmpR op_isnotU (pe_call (ok_check_round T) (hr.mono (by decide)) (by rfl) T.g_check_round T.F_check_round.kp T.b_check_round .nil passL (pa_cons (pe_callB call_lenU (by rfl) T.n_len (by decide +kernel) (pa_cons (pv 2) pa_nil)) (pa_cons (pv 4) pa_nil))) pe_non (nomark _)) (pw_or1 (pt_cmpR (op_neU hr.units) (pe_call (ok_spliced T) hr (by rfl) T.g_spliced T.F_spliced.kp T.b_spliced .nil passL (pa_cons (pv 2) (pa_cons (pv 4) pa_nil))) (pv 0) (nomark _))))) (pss_one (ps_ret pe_bl)) pss_nil)
        (pss_cons (ps_if (pt_cmpR op_gt (pe_callB call_lenU (by rfl) T.n_len (by decide +kernel) (pa_cons (pe_lc (own := [("_law_k", 6)]) (g := gName 6) rfl sc_law_backs.nd (pi_range2 (by rfl) T.n_range (pa_cons pe_int (pa_cons (pe_callB call_lenU (by rfl) T.n_len (by decide +kernel) (pa_cons (pv 4) pa_nil)) pa_nil))) (blkOk_by (N := N_law_backs) (sc := defScope s_law_backs) (by decide +kernel)) (fun _ _ _ _ _ => pg_name (i := 6) sc_law_backs.nd rfl (Or.inl rfl)) (fun _ _ _ _ _ => (pts_one (pt_cmpR op_ge (pe_op (k_add (K := K) rfl) (pe_ix (k_ix (K := K) rfl) (pe_ix (k_ix (K := K) rfl) (pv 4) (pe_op op_sub (pv 6) pe_int) (fun _ _ => rfl)) pe_int (fun _ _ => rfl)) (pe_ix (k_ix (K := K) rfl) (pe_ix (k_ix (K := K) rfl) (pv 4) (pe_op op_sub (pv 6) pe_int) (fun _ _ => rfl)) pe_int (fun _ _ => rfl))) (pe_ix (k_ix (K := K) rfl) (pe_ix (k_ix (K := K) rfl) (pv 4) (pv 6) (fun _ _ => rfl)) pe_int (fun _ _ => rfl)) (nomark _)))) (fun _ _ _ _ _ => (pv 6))) pa_nil)) pe_int (nomark _)) (pss_one (ps_ret pe_bl)) pss_nil)
        (pss_cons (ps_set (i := 5) sc_law_backs.nd rfl (Or.inl rfl) (pe_call (ok_back_round T) (hr.mono (by decide)) (by rfl) T.g_back_round T.F_back_round.kp T.b_back_round .nil pass0 (pa_cons (pv 2) (pa_cons (pv 4) pa_nil))))
        (pss_one (ps_ret (pe_and (pe_call (ok_law_same_round T) (hr.mono (by decide)) (by rfl) T.g_law_same_round T.F_law_same_round.kp T.b_law_same_round .nil pass0 (pa_cons (pe_call (ok_law_back T) (hr.mono (by decide)) (by rfl) T.g_law_back T.F_law_back.kp T.b_law_back .nil pass0 (pa_cons (pv 0) (pa_cons (pv 1) (pa_cons pe_bl pa_nil)))) (pa_cons (pv 5) pa_nil))) (pe_one (pe_cmpR (op_eqU hr.units) (pe_call (ok_spliced T) hr (by rfl) T.g_spliced T.F_spliced.kp T.b_spliced .nil passL (pa_cons (pv 0) (pa_cons (pv 5) pa_nil))) (pv 2) (nomark _))))))))))))), ?_⟩
    obtain ⟨s, u, hs, hrow, nn, sa⟩ := ex_seg l 0 (cs z) (Nat.zero_le _) (by rw [cs_len]; exact rnd.rt) (fun c hc => zA c hc) rnd.good
    have hs : cs z = src s u := hs
    have ll := rnd.len
    have sn : s.length = l.length := by rw [← hrow, row_len]
    have s1 : 1 ≤ s.length := by
      rw [sn]
      rcases Nat.eq_zero_or_pos l.length with h | h
      · exact absurd (List.eq_nil_of_length_eq_zero h) rnd.ne
      · exact h
    have l3 : ∀ x ∈ l, x.2.2.length ≤ 3 := fun x hx => (rnd.good x hx).tl
    have dle := dl_le s 0 (by rw [hrow]; exact l3)
    have szl := src_len s u
    rw [← hs, cs_len] at szl
    have dsl := dst_len s u
    rw [← hrow] at hP
    have hPl : (row 0 s).length ≤ 200 := by rw [row_len]; omega
    obtain ⟨S, hS⟩ : ∃ S, S = (join s).map swp := ⟨_, rfl⟩
    have jS : Jd S := by rw [hS]; exact (jd_join s).swp
    have nS : NN S := by rw [hS]; exact (nn_join nn).swp
    have aS : SA S := by rw [hS]; exact (sa_join sa).swp
    have jl := join_len2 s
    have lS : S.length = (join s).length := by rw [hS, List.length_map]
    have slS : sl S = dl s := by rw [hS, sl_swp, dl_join]
    have dlS : dl S = sl s := by rw [hS, dl_swp, sl_join]
    have srcS : src S u = dst s u := by rw [hS, src_swp, dst_join]
    have dstS : dst S u = src s u := by rw [hS, dst_swp, src_join]
    have backS : (join S).map swp = join s := by rw [join_id jS, hS, swp_swp]
    walk_at "rd"
    refine ⟨z, p, xs, row 0 s, rfl, hp, hP, hz, by rw [row_len]; omega, by rw [hrow]; exact l3, fun o ho => ?_⟩
    rw [hs, led_row0] at ho
    have ol : o.length = dl s + u.length := by rw [← cs_len, ho, dsl]
    have o8 : o.length ≤ 8000 := by omega
    walk_at "rd"
    refine ⟨z, p, false, xs, s, u, rfl, hp, hP, hs, by omega, by omega, nn, fun due H1 e1 hd => ?_⟩
    rw [sel_false, ← hS] at hd
    walk_at "rd"
    refine r_tupLV (e1 _ _ hp) (p2_imm (.ex e1) hP) fun tp H2 _ e2 hT => ?_
    walk_at "rd"
    refine ⟨z, .ref tp, s, u, rfl, hT, hs, by omega, by rw [dsl]; omega, by omega, fun told H3 e3 ht => ?_⟩
    rw [← hS] at ht
    have e13 := (e1.trans e2).trans e3
    walk_at "rd"
    refine ⟨due, told, row 0 S, rfl, imm (.ex (e2.trans e3)) hd, ht, by rw [row_len]; omega, fun H4 e4 => ?_⟩
    have e14 := e13.trans e4
    have ht4 := imm (R := TupV SpcV) (.ex e4) ht
    obtain ⟨tq, ts, rfl, htq, hts⟩ := id ht4
    have gS := row_good (lo := 0) nS aS (by omega)
    walk_at "rd"
    obtain ⟨rw1, sp1⟩ := row_rw hts (by rw [row_len]; omega) gS
    have jd1 : judge o.length (sps H4 ts) = none := by
      rw [sp1]
      exact judge_row jS (by omega) (by omega)
    refine r_lenS (small8 o8) ?_
    walk_at "rd"
    refine ⟨(o.length : Nat), tq, ts, rfl, htq, rw1, fun _ H5 e5 => ?_, fun k hk => by rw [jd1] at hk; cases hk⟩
    walk_at "rd"
    have htq5 := e5 _ _ htq
    have hts5 := p2_imm (.ex e5) hts
    obtain ⟨rw2, sp2⟩ := row_rw hts5 (by rw [row_len]; omega) gS
    refine ⟨o, tq, ts, rfl, o8, htq5, rw2, fun rs hrs _ H6 o2 e6 ho2 => ?_, fun k hk => by
      rw [sp2] at hk
      rw [sp1] at jd1
      rw [jd1] at hk
      cases hk⟩
    rw [sp2] at hrs
    rw [← map_some_inj hrs, ho, ← srcS, led_row0, dstS, ← hs] at ho2
    have eo : o2 = z := cs_ext ho2
    subst eo
    walk_at "rd"
    refine r_iteN (fun h => by exact absurd rfl h) (fun _ => ?_)
    walk_at "rd"
    have e46 := e5.trans e6
    have ht6 := imm (R := TupV SpcV) (.ex e46) ht4
    refine r_lenTV ht6 ?_
    walk_at "rd"
    refine l_lcR1n (by rw [row_len]; omega) (fun D i H' => Ex H6 H' ∧ H' D = some (.lst [])) (fun D hD => ⟨Same.new (Same.refl H6) hD, upd_same⟩) (fun D i H' hD hi hW => ?_) (fun D H7 hD hW => ?_)
    · obtain ⟨e, hD'⟩ := hW
      rw [row_len] at hi
      have ht' := imm (R := TupV SpcV) (.ex e) ht6
      have ha : S[i]? = some S[i] := List.getElem?_eq_getElem (by omega)
      have hb : S[i + 1]? = some S[i + 1] := List.getElem?_eq_getElem hi
      have gap := row_gap jS ha hb
      walk_at "rd"
      refine ⟨rfl, ?_⟩
      walk_at "rd"
      rw [show ((i + 1 : Nat) : Int) - 1 = ((i : Nat) : Int) by omega]
      refine r_ixTV ht' (row_at ha 0) fun v1 h1 => ?_
      obtain ⟨q1, rfl, hq1⟩ := h1
      walk_at "rd"
      refine r_ixT (sqT hq1) (atI_nat (j := 0) rfl) ?_
      walk_at "rd"
      rw [show ((i + 1 : Nat) : Int) - 1 = ((i : Nat) : Int) by omega]
      refine r_ixTV ht' (row_at ha 0) fun v2 h2 => ?_
      obtain ⟨q2, rfl, hq2⟩ := h2
      walk_at "rd"
      refine r_ixT (sqT hq2) (atI_nat (j := 1) rfl) ?_
      walk_at "rd"
      refine r_ixTV ht' (row_at hb 0) fun v3 h3 => ?_
      obtain ⟨q3, rfl, hq3⟩ := h3
      walk_at "rd"
      refine r_ixT (sqT hq3) (atI_nat (j := 0) rfl) ?_
      walk_at "rd"
      refine r_ite (fun h => ?_) (fun _ => ⟨e, hD'⟩)
      dsimp only at h
      omega
    · obtain ⟨e7, hD'⟩ := hW
      walk_at "rd"
      refine r_lenL (sqL hD') ?_
      walk_at "rd"
      have ht7 := imm (R := TupV SpcV) (.ex e7) ht6
      refine ⟨o, .ref tq, S, u, rfl, ht7, by rw [ho, srcS], o8, by rw [dstS, ← hs, cs_len]; omega, by omega, fun again H8 e8 hg => ?_⟩
      rw [backS] at hg
      have e08 := ((e14.trans e46).trans e7).trans e8
      walk_at "rd"
      refine ⟨o2, p, true, xs, s, u, rfl, e08 _ _ hp, p2_imm (.ex e08) hP, hs, by omega, by omega, nn, fun due2 H9 e9 hd2 => ?_⟩
      rw [sel_true] at hd2
      walk_at "rd"
      have hg9 := imm (R := TupV SpcV) (.ex e9) hg
      refine ⟨due2, again, _, rfl, hd2, hg9, by rw [row_len]; omega, fun Ha ea => ?_⟩
      walk_at "rd"
      have hga := imm (R := TupV SpcV) (.ex ea) hg9
      obtain ⟨tr, us, rfl, htr, hus⟩ := hga
      have gJ := row_good (lo := 0) (nn_join nn) (sa_join sa) (by rw [dl_join]; omega)
      obtain ⟨rw3, sp3⟩ := row_rw hus (by rw [row_len]; omega) gJ
      have jd3 : judge o2.length (sps Ha us) = none := by
        rw [sp3]
        exact judge_row (jd_join s) (by omega) (by rw [sl_join]; omega)
      refine ⟨o2, tr, us, rfl, by omega, htr, rw3, fun rs hrs _ Hb o3 eb ho3 => ?_, fun k hk => by rw [jd3] at hk; cases hk⟩
      rw [sp3] at hrs
      rw [← map_some_inj hrs, hs, ← src_join, led_row0, dst_join, ← ho] at ho3
      have eo : o3 = o := cs_ext ho3
      subst eo
      walk_at "rd"
      have et : decide (V.str o3 = V.str o3) = true := decide_eq_true rfl
      rw [et]
      exact q Hb (((e08.trans e9).trans ea).trans eb)
end
end K15
namespace K15
open PySem PySem.Spec PyProof.Rows L2 Dk
/-- one step of a reading -/
local macro_rules | `(tactic| walk_at "rd1") => `(tactic| first
  | ((with_reducible refine r_var (v := ?rv) ?rh ?_); (case rh => rfl))
  | with_reducible refine r_c ?_
  | with_reducible refine r_seq ?_
  | with_reducible refine r_asg ?_
  | with_reducible refine r_par ?_
  | with_reducible refine r_gname ?_
  | with_reducible refine r_op ?_
  | with_reducible refine r_forLo ?_
  | with_reducible refine r_forTo ?_
  | with_reducible refine r_forSo ?_
  | with_reducible refine r_forRo ?_
  | with_reducible refine r_forRvo ?_
  | with_reducible refine r_forZo ?_
  | with_reducible refine r_revS ?_
  | with_reducible refine r_lcRo ?_
  | with_reducible refine r_lcLo ?_
  | with_reducible refine r_yes ?_
  | with_reducible refine r_callK0 ?_
  | with_reducible refine r_break ?_
  | with_reducible refine r_forR2o ?_
  | with_reducible refine r_forEo ?_
  | with_reducible refine r_forESo ?_
  | with_reducible refine r_xfo ?_
  | with_reducible refine r_noP ?_
  | with_reducible refine r_part ?_
  | with_reducible refine r_pI ?_
  | with_reducible refine r_gcons ?_
  | with_reducible refine r_gnil ?_
  | with_reducible refine r_mkO ?_
  | with_reducible refine r_un ?_
  | with_reducible refine r_addI ?_
  | with_reducible refine r_I0 ?_
  | with_reducible refine r_U ?_
  | with_reducible refine r_cons ?_
  | with_reducible refine r_nil ?_
  | with_reducible refine r_CB ?_
  | with_reducible refine r_call ?_
  | with_reducible refine r_callS ?_
  | with_reducible refine r_int ?_
  | with_reducible refine r_max ?_
  | with_reducible refine r_min ?_
  | with_reducible refine r_test ?_
  | with_reducible refine r_B ?_
  | with_reducible refine r_blv ?_
  | with_reducible refine r_and ?_
  | with_reducible refine r_or ?_
  | with_reducible refine r_not ?_
  | with_reducible refine r_andV ?_
  | with_reducible refine r_orV ?_
  | with_reducible refine r_notV ?_
  | with_reducible refine r_ifE ?_
  | with_reducible refine r_ifS ?_
  | with_reducible refine r_ret ?_
  | with_reducible refine r_retN ?_
  | with_reducible refine r_drop ?_
  | with_reducible refine r_next ?_
  | with_reducible refine r_sl ?_
  | with_reducible refine r_gsub ?_
  | with_reducible refine r_bm ?_
  | with_reducible refine r_tup ?_
  | with_reducible refine r_lst ?_
  | with_reducible refine r_isN ?_
  | with_reducible refine r_notN ?_
  | with_reducible refine r_itt ?_
  | with_reducible refine r_iff ?_
  | with_reducible refine r_ittN ?_
  | with_reducible refine r_iffN ?_
  | ((with_reducible refine r_ittD ?rh ?_); (case rh => rfl))
  | ((with_reducible refine r_iffD ?rh ?_); (case rh => rfl))
  | ((with_reducible refine r_modP ?rh ?_); (case rh => decide))
  | ((with_reducible refine r_eq ?rh ?_); (case rh => rfl))
  | ((with_reducible refine r_eqP ?rh ?_); (case rh => rfl))
  | ((with_reducible refine r_ne ?rh ?_); (case rh => rfl)))
local macro_rules | `(tactic| walk_at "rd") => `(tactic| repeat walk_at "rd1")
local macro_rules | `(tactic| walk_at "isi") => `(tactic| first | refine r_isi (b := true) (by assumption) (by decide +kernel) ?_ | refine r_isi (b := false) (by assumption) (by decide +kernel) ?_)
local macro_rules | `(tactic| walk_at "rs1") => `(tactic| first
  | with_reducible refine r_seq ?_
  | with_reducible refine r_asg ?_
  | with_reducible refine r_gname ?_
  | with_reducible refine r_ret ?_)
local macro_rules | `(tactic| walk_at "rs") => `(tactic| repeat walk_at "rs1")

section
variable {P : Program} {w : World} {K : PySem.W.Frag} {mg : Str → Option Value} {base : Heap}
def PrV (H : Hp) (v : V) : Prop := ∃ p x y, v = .ref p ∧ H p = some (.lst [.str x, .str y]) ∧ x.length ≤ 8000 ∧ y.length ≤ 8000
theorem PrV.up {H H' : Hp} {v : V} (e : Ex H H') (h : PrV H v) : PrV H' v := by
  obtain ⟨p, x, y, rfl, h1, h2⟩ := h
  exact ⟨p, x, y, rfl, e _ _ h1, h2⟩
def spLong : Sp := fun vs H Q _ => ∃ a z, vs = [.ref a, .str z] ∧ Stt H a ∧ 0 < z.length ∧ z.length ≤ 10 ∧ InAL z ∧ ∀ H', Q (.bl true) H'
theorem ok_law_long (T : Txt K mg) : FnOk P w K mg base CX0 7 T.a_law_long T.d_law_long ["_law_state", "_law_signs_here"] spLong := by
  refine T.F_law_long.ok sc_law_long (fun vs H Q E h => ?_) (fun cdv A outer s H vs Q E hr h => ?_)
  · obtain ⟨a, z, rfl, _⟩ := h
    rfl
  · obtain ⟨a, z, rfl, st, z0, z1, zA, q⟩ := h
    refine ⟨_, (pss_cons (ps_set (i := 2) sc_law_long.nd rfl (Or.inl rfl) (pe_op op_repS (pe_call (ok_law_word T) (hr.mono (by decide)) (by rfl) T.g_law_word T.F_law_word.kp T.b_law_word .nil pass0 (pa_cons (pv 0) (pa_cons (pv 1) (pa_cons pe_int pa_nil)))) (pe_op op_addU pe_int (pe_call (ok_law_draw T) (hr.mono (by decide)) (by rfl) T.g_law_draw T.F_law_draw.kp T.b_law_draw .nil pass0 (pa_cons (pv 0) (pa_cons pe_int pa_nil))))))
        (pss_cons (ps_set (i := 3) sc_law_long.nd rfl (Or.inl rfl) (pe_op op_repS (pe_call (ok_law_word T) (hr.mono (by decide)) (by rfl) T.g_law_word T.F_law_word.kp T.b_law_word .nil pass0 (pa_cons (pv 0) (pa_cons (pv 1) (pa_cons pe_int pa_nil)))) (pe_op op_addU pe_int (pe_call (ok_law_draw T) (hr.mono (by decide)) (by rfl) T.g_law_draw T.F_law_draw.kp T.b_law_draw .nil pass0 (pa_cons (pv 0) (pa_cons pe_int pa_nil))))))
        (pss_cons (ps_set (i := 4) sc_law_long.nd rfl (Or.inl rfl) (pe_op op_addU (pe_op op_addU (pv 2) (pe_call (ok_law_word T) (hr.mono (by decide)) (by rfl) T.g_law_word T.F_law_word.kp T.b_law_word .nil pass0 (pa_cons (pv 0) (pa_cons (pv 1) (pa_cons (pe_call (ok_law_draw T) (hr.mono (by decide)) (by rfl) T.g_law_draw T.F_law_draw.kp T.b_law_draw .nil pass0 (pa_cons (pv 0) (pa_cons pe_int pa_nil))) pa_nil))))) (pv 3)))
        (pss_cons (ps_set (i := 5) sc_law_long.nd rfl (Or.inl rfl) (pe_op op_addU (pe_op op_addU (pv 2) (pe_call (ok_law_word T) (hr.mono (by decide)) (by rfl) T.g_law_word T.F_law_word.kp T.b_law_word .nil pass0 (pa_cons (pv 0) (pa_cons (pv 1) (pa_cons (pe_call (ok_law_draw T) (hr.mono (by decide)) (by rfl) T.g_law_draw T.F_law_draw.kp T.b_law_draw .nil pass0 (pa_cons (pv 0) (pa_cons pe_int pa_nil))) pa_nil))))) (pv 3)))
        (Evl.pss_cut (ps_if (pt_cmpR (op_eqU hr.units) (pe_call (ok_law_draw T) (hr.mono (by decide)) (by rfl) T.g_law_draw T.F_law_draw.kp T.b_law_draw .nil pass0 (pa_cons (pv 0) (pa_cons pe_int pa_nil))) pe_int (nomark _)) (pss_cons (ps_set (i := 4) sc_law_long.nd rfl (Or.inl rfl) (pe_op op_repS (pe_ix ix_seq (pv 1) pe_int (fun _ _ => rfl)) (pe_op op_addU pe_int (pe_call (ok_law_draw T) (hr.mono (by decide)) (by rfl) T.g_law_draw T.F_law_draw.kp T.b_law_draw .nil pass0 (pa_cons (pv 0) (pa_cons pe_int pa_nil))))))
        (pss_one (ps_set (i := 5) sc_law_long.nd rfl (Or.inl rfl) (pe_op op_repS (pe_ix ix_seq (pv 1) pe_int (fun _ _ => rfl)) (pe_op op_addU pe_int (pe_call (ok_law_draw T) (hr.mono (by decide)) (by rfl) T.g_law_draw T.F_law_draw.kp T.b_law_draw .nil pass0 (pa_cons (pv 0) (pa_cons pe_int pa_nil)))))))) pss_nil)
        (pss_cons (ps_for PassesOwn.never rfl (pi_list (pe_lst (pa_cons (pe_lst (pa_cons (pv 4) (pa_cons (pv 5) pa_nil))) (pa_cons (pe_lst (pa_cons (pv 5) (pa_cons (pv 4) pa_nil))) (pa_cons (pe_lst (pa_cons (pv 4) (pa_cons (pv 4) pa_nil))) (pa_cons (pe_lst (pa_cons pe_str (pa_cons (pv 5) pa_nil))) (pa_cons (pe_lst (pa_cons (pv 4) (pa_cons pe_str pa_nil))) pa_nil))))))) (pg_name (i := 6) sc_law_long.nd rfl (Or.inl rfl)) (pss_one (ps_if (pt_not (pt_val (pe_call (ok_law_same T) (hr.mono (by decide)) (by rfl) T.g_law_same T.F_law_same.kp T.b_law_same .nil pass0 (pa_cons (pe_call (ok_law_least_long T) (hr.mono (by decide)) (by rfl) T.g_law_least_long T.F_law_least_long.kp T.b_law_least_long .nil pass0 (pa_cons (pe_ix ix_seq (pv 6) pe_int (fun _ _ => rfl)) (pa_cons (pe_ix ix_seq (pv 6) pe_int (fun _ _ => rfl)) pa_nil))) (pa_cons (pe_call (ok_least_splice T) (hr.mono (by decide)) (by rfl) T.g_least_splice T.F_least_splice.kp T.b_least_splice .nil pass0 (pa_cons (pe_ix ix_seq (pv 6) pe_int (fun _ _ => rfl)) (pa_cons (pe_ix ix_seq (pv 6) pe_int (fun _ _ => rfl)) pa_nil))) pa_nil))))) (pss_one (ps_ret pe_bl)) pss_nil)))
        (pss_one (ps_ret (pe_call (ok_law_backs T) hr (by rfl) T.g_law_backs T.F_law_backs.kp T.b_law_backs .nil pass0 (pa_cons (pv 4) (pa_cons (pe_call (ok_law_round T) (hr.mono (by decide)) (by rfl) T.g_law_round T.F_law_round.kp T.b_law_round .nil pass0 (pa_cons (pv 0) (pa_cons (pv 1) (pa_cons (pe_callB call_lenU (by rfl) T.n_len (by decide +kernel) (pa_cons (pv 4) pa_nil)) (pa_cons pe_int pa_nil))))) pa_nil))))))))))), ?_⟩
    have zl : z.length ≤ sizeLine := by rw [sizeLine_eq]; omega
    walk_at "rd"
    refine ⟨a, z, 20, rfl, st, z0, z1, zA, by decide, by decide, fun w1 H1 D1 hw1 aw1 => ?_⟩
    walk_at "rd"
    refine ⟨a, 60, rfl, D1.st, by decide, fun d1 H2 d10 d11 D2 => ?_⟩
    obtain ⟨d1, rfl⟩ : ∃ y : Nat, d1 = (y : Nat) := ⟨d1.toNat, by omega⟩
    have D02 := D1.trans D2
    walk_at "rd"
    rw [show (10 : Int) + (d1 : Int) = ((10 + d1 : Nat) : Int) by omega]
    refine r_repS (by omega) (by omega) ?_
    obtain ⟨ah, hah⟩ : ∃ ah, ah = Txt.mul w1 ((10 + d1 : Nat) : Int) := ⟨_, rfl⟩
    rw [← hah]
    have lah : ah.length ≤ 1380 := by
      rw [hah, Dk.len_mul, show w1.length = 20 by omega]
      omega
    have aah : InAL ah := by rw [hah]; exact inAL_mul aw1 _
    walk_at "rd"
    refine ⟨a, z, 20, rfl, D02.st, z0, z1, zA, by decide, by decide, fun w2 H3 D3 hw2 aw2 => ?_⟩
    have D03 := D02.trans D3
    walk_at "rd"
    refine ⟨a, 60, rfl, D03.st, by decide, fun d2 H4 d20 d21 D4 => ?_⟩
    obtain ⟨d2, rfl⟩ : ∃ y : Nat, d2 = (y : Nat) := ⟨d2.toNat, by omega⟩
    have D04 := D03.trans D4
    walk_at "rd"
    rw [show (10 : Int) + (d2 : Int) = ((10 + d2 : Nat) : Int) by omega]
    refine r_repS (by omega) (by omega) ?_
    obtain ⟨bh, hbh⟩ : ∃ bh, bh = Txt.mul w2 ((10 + d2 : Nat) : Int) := ⟨_, rfl⟩
    rw [← hbh]
    have lbh : bh.length ≤ 1380 := by
      rw [hbh, Dk.len_mul, show w2.length = 20 by omega]
      omega
    have abh : InAL bh := by rw [hbh]; exact inAL_mul aw2 _
    walk_at "rd"
    refine ⟨a, 9, rfl, D04.st, by decide, fun d3 H5 d30 d31 D5 => ?_⟩
    have D05 := D04.trans D5
    walk_at "rd"
    refine ⟨a, z, d3, rfl, D05.st, z0, z1, zA, by omega, by omega, fun w3 H6 D6 hw3 aw3 => ?_⟩
    have D06 := D05.trans D6
    walk_at "rd"
    refine r_addS (by rw [sizeLine_eq]; omega) ?_
    walk_at "rd"
    refine r_addS (by rw [app_len, sizeLine_eq]; omega) ?_
    obtain ⟨be, hbe⟩ : ∃ be, be = ah ++ w3 ++ bh := ⟨_, rfl⟩
    rw [← hbe]
    have lbe : be.length ≤ 2800 := by rw [hbe, app_len, app_len]; omega
    have abe : InAL be := by rw [hbe]; exact inAL_app (inAL_app aah aw3) abh
    walk_at "rd"
    refine ⟨a, 9, rfl, D06.st, by decide, fun d4 H7 d40 d41 D7 => ?_⟩
    have D07 := D06.trans D7
    walk_at "rd"
    refine ⟨a, z, d4, rfl, D07.st, z0, z1, zA, by omega, by omega, fun w4 H8 D8 hw4 aw4 => ?_⟩
    have D08 := D07.trans D8
    walk_at "rd"
    refine r_addS (by rw [sizeLine_eq]; omega) ?_
    walk_at "rd"
    refine r_addS (by rw [app_len, sizeLine_eq]; omega) ?_
    obtain ⟨af, haf⟩ : ∃ af, af = ah ++ w4 ++ bh := ⟨_, rfl⟩
    rw [← haf]
    have laf : af.length ≤ 2800 := by rw [haf, app_len, app_len]; omega
    clear hbe haf hah hbh
    walk_at "rd"
    refine ⟨fun σ H' => ∃ be af : Str, σ = [some (.ref a), some (.str z), some (.str ah), some (.str bh), some (.str be), some (.str af), none] ∧ Dr a H H' ∧ be.length ≤ 2800 ∧ af.length ≤ 2800 ∧ InAL be, ?_, ?_⟩
    · walk_at "rd"
      refine ⟨a, 3, rfl, D08.st, by decide, fun d5 H9 d50 d51 D9 => ?_⟩
      have D09 := D08.trans D9
      walk_at "rd"
      refine r_ite (fun _ => ?_) (fun _ => ?_)
      · obtain ⟨c, hc, hcA⟩ := z_at zA (i := 0) (by decide) (by omega)
        have oneA : InAL ⟨#[c]⟩ := fun e he => by
          have q : e = c := by simpa [cs] using he
          rw [q]
          exact hcA
        walk_at "rd"
        refine r_ixS zl hc ?_
        walk_at "rd"
        refine ⟨a, 900, rfl, D09.st, by decide, fun d6 Ha d60 d61 Da => ?_⟩
        obtain ⟨d6, rfl⟩ : ∃ y : Nat, d6 = (y : Nat) := ⟨d6.toNat, by omega⟩
        have D0a := D09.trans Da
        walk_at "rd"
        rw [show (500 : Int) + (d6 : Int) = ((500 + d6 : Nat) : Int) by omega]
        refine r_repS (by rw [len1]; decide) (by omega) ?_
        walk_at "rd"
        refine r_ixS zl hc ?_
        walk_at "rd"
        refine ⟨a, 900, rfl, D0a.st, by decide, fun d7 Hb d70 d71 Db => ?_⟩
        obtain ⟨d7, rfl⟩ : ∃ y : Nat, d7 = (y : Nat) := ⟨d7.toNat, by omega⟩
        have D0b := D0a.trans Db
        walk_at "rd"
        rw [show (500 : Int) + (d7 : Int) = ((500 + d7 : Nat) : Int) by omega]
        refine r_repS (by rw [len1]; decide) (by omega) ?_
        walk_at "rd"
        exact ⟨_, _, rfl, D0b, by rw [Dk.len_mul, len1]; omega, by rw [Dk.len_mul, len1]; omega, inAL_mul oneA _⟩
      · walk_at "rd"
        exact ⟨be, af, rfl, D09, lbe, laf, abe⟩
    rintro σ Hc ⟨be, af, rfl, D0c, lbe, laf, abe⟩
    have e0 : ("" : Str).length ≤ 8000 := Nat.zero_le _
    walk_at "rd"
    refine r_small nsz fun p1 n1 => ?_
    obtain ⟨G1, k1, e1, g1⟩ := nL (.lst [.str be, .str af]) n1
    rw [← k1]
    walk_at "rd"
    refine r_small nsz fun p2 n2 => ?_
    obtain ⟨G2, k2, e2, g2⟩ := nL (.lst [.str af, .str be]) n2
    rw [← k2]
    walk_at "rd"
    refine r_small nsz fun p3 n3 => ?_
    obtain ⟨G3, k3, e3, g3⟩ := nL (.lst [.str be, .str be]) n3
    rw [← k3]
    walk_at "rd"
    refine r_small nsz fun p4 n4 => ?_
    obtain ⟨G4, k4, e4, g4⟩ := nL (.lst [.str "", .str af]) n4
    rw [← k4]
    walk_at "rd"
    refine r_small nsz fun p5 n5 => ?_
    obtain ⟨G5, k5, e5, g5⟩ := nL (.lst [.str be, .str ""]) n5
    rw [← k5]
    walk_at "rd"
    refine r_small nsz fun p6 n6 => ?_
    obtain ⟨vs, hvs⟩ : ∃ vs : List V, vs = [.ref p1, .ref p2, .ref p3, .ref p4, .ref p5] := ⟨_, rfl⟩
    rw [← hvs]
    obtain ⟨G6, k6, e6, g6⟩ := nL (.lst vs) n6
    rw [← k6]
    have all : ∀ v ∈ vs, PrV G6 v := fun v hv => by
      rw [hvs] at hv
      rcases List.mem_cons.mp hv with rfl | hv
      · exact ⟨p1, _, _, rfl, (((((e2.trans e3).trans e4).trans e5).trans e6)) _ _ g1, by omega, by omega⟩
      rcases List.mem_cons.mp hv with rfl | hv
      · exact ⟨p2, _, _, rfl, ((((e3.trans e4).trans e5).trans e6)) _ _ g2, by omega, by omega⟩
      rcases List.mem_cons.mp hv with rfl | hv
      · exact ⟨p3, _, _, rfl, (((e4.trans e5).trans e6)) _ _ g3, by omega, by omega⟩
      rcases List.mem_cons.mp hv with rfl | hv
      · exact ⟨p4, _, _, rfl, ((e5.trans e6)) _ _ g4, e0, by omega⟩
      · rw [List.mem_singleton.mp hv]
        exact ⟨p5, _, _, rfl, e6 _ _ g5, by omega, e0⟩
    have D06' := ((((((D0c.then e1).then e2).then e3).then e4).then e5).then e6)
    walk_at "rd"
    refine l_L (sqL g6) (fun i σ H' => ∃ y6, σ = [some (.ref a), some (.str z), some (.str ah), some (.str bh), some (.str be), some (.str af), y6] ∧ Ex G6 H') ⟨none, rfl, Same.refl G6⟩ (fun i σ H' hW => ?_) (fun i v σ H' hv hW => ?_) (fun σ H' hW => ?_)
    · obtain ⟨_, _, e⟩ := hW
      exact sqL (e _ _ g6)
    · obtain ⟨y6, rfl, e⟩ := hW
      obtain ⟨pp, x, y, rfl, hpp, hx, hy⟩ := (all v (List.mem_of_getElem? hv)).up e
      walk_at "rd"
      refine r_ixL (sqL hpp) (atI_nat (j := 0) rfl) ?_
      walk_at "rd"
      refine r_ixL (sqL hpp) (atI_nat (j := 1) rfl) ?_
      walk_at "rd"
      refine ⟨x, y, rfl, hx, hy, fun due I1 f1 h1 => ?_⟩
      walk_at "rd"
      refine r_ixL (sqL (f1 _ _ hpp)) (atI_nat (j := 0) rfl) ?_
      walk_at "rd"
      refine r_ixL (sqL (f1 _ _ hpp)) (atI_nat (j := 1) rfl) ?_
      walk_at "rd"
      refine ⟨x, y, rfl, hx, hy, fun told I2 f2 h2 => ?_⟩
      walk_at "rd"
      refine ⟨due, told, _, rfl, opts_up f2 h1, h2, ?_⟩
      walk_at "rd"
      exact ⟨_, rfl, (e.trans f1).trans f2⟩
    · obtain ⟨y6, rfl, e⟩ := hW
      have D7 := D06'.then e
      walk_at "rd"
      refine r_lenS (by rw [sizeLine_eq]; omega) ?_
      walk_at "rd"
      refine ⟨a, z, be.length, 60, rfl, D7.st, z0, z1, zA, by omega, by decide, by decide, fun pr H' xs l D8 np hpr hP rnd => ?_⟩
      walk_at "rd"
      exact ⟨be, pr, xs, l, 60, rfl, hpr, hP, rnd, by decide, by omega, abe, fun H' _ => q H'⟩
def sp_law (K : PySem.W.Frag) : Sp := fun vs H Q _ => ∃ (a : Addr) (ns : List Int), vs = [.ref a] ∧ SqL K H a (ns.map V.int) ∧ ns.length ≤ 63 ∧ ∀ H', Q (.bl true) H'
theorem ok_law (T : Txt K mg) : FnOk P w K mg base CX0 8 T.a_law T.d_law ["_law_script"] (sp_law K) := by
  refine T.F_law.ok sc_law (fun vs H Q E h => ?_) (fun cdv A outer s H vs Q E hr h => ?_)
  · obtain ⟨a, ns, rfl, _⟩ := h
    rfl
  · obtain ⟨a, ns, rfl, hS, hns, q⟩ := h
    refine ⟨_, (pss_cons (ps_set (i := 1) sc_law.nd rfl (Or.inl rfl) (pe_call (ok_law_start T) (hr.mono (by decide)) (by rfl) T.g_law_start T.F_law_start.kp T.b_law_start .nil pass0 (pa_cons (pv 0) pa_nil)))
        (pss_cons (ps_set (i := 2) sc_law.nd rfl (Or.inl rfl) (pe_call (ok_law_signs T) (hr.mono (by decide)) (by rfl) T.g_law_signs T.F_law_signs.kp T.b_law_signs .nil pass0 (pa_cons (pv 1) pa_nil)))
        (pss_cons (ps_for PassesOwn.never rfl (pi_range1 (by rfl) T.n_range (pa_cons pe_int pa_nil)) (pg_name (i := 3) sc_law.nd rfl (Or.inl rfl)) (pss_cons (ps_set (i := 4) sc_law.nd rfl (Or.inl rfl) (pe_call (ok_law_word T) (hr.mono (by decide)) (by rfl) T.g_law_word T.F_law_word.kp T.b_law_word .nil pass0 (pa_cons (pv 1) (pa_cons (pv 2) (pa_cons (pe_call (ok_law_draw T) (hr.mono (by decide)) (by rfl) T.g_law_draw T.F_law_draw.kp T.b_law_draw .nil pass0 (pa_cons (pv 1) (pa_cons pe_int pa_nil))) pa_nil)))))
        (Evl.pss_cut (ps_if (pt_cmpR (op_eqU hr.units) (pe_call (ok_law_draw T) (hr.mono (by decide)) (by rfl) T.g_law_draw T.F_law_draw.kp T.b_law_draw .nil pass0 (pa_cons (pv 1) (pa_cons pe_int pa_nil))) pe_int (nomark _)) (pss_one (ps_set (i := 5) sc_law.nd rfl (Or.inl rfl) (pe_call (ok_law_word T) (hr.mono (by decide)) (by rfl) T.g_law_word T.F_law_word.kp T.b_law_word .nil pass0 (pa_cons (pv 1) (pa_cons (pv 2) (pa_cons (pe_call (ok_law_draw T) (hr.mono (by decide)) (by rfl) T.g_law_draw T.F_law_draw.kp T.b_law_draw .nil pass0 (pa_cons (pv 1) (pa_cons pe_int pa_nil))) pa_nil)))))) (pss_one (ps_set (i := 5) sc_law.nd rfl (Or.inl rfl) (pe_slice sl_U (pe_call (ok_law_done T) (hr.mono (by decide)) (by rfl) T.g_law_done T.F_law_done.kp T.b_law_done .nil pass0 (pa_cons (pv 4) (pa_cons (pe_call (ok_law_round T) (hr.mono (by decide)) (by rfl) T.g_law_round T.F_law_round.kp T.b_law_round .nil pass0 (pa_cons (pv 1) (pa_cons (pv 2) (pa_cons (pe_callB call_lenU (by rfl) T.n_len (by decide +kernel) (pa_cons (pv 4) pa_nil)) (pa_cons (pe_op op_addU pe_int (pe_call (ok_law_draw T) (hr.mono (by decide)) (by rfl) T.g_law_draw T.F_law_draw.kp T.b_law_draw .nil pass0 (pa_cons (pv 1) (pa_cons pe_int pa_nil)))) pa_nil))))) pa_nil))) po_none (po_some pe_int)))))
        (pss_one (ps_if (PW.pt (pw_or (pt_not (pt_val (pe_call (ok_law_pair T) (hr.mono (by decide)) (by rfl) T.g_law_pair T.F_law_pair.kp T.b_law_pair .nil pass0 (pa_cons (pv 4) (pa_cons (pv 5) pa_nil))))) (pw_or (pt_not (pt_val (pe_call (ok_law_pair T) (hr.mono (by decide)) (by rfl) T.g_law_pair T.F_law_pair.kp T.b_law_pair .nil pass0 (pa_cons (pv 5) (pa_cons (pv 4) pa_nil))))) (pw_or1 (pt_not (pt_val (pe_call (ok_law_pair T) (hr.mono (by decide)) (by rfl) T.g_law_pair T.F_law_pair.kp T.b_law_pair .nil pass0 (pa_cons (pv 4) (pa_cons (pe_op op_addU (pv 4) pe_str) pa_nil))))))))) (pss_one (ps_ret pe_bl)) pss_nil)))))
        (pss_cons (ps_for PassesOwn.never rfl (pi_range1 (by rfl) T.n_range (pa_cons pe_int pa_nil)) (pg_name (i := 3) sc_law.nd rfl (Or.inl rfl)) (pss_cons (ps_set (i := 6) sc_law.nd rfl (Or.inl rfl) (pe_call (ok_law_word T) (hr.mono (by decide)) (by rfl) T.g_law_word T.F_law_word.kp T.b_law_word .nil pass0 (pa_cons (pv 1) (pa_cons (pv 2) (pa_cons (pe_call (ok_law_draw T) (hr.mono (by decide)) (by rfl) T.g_law_draw T.F_law_draw.kp T.b_law_draw .nil pass0 (pa_cons (pv 1) (pa_cons pe_int pa_nil))) pa_nil)))))
        (pss_one (ps_if (pt_not (pt_val (pe_call (ok_law_backs T) (hr.mono (by decide)) (by rfl) T.g_law_backs T.F_law_backs.kp T.b_law_backs .nil pass0 (pa_cons (pv 6) (pa_cons (pe_call (ok_law_round T) (hr.mono (by decide)) (by rfl) T.g_law_round T.F_law_round.kp T.b_law_round .nil pass0 (pa_cons (pv 1) (pa_cons (pv 2) (pa_cons (pe_callB call_lenU (by rfl) T.n_len (by decide +kernel) (pa_cons (pv 6) pa_nil)) (pa_cons (pe_op op_addU pe_int (pe_call (ok_law_draw T) (hr.mono (by decide)) (by rfl) T.g_law_draw T.F_law_draw.kp T.b_law_draw .nil pass0 (pa_cons (pv 1) (pa_cons pe_int pa_nil)))) pa_nil))))) pa_nil))))) (pss_one (ps_ret pe_bl)) pss_nil))))
        (pss_cons (ps_if (pt_cmpR (op_eqU hr.units) (pe_call (ok_law_draw T) (hr.mono (by decide)) (by rfl) T.g_law_draw T.F_law_draw.kp T.b_law_draw .nil pass0 (pa_cons (pv 1) (pa_cons pe_int pa_nil))) pe_int (nomark _)) (pss_one (ps_ret (pe_call (ok_law_long T) hr (by rfl) T.g_law_long T.F_law_long.kp T.b_law_long .nil pass0 (pa_cons (pv 1) (pa_cons (pv 2) pa_nil))))) pss_nil)
        (pss_one (ps_ret pe_bl))))))), ?_⟩
    walk_at "rd"
    refine ⟨a, ns, rfl, hS, fun p H1 e1 hp st => ?_⟩
    walk_at "rd"
    refine ⟨p, rfl, st, fun z H2 D2 z0 z1 zA => ?_⟩
    walk_at "rd"
    refine l_R (by decide) (by decide) (fun i σ H' => ∃ y3 y4 y5 y6, σ = [some (.ref a), some (.ref p), some (.str z), y3, y4, y5, y6] ∧ Stt H' p) ⟨none, none, none, none, rfl, D2.st⟩ (fun i σ H' hi hW => ?_) (fun σ H' hW => ?_)
    · obtain ⟨y3, y4, y5, y6, rfl, st⟩ := hW
      walk_at "rd"
      refine ⟨p, 10, rfl, st, by decide, fun d1 I1 d10 d11 F1 => ?_⟩
      walk_at "rd"
      refine ⟨p, z, d1, rfl, F1.st, z0, z1, zA, by omega, by omega, fun be I2 F2 hbe abe => ?_⟩
      have lbe : be.length ≤ 9 := by omega
      walk_at "rd"
      refine ⟨fun σ H' => ∃ af : Str, σ = [some (.ref a), some (.ref p), some (.str z), some (.int (i : Nat)), some (.str be), some (.str af), y6] ∧ Stt H' p ∧ af.length ≤ 12 ∧ InAL af, ?_, ?_⟩
      · walk_at "rd"
        refine ⟨p, 2, rfl, F2.st, by decide, fun d2 I3 d20 d21 F3 => ?_⟩
        walk_at "rd"
        refine r_ite (fun _ => ?_) (fun _ => ?_)
        · walk_at "rd"
          refine ⟨p, 10, rfl, F3.st, by decide, fun d3 I4 d30 d31 F4 => ?_⟩
          walk_at "rd"
          refine ⟨p, z, d3, rfl, F4.st, z0, z1, zA, by omega, by omega, fun af I5 F5 haf aaf => ?_⟩
          walk_at "rd"
          exact ⟨af, rfl, F5.st, by omega, aaf⟩
        · walk_at "rd"
          refine r_lenS (by rw [sizeLine_eq]; omega) ?_
          walk_at "rd"
          refine ⟨p, 2, rfl, F3.st, by decide, fun d3 I4 d30 d31 F4 => ?_⟩
          obtain ⟨d3, rfl⟩ : ∃ y : Nat, d3 = (y : Nat) := ⟨d3.toNat, by omega⟩
          walk_at "rd"
          rw [show (1 : Int) + (d3 : Int) = ((1 + d3 : Nat) : Int) by omega]
          refine ⟨p, z, be.length, 1 + d3, rfl, F4.st, z0, z1, zA, by omega, by omega, by omega, fun pr I5 xs l F5 np hpr hP rnd => ?_⟩
          walk_at "rd"
          have lln := rnd.len
          refine ⟨be, pr, xs, l, rfl, hpr, hP, by omega, by omega, (fun x hx => (rnd.good x hx).tl), fun o ho => ?_⟩
          obtain ⟨s, u, hs, hrow, nn, sa⟩ := ex_seg l 0 (cs be) (Nat.zero_le _) (by rw [cs_len]; exact rnd.rt) (fun c hc => abe c hc) rnd.good
          have hs : cs be = src s u := hs
          have sn : s.length = l.length := by rw [← hrow, row_len]
          have dle := dl_le s 0 (by rw [hrow]; exact fun x hx => (rnd.good x hx).tl)
          have szl := src_len s u
          rw [← hs, cs_len] at szl
          have dsl := dst_len s u
          rw [hs, ← hrow, led_row0] at ho
          have ol : o.length ≤ 8000 := by rw [← cs_len, ho, dsl]; omega
          have oA : InAL o := fun c hc => by
            rw [ho] at hc
            exact dst_al s u (by rw [← hs]; exact fun c hc => abe c hc) sa c hc
          walk_at "rd"
          refine r_slS (small8 ol) ?_
          have ct : cs (cutS o none (some (12 : Int))) = (cs o).take 12 := cs_to o 12
          refine ⟨_, rfl, F5.st, by rw [← cs_len, ct, List.length_take]; omega, fun c hc => ?_⟩
          rw [ct] at hc
          exact oA c (List.mem_of_mem_take hc)
      · rintro σ I6 ⟨af, rfl, st6, laf, aaf⟩
        walk_at "rd"
        refine ⟨be, af, rfl, by omega, by omega, aaf, fun I7 f7 => ?_⟩
        walk_at "rd"
        refine ⟨af, be, rfl, by omega, by omega, abe, fun I8 f8 => ?_⟩
        walk_at "rd"
        refine r_addS (by rw [sizeLine_eq, show ("" : Str).length = 0 from rfl]; omega) ?_
        refine ⟨be, be ++ "", rfl, by omega, by rw [app_len, show ("" : Str).length = 0 from rfl]; omega, inAL_app abe (fun c hc => absurd hc List.not_mem_nil), fun I9 f9 => ?_⟩
        walk_at "rd"
        exact ⟨_, _, _, _, rfl, st6.up ((f7.trans f8).trans f9)⟩
    · obtain ⟨y3, y4, y5, y6, rfl, st⟩ := hW
      walk_at "rd"
      refine l_R (by decide) (by decide) (fun i σ H' => ∃ y3 y6, σ = [some (.ref a), some (.ref p), some (.str z), y3, y4, y5, y6] ∧ Stt H' p) ⟨y3, y6, rfl, st⟩ (fun i σ H' hi hW => ?_) (fun σ H' hW => ?_)
      · obtain ⟨y3, y6, rfl, st⟩ := hW
        walk_at "rd"
        refine ⟨p, 14, rfl, st, by decide, fun d1 I1 d10 d11 F1 => ?_⟩
        walk_at "rd"
        refine ⟨p, z, d1, rfl, F1.st, z0, z1, zA, by omega, by omega, fun tt I2 F2 htt att => ?_⟩
        walk_at "rd"
        refine r_lenS (by rw [sizeLine_eq]; omega) ?_
        walk_at "rd"
        refine ⟨p, 7, rfl, F2.st, by decide, fun d3 I4 d30 d31 F4 => ?_⟩
        obtain ⟨d3, rfl⟩ : ∃ y : Nat, d3 = (y : Nat) := ⟨d3.toNat, by omega⟩
        walk_at "rd"
        rw [show (1 : Int) + (d3 : Int) = ((1 + d3 : Nat) : Int) by omega]
        refine ⟨p, z, tt.length, 1 + d3, rfl, F4.st, z0, z1, zA, by omega, by omega, by omega, fun pr I5 xs l F5 np hpr hP rnd => ?_⟩
        walk_at "rd"
        refine ⟨tt, pr, xs, l, 1 + d3, rfl, hpr, hP, rnd, by omega, by omega, att, fun I6 f6 => ?_⟩
        walk_at "rd"
        exact ⟨_, _, rfl, F5.st.up f6⟩
      · obtain ⟨y3, y6, rfl, st⟩ := hW
        walk_at "rd"
        refine ⟨p, 16, rfl, st, by decide, fun d H4 d0 d1 D4 => ?_⟩
        walk_at "rd"
        refine r_ite (fun _ => ?_) (fun _ => ?_)
        · walk_at "rd"
          exact ⟨p, z, rfl, D4.st, z0, z1, zA, fun H' => q H'⟩
        · walk_at "rd"
          exact q H4
end
/-- an error of the class at S is what «except S» names -/
theorem exm_self {K : PySem.W.Frag} {S : Addr} (h1 : PySem.W.subIn K (.ref S) (.type "BaseException") = some true) (h2 : PySem.W.isClsIn K S = true) (h3 : PySem.W.typeIn K (.ref S) = some (.type "type")) (h4 : PySem.W.subIn K (.ref S) (.ref S) = some true) :
    PySem.W.exmOne K (.ref S) (.ref S) = some true := by
  have e1 : (PySem.W.subIn K (.ref S) (.type "BaseException") == some true) = true := by rw [h1] <;> rfl
  have e2 : ((PySem.W.clsIn K S).isSome && PySem.W.typeIn K (.ref S) == some (.type "type")) = true := by
    have h2' : (PySem.W.clsIn K S).isSome = true := h2
    rw [h2', h3] <;> rfl
  show (if (PySem.W.subIn K (.ref S) (.type "BaseException") == some true) = true then (if ((PySem.W.clsIn K S).isSome && PySem.W.typeIn K (.ref S) == some (.type "type")) = true then PySem.W.subIn K (.ref S) (.ref S) else none) else none) = some true
  rw [if_pos e1, if_pos e2]
  exact h4
theorem all_mk {l : PySem.W.OpenLaw} {w : World} {K : PySem.W.Frag} {h : Heap} {mg : Str → Option Value} {fa : Addr} (X : K.In h) (G : h.Ns mainGlobals mg) (hfa : mg "law" = some (.ref fa))
    {f_common_begin : Addr} {od_common_begin an_common_begin : Option Addr} {sl_common_begin : Array (Option Value)} {oc_common_begin kV_common_begin dc_common_begin pm_common_begin cd_common_begin ct_common_begin : Value}
    {f_least_splice : Addr} {od_least_splice an_least_splice : Option Addr} {sl_least_splice : Array (Option Value)} {oc_least_splice kV_least_splice dc_least_splice pm_least_splice cd_least_splice ct_least_splice : Value}
    {f_first_strange : Addr} {od_first_strange an_first_strange : Option Addr} {sl_first_strange : Array (Option Value)} {oc_first_strange kV_first_strange dc_first_strange pm_first_strange cd_first_strange ct_first_strange : Value}
    {f_is_text : Addr} {od_is_text an_is_text : Option Addr} {sl_is_text : Array (Option Value)} {oc_is_text kV_is_text dc_is_text pm_is_text cd_is_text ct_is_text : Value}
    {f_is_number : Addr} {od_is_number an_is_number : Option Addr} {sl_is_number : Array (Option Value)} {oc_is_number kV_is_number dc_is_number pm_is_number cd_is_number ct_is_number : Value}
    {f_is_splice : Addr} {od_is_splice an_is_splice : Option Addr} {sl_is_splice : Array (Option Value)} {oc_is_splice kV_is_splice dc_is_splice pm_is_splice cd_is_splice ct_is_splice : Value}
    {f_follows : Addr} {od_follows an_follows : Option Addr} {sl_follows : Array (Option Value)} {oc_follows kV_follows dc_follows pm_follows cd_follows ct_follows : Value}
    {f_check_round : Addr} {od_check_round an_check_round : Option Addr} {sl_check_round : Array (Option Value)} {oc_check_round kV_check_round dc_check_round pm_check_round cd_check_round ct_check_round : Value}
    {f_spliced : Addr} {od_spliced an_spliced : Option Addr} {sl_spliced : Array (Option Value)} {oc_spliced kV_spliced dc_spliced pm_spliced cd_spliced ct_spliced : Value}
    {f_back_round : Addr} {od_back_round an_back_round : Option Addr} {sl_back_round : Array (Option Value)} {oc_back_round kV_back_round dc_back_round pm_back_round cd_back_round ct_back_round : Value}
    {f_law_start : Addr} {od_law_start an_law_start : Option Addr} {sl_law_start : Array (Option Value)} {oc_law_start kV_law_start dc_law_start pm_law_start cd_law_start ct_law_start : Value}
    {f_law_draw : Addr} {od_law_draw an_law_draw : Option Addr} {sl_law_draw : Array (Option Value)} {oc_law_draw kV_law_draw dc_law_draw pm_law_draw cd_law_draw ct_law_draw : Value}
    {f_law_word : Addr} {od_law_word an_law_word : Option Addr} {sl_law_word : Array (Option Value)} {oc_law_word kV_law_word dc_law_word pm_law_word cd_law_word ct_law_word : Value}
    {f_law_signs : Addr} {od_law_signs an_law_signs : Option Addr} {sl_law_signs : Array (Option Value)} {oc_law_signs kV_law_signs dc_law_signs pm_law_signs cd_law_signs ct_law_signs : Value}
    {f_law_round : Addr} {od_law_round an_law_round : Option Addr} {sl_law_round : Array (Option Value)} {oc_law_round kV_law_round dc_law_round pm_law_round cd_law_round ct_law_round : Value}
    {f_law_done : Addr} {od_law_done an_law_done : Option Addr} {sl_law_done : Array (Option Value)} {oc_law_done kV_law_done dc_law_done pm_law_done cd_law_done ct_law_done : Value}
    {f_law_singles : Addr} {od_law_singles an_law_singles : Option Addr} {sl_law_singles : Array (Option Value)} {oc_law_singles kV_law_singles dc_law_singles pm_law_singles cd_law_singles ct_law_singles : Value}
    {f_law_least : Addr} {od_law_least an_law_least : Option Addr} {sl_law_least : Array (Option Value)} {oc_law_least kV_law_least dc_law_least pm_law_least cd_law_least ct_law_least : Value}
    {f_law_reach : Addr} {od_law_reach an_law_reach : Option Addr} {sl_law_reach : Array (Option Value)} {oc_law_reach kV_law_reach dc_law_reach pm_law_reach cd_law_reach ct_law_reach : Value}
    {f_law_least_long : Addr} {od_law_least_long an_law_least_long : Option Addr} {sl_law_least_long : Array (Option Value)} {oc_law_least_long kV_law_least_long dc_law_least_long pm_law_least_long cd_law_least_long ct_law_least_long : Value}
    {f_law_back : Addr} {od_law_back an_law_back : Option Addr} {sl_law_back : Array (Option Value)} {oc_law_back kV_law_back dc_law_back pm_law_back cd_law_back ct_law_back : Value}
    {f_law_is_splice : Addr} {od_law_is_splice an_law_is_splice : Option Addr} {sl_law_is_splice : Array (Option Value)} {oc_law_is_splice kV_law_is_splice dc_law_is_splice pm_law_is_splice cd_law_is_splice ct_law_is_splice : Value}
    {f_law_same : Addr} {od_law_same an_law_same : Option Addr} {sl_law_same : Array (Option Value)} {oc_law_same kV_law_same dc_law_same pm_law_same cd_law_same ct_law_same : Value}
    {f_law_same_round : Addr} {od_law_same_round an_law_same_round : Option Addr} {sl_law_same_round : Array (Option Value)} {oc_law_same_round kV_law_same_round dc_law_same_round pm_law_same_round cd_law_same_round ct_law_same_round : Value}
    {f_law_pair : Addr} {od_law_pair an_law_pair : Option Addr} {sl_law_pair : Array (Option Value)} {oc_law_pair kV_law_pair dc_law_pair pm_law_pair cd_law_pair ct_law_pair : Value}
    {f_law_backs : Addr} {od_law_backs an_law_backs : Option Addr} {sl_law_backs : Array (Option Value)} {oc_law_backs kV_law_backs dc_law_backs pm_law_backs cd_law_backs ct_law_backs : Value}
    {f_law_long : Addr} {od_law_long an_law_long : Option Addr} {sl_law_long : Array (Option Value)} {oc_law_long kV_law_long dc_law_long pm_law_long cd_law_long ct_law_long : Value}
    {f_law : Addr} {od_law an_law : Option Addr} {sl_law : Array (Option Value)} {oc_law kV_law dc_law pm_law cd_law ct_law : Value}
    {C_BadSplice fi_BadSplice N_BadSplice : Addr} {nm_BadSplice qn_BadSplice : Str} {bs_BadSplice su_BadSplice : List Value} {sn_BadSplice : List Str} {ab_BadSplice : Bool} {col_BadSplice : Option Bool} {dd_BadSplice : Option Addr} {m0_BadSplice m1_BadSplice m2_BadSplice m3_BadSplice m5_BadSplice : Option Value}
    {od_BadSplice an_BadSplice : Option Addr} {sl_BadSplice : Array (Option Value)} {oc_BadSplice kV_BadSplice dc_BadSplice pm_BadSplice cd_BadSplice ct_BadSplice : Value}
    {B_BadSplice_DeskError : Addr}
    {tk_ALPHABET : Tok}
    (a_common_begin : PySem.W.nsIn K mainGlobals "common_begin" = some (some (.ref f_common_begin)))
    (l_common_begin : K.lookup f_common_begin = some ⟨oc_common_begin, od_common_begin, .func (PySem.W.fnOf "common_begin" "common_begin" (defArgs s_common_begin) (defBody s_common_begin) (defScope s_common_begin) .none kV_common_begin dc_common_begin pm_common_begin an_common_begin cd_common_begin ct_common_begin), sl_common_begin⟩)
    (c_common_begin : PySem.W.codeIn K cd_common_begin "common_begin" = true)
    (k_common_begin : PySem.W.keepIn K (.ref f_common_begin) = true)
    (a_least_splice : PySem.W.nsIn K mainGlobals "least_splice" = some (some (.ref f_least_splice)))
    (l_least_splice : K.lookup f_least_splice = some ⟨oc_least_splice, od_least_splice, .func (PySem.W.fnOf "least_splice" "least_splice" (defArgs s_least_splice) (defBody s_least_splice) (defScope s_least_splice) .none kV_least_splice dc_least_splice pm_least_splice an_least_splice cd_least_splice ct_least_splice), sl_least_splice⟩)
    (c_least_splice : PySem.W.codeIn K cd_least_splice "least_splice" = true)
    (k_least_splice : PySem.W.keepIn K (.ref f_least_splice) = true)
    (a_first_strange : PySem.W.nsIn K mainGlobals "first_strange" = some (some (.ref f_first_strange)))
    (l_first_strange : K.lookup f_first_strange = some ⟨oc_first_strange, od_first_strange, .func (PySem.W.fnOf "first_strange" "first_strange" (defArgs s_first_strange) (defBody s_first_strange) (defScope s_first_strange) .none kV_first_strange dc_first_strange pm_first_strange an_first_strange cd_first_strange ct_first_strange), sl_first_strange⟩)
    (c_first_strange : PySem.W.codeIn K cd_first_strange "first_strange" = true)
    (k_first_strange : PySem.W.keepIn K (.ref f_first_strange) = true)
    (a_is_text : PySem.W.nsIn K mainGlobals "is_text" = some (some (.ref f_is_text)))
    (l_is_text : K.lookup f_is_text = some ⟨oc_is_text, od_is_text, .func (PySem.W.fnOf "is_text" "is_text" (defArgs s_is_text) (defBody s_is_text) (defScope s_is_text) .none kV_is_text dc_is_text pm_is_text an_is_text cd_is_text ct_is_text), sl_is_text⟩)
    (c_is_text : PySem.W.codeIn K cd_is_text "is_text" = true)
    (k_is_text : PySem.W.keepIn K (.ref f_is_text) = true)
    (a_is_number : PySem.W.nsIn K mainGlobals "is_number" = some (some (.ref f_is_number)))
    (l_is_number : K.lookup f_is_number = some ⟨oc_is_number, od_is_number, .func (PySem.W.fnOf "is_number" "is_number" (defArgs s_is_number) (defBody s_is_number) (defScope s_is_number) .none kV_is_number dc_is_number pm_is_number an_is_number cd_is_number ct_is_number), sl_is_number⟩)
    (c_is_number : PySem.W.codeIn K cd_is_number "is_number" = true)
    (k_is_number : PySem.W.keepIn K (.ref f_is_number) = true)
    (a_is_splice : PySem.W.nsIn K mainGlobals "is_splice" = some (some (.ref f_is_splice)))
    (l_is_splice : K.lookup f_is_splice = some ⟨oc_is_splice, od_is_splice, .func (PySem.W.fnOf "is_splice" "is_splice" (defArgs s_is_splice) (defBody s_is_splice) (defScope s_is_splice) .none kV_is_splice dc_is_splice pm_is_splice an_is_splice cd_is_splice ct_is_splice), sl_is_splice⟩)
    (c_is_splice : PySem.W.codeIn K cd_is_splice "is_splice" = true)
    (k_is_splice : PySem.W.keepIn K (.ref f_is_splice) = true)
    (a_follows : PySem.W.nsIn K mainGlobals "follows" = some (some (.ref f_follows)))
    (l_follows : K.lookup f_follows = some ⟨oc_follows, od_follows, .func (PySem.W.fnOf "follows" "follows" (defArgs s_follows) (defBody s_follows) (defScope s_follows) .none kV_follows dc_follows pm_follows an_follows cd_follows ct_follows), sl_follows⟩)
    (c_follows : PySem.W.codeIn K cd_follows "follows" = true)
    (k_follows : PySem.W.keepIn K (.ref f_follows) = true)
    (a_check_round : PySem.W.nsIn K mainGlobals "check_round" = some (some (.ref f_check_round)))
    (l_check_round : K.lookup f_check_round = some ⟨oc_check_round, od_check_round, .func (PySem.W.fnOf "check_round" "check_round" (defArgs s_check_round) (defBody s_check_round) (defScope s_check_round) .none kV_check_round dc_check_round pm_check_round an_check_round cd_check_round ct_check_round), sl_check_round⟩)
    (c_check_round : PySem.W.codeIn K cd_check_round "check_round" = true)
    (k_check_round : PySem.W.keepIn K (.ref f_check_round) = true)
    (a_spliced : PySem.W.nsIn K mainGlobals "spliced" = some (some (.ref f_spliced)))
    (l_spliced : K.lookup f_spliced = some ⟨oc_spliced, od_spliced, .func (PySem.W.fnOf "spliced" "spliced" (defArgs s_spliced) (defBody s_spliced) (defScope s_spliced) .none kV_spliced dc_spliced pm_spliced an_spliced cd_spliced ct_spliced), sl_spliced⟩)
    (c_spliced : PySem.W.codeIn K cd_spliced "spliced" = true)
    (k_spliced : PySem.W.keepIn K (.ref f_spliced) = true)
    (a_back_round : PySem.W.nsIn K mainGlobals "back_round" = some (some (.ref f_back_round)))
    (l_back_round : K.lookup f_back_round = some ⟨oc_back_round, od_back_round, .func (PySem.W.fnOf "back_round" "back_round" (defArgs s_back_round) (defBody s_back_round) (defScope s_back_round) .none kV_back_round dc_back_round pm_back_round an_back_round cd_back_round ct_back_round), sl_back_round⟩)
    (c_back_round : PySem.W.codeIn K cd_back_round "back_round" = true)
    (k_back_round : PySem.W.keepIn K (.ref f_back_round) = true)
    (a_law_start : PySem.W.nsIn K mainGlobals "_law_start" = some (some (.ref f_law_start)))
    (l_law_start : K.lookup f_law_start = some ⟨oc_law_start, od_law_start, .func (PySem.W.fnOf "_law_start" "_law_start" (defArgs s_law_start) (defBody s_law_start) (defScope s_law_start) .none kV_law_start dc_law_start pm_law_start an_law_start cd_law_start ct_law_start), sl_law_start⟩)
    (c_law_start : PySem.W.codeIn K cd_law_start "_law_start" = true)
    (k_law_start : PySem.W.keepIn K (.ref f_law_start) = true)
    (a_law_draw : PySem.W.nsIn K mainGlobals "_law_draw" = some (some (.ref f_law_draw)))
    (l_law_draw : K.lookup f_law_draw = some ⟨oc_law_draw, od_law_draw, .func (PySem.W.fnOf "_law_draw" "_law_draw" (defArgs s_law_draw) (defBody s_law_draw) (defScope s_law_draw) .none kV_law_draw dc_law_draw pm_law_draw an_law_draw cd_law_draw ct_law_draw), sl_law_draw⟩)
    (c_law_draw : PySem.W.codeIn K cd_law_draw "_law_draw" = true)
    (k_law_draw : PySem.W.keepIn K (.ref f_law_draw) = true)
    (a_law_word : PySem.W.nsIn K mainGlobals "_law_word" = some (some (.ref f_law_word)))
    (l_law_word : K.lookup f_law_word = some ⟨oc_law_word, od_law_word, .func (PySem.W.fnOf "_law_word" "_law_word" (defArgs s_law_word) (defBody s_law_word) (defScope s_law_word) .none kV_law_word dc_law_word pm_law_word an_law_word cd_law_word ct_law_word), sl_law_word⟩)
    (c_law_word : PySem.W.codeIn K cd_law_word "_law_word" = true)
    (k_law_word : PySem.W.keepIn K (.ref f_law_word) = true)
    (a_law_signs : PySem.W.nsIn K mainGlobals "_law_signs" = some (some (.ref f_law_signs)))
    (l_law_signs : K.lookup f_law_signs = some ⟨oc_law_signs, od_law_signs, .func (PySem.W.fnOf "_law_signs" "_law_signs" (defArgs s_law_signs) (defBody s_law_signs) (defScope s_law_signs) .none kV_law_signs dc_law_signs pm_law_signs an_law_signs cd_law_signs ct_law_signs), sl_law_signs⟩)
    (c_law_signs : PySem.W.codeIn K cd_law_signs "_law_signs" = true)
    (k_law_signs : PySem.W.keepIn K (.ref f_law_signs) = true)
    (a_law_round : PySem.W.nsIn K mainGlobals "_law_round" = some (some (.ref f_law_round)))
    (l_law_round : K.lookup f_law_round = some ⟨oc_law_round, od_law_round, .func (PySem.W.fnOf "_law_round" "_law_round" (defArgs s_law_round) (defBody s_law_round) (defScope s_law_round) .none kV_law_round dc_law_round pm_law_round an_law_round cd_law_round ct_law_round), sl_law_round⟩)
    (c_law_round : PySem.W.codeIn K cd_law_round "_law_round" = true)
    (k_law_round : PySem.W.keepIn K (.ref f_law_round) = true)
    (a_law_done : PySem.W.nsIn K mainGlobals "_law_done" = some (some (.ref f_law_done)))
    (l_law_done : K.lookup f_law_done = some ⟨oc_law_done, od_law_done, .func (PySem.W.fnOf "_law_done" "_law_done" (defArgs s_law_done) (defBody s_law_done) (defScope s_law_done) .none kV_law_done dc_law_done pm_law_done an_law_done cd_law_done ct_law_done), sl_law_done⟩)
    (c_law_done : PySem.W.codeIn K cd_law_done "_law_done" = true)
    (k_law_done : PySem.W.keepIn K (.ref f_law_done) = true)
    (a_law_singles : PySem.W.nsIn K mainGlobals "_law_singles" = some (some (.ref f_law_singles)))
    (l_law_singles : K.lookup f_law_singles = some ⟨oc_law_singles, od_law_singles, .func (PySem.W.fnOf "_law_singles" "_law_singles" (defArgs s_law_singles) (defBody s_law_singles) (defScope s_law_singles) .none kV_law_singles dc_law_singles pm_law_singles an_law_singles cd_law_singles ct_law_singles), sl_law_singles⟩)
    (c_law_singles : PySem.W.codeIn K cd_law_singles "_law_singles" = true)
    (k_law_singles : PySem.W.keepIn K (.ref f_law_singles) = true)
    (a_law_least : PySem.W.nsIn K mainGlobals "_law_least" = some (some (.ref f_law_least)))
    (l_law_least : K.lookup f_law_least = some ⟨oc_law_least, od_law_least, .func (PySem.W.fnOf "_law_least" "_law_least" (defArgs s_law_least) (defBody s_law_least) (defScope s_law_least) .none kV_law_least dc_law_least pm_law_least an_law_least cd_law_least ct_law_least), sl_law_least⟩)
    (c_law_least : PySem.W.codeIn K cd_law_least "_law_least" = true)
    (k_law_least : PySem.W.keepIn K (.ref f_law_least) = true)
    (a_law_reach : PySem.W.nsIn K mainGlobals "_law_reach" = some (some (.ref f_law_reach)))
    (l_law_reach : K.lookup f_law_reach = some ⟨oc_law_reach, od_law_reach, .func (PySem.W.fnOf "_law_reach" "_law_reach" (defArgs s_law_reach) (defBody s_law_reach) (defScope s_law_reach) .none kV_law_reach dc_law_reach pm_law_reach an_law_reach cd_law_reach ct_law_reach), sl_law_reach⟩)
    (c_law_reach : PySem.W.codeIn K cd_law_reach "_law_reach" = true)
    (k_law_reach : PySem.W.keepIn K (.ref f_law_reach) = true)
    (a_law_least_long : PySem.W.nsIn K mainGlobals "_law_least_long" = some (some (.ref f_law_least_long)))
    (l_law_least_long : K.lookup f_law_least_long = some ⟨oc_law_least_long, od_law_least_long, .func (PySem.W.fnOf "_law_least_long" "_law_least_long" (defArgs s_law_least_long) (defBody s_law_least_long) (defScope s_law_least_long) .none kV_law_least_long dc_law_least_long pm_law_least_long an_law_least_long cd_law_least_long ct_law_least_long), sl_law_least_long⟩)
    (c_law_least_long : PySem.W.codeIn K cd_law_least_long "_law_least_long" = true)
    (k_law_least_long : PySem.W.keepIn K (.ref f_law_least_long) = true)
    (a_law_back : PySem.W.nsIn K mainGlobals "_law_back" = some (some (.ref f_law_back)))
    (l_law_back : K.lookup f_law_back = some ⟨oc_law_back, od_law_back, .func (PySem.W.fnOf "_law_back" "_law_back" (defArgs s_law_back) (defBody s_law_back) (defScope s_law_back) .none kV_law_back dc_law_back pm_law_back an_law_back cd_law_back ct_law_back), sl_law_back⟩)
    (c_law_back : PySem.W.codeIn K cd_law_back "_law_back" = true)
    (k_law_back : PySem.W.keepIn K (.ref f_law_back) = true)
    (a_law_is_splice : PySem.W.nsIn K mainGlobals "_law_is_splice" = some (some (.ref f_law_is_splice)))
    (l_law_is_splice : K.lookup f_law_is_splice = some ⟨oc_law_is_splice, od_law_is_splice, .func (PySem.W.fnOf "_law_is_splice" "_law_is_splice" (defArgs s_law_is_splice) (defBody s_law_is_splice) (defScope s_law_is_splice) .none kV_law_is_splice dc_law_is_splice pm_law_is_splice an_law_is_splice cd_law_is_splice ct_law_is_splice), sl_law_is_splice⟩)
    (c_law_is_splice : PySem.W.codeIn K cd_law_is_splice "_law_is_splice" = true)
    (k_law_is_splice : PySem.W.keepIn K (.ref f_law_is_splice) = true)
    (a_law_same : PySem.W.nsIn K mainGlobals "_law_same" = some (some (.ref f_law_same)))
    (l_law_same : K.lookup f_law_same = some ⟨oc_law_same, od_law_same, .func (PySem.W.fnOf "_law_same" "_law_same" (defArgs s_law_same) (defBody s_law_same) (defScope s_law_same) .none kV_law_same dc_law_same pm_law_same an_law_same cd_law_same ct_law_same), sl_law_same⟩)
    (c_law_same : PySem.W.codeIn K cd_law_same "_law_same" = true)
    (k_law_same : PySem.W.keepIn K (.ref f_law_same) = true)
    (a_law_same_round : PySem.W.nsIn K mainGlobals "_law_same_round" = some (some (.ref f_law_same_round)))
    (l_law_same_round : K.lookup f_law_same_round = some ⟨oc_law_same_round, od_law_same_round, .func (PySem.W.fnOf "_law_same_round" "_law_same_round" (defArgs s_law_same_round) (defBody s_law_same_round) (defScope s_law_same_round) .none kV_law_same_round dc_law_same_round pm_law_same_round an_law_same_round cd_law_same_round ct_law_same_round), sl_law_same_round⟩)
    (c_law_same_round : PySem.W.codeIn K cd_law_same_round "_law_same_round" = true)
    (k_law_same_round : PySem.W.keepIn K (.ref f_law_same_round) = true)
    (a_law_pair : PySem.W.nsIn K mainGlobals "_law_pair" = some (some (.ref f_law_pair)))
    (l_law_pair : K.lookup f_law_pair = some ⟨oc_law_pair, od_law_pair, .func (PySem.W.fnOf "_law_pair" "_law_pair" (defArgs s_law_pair) (defBody s_law_pair) (defScope s_law_pair) .none kV_law_pair dc_law_pair pm_law_pair an_law_pair cd_law_pair ct_law_pair), sl_law_pair⟩)
    (c_law_pair : PySem.W.codeIn K cd_law_pair "_law_pair" = true)
    (k_law_pair : PySem.W.keepIn K (.ref f_law_pair) = true)
    (a_law_backs : PySem.W.nsIn K mainGlobals "_law_backs" = some (some (.ref f_law_backs)))
    (l_law_backs : K.lookup f_law_backs = some ⟨oc_law_backs, od_law_backs, .func (PySem.W.fnOf "_law_backs" "_law_backs" (defArgs s_law_backs) (defBody s_law_backs) (defScope s_law_backs) .none kV_law_backs dc_law_backs pm_law_backs an_law_backs cd_law_backs ct_law_backs), sl_law_backs⟩)
    (c_law_backs : PySem.W.codeIn K cd_law_backs "_law_backs" = true)
    (k_law_backs : PySem.W.keepIn K (.ref f_law_backs) = true)
    (a_law_long : PySem.W.nsIn K mainGlobals "_law_long" = some (some (.ref f_law_long)))
    (l_law_long : K.lookup f_law_long = some ⟨oc_law_long, od_law_long, .func (PySem.W.fnOf "_law_long" "_law_long" (defArgs s_law_long) (defBody s_law_long) (defScope s_law_long) .none kV_law_long dc_law_long pm_law_long an_law_long cd_law_long ct_law_long), sl_law_long⟩)
    (c_law_long : PySem.W.codeIn K cd_law_long "_law_long" = true)
    (k_law_long : PySem.W.keepIn K (.ref f_law_long) = true)
    (a_law : PySem.W.nsIn K mainGlobals "law" = some (some (.ref f_law)))
    (l_law : K.lookup f_law = some ⟨oc_law, od_law, .func (PySem.W.fnOf "law" "law" (defArgs s_law) (defBody s_law) (defScope s_law) .none kV_law dc_law pm_law an_law cd_law ct_law), sl_law⟩)
    (c_law : PySem.W.codeIn K cd_law "law" = true)
    (k_law : PySem.W.keepIn K (.ref f_law) = true)
    (aC_BadSplice : PySem.W.nsIn K mainGlobals "BadSplice" = some (some (.ref C_BadSplice)))
    (xL_BadSplice : K.lookup C_BadSplice = some (excClassObj nm_BadSplice qn_BadSplice C_BadSplice N_BadSplice bs_BadSplice [.ref B_BadSplice_DeskError, .type "ValueError", .type "Exception", .type "BaseException", .type "object"] true sn_BadSplice su_BadSplice ab_BadSplice col_BadSplice dd_BadSplice m0_BadSplice m1_BadSplice m2_BadSplice m3_BadSplice m5_BadSplice "ValueError.__new__"))
    (sa_BadSplice : PySem.W.findIn K (.ref C_BadSplice) "__setattr__" = some (some (.builtin "object.__setattr__")))
    (ga_BadSplice : PySem.W.findIn K (.ref C_BadSplice) "__getattribute__" = some (some (.builtin "BaseException.__getattribute__")))
    (gg_BadSplice : PySem.W.findIn K (.ref C_BadSplice) "__getattr__" = some none)
    (na_BadSplice_at : PySem.W.findIn K (.ref C_BadSplice) "at" = some none)
    (iC_BadSplice : PySem.W.findIn K (.ref C_BadSplice) "__init__" = some (some (.ref fi_BadSplice)))
    (ti_BadSplice : PySem.W.typeIn K (.ref fi_BadSplice) = some (.type "function"))
    (li_BadSplice : K.lookup fi_BadSplice = some ⟨oc_BadSplice, od_BadSplice, .func (PySem.W.fnOf "__init__" "BadSplice.__init__" (defArgs s_init_BadSplice) (defBody s_init_BadSplice) (defScope s_init_BadSplice) .none kV_BadSplice dc_BadSplice pm_BadSplice an_BadSplice cd_BadSplice ct_BadSplice), sl_BadSplice⟩)
    (ci_BadSplice : PySem.W.codeIn K cd_BadSplice "BadSplice.__init__" = true)
    (ki_BadSplice : PySem.W.keepIn K (.ref fi_BadSplice) = true)
    (kC_BadSplice : PySem.W.keepIn K (.ref C_BadSplice) = true)
    (eC_BadSplice : PySem.W.subIn K (.ref C_BadSplice) (.type "BaseException") = some true)
    (tC_BadSplice : PySem.W.typeIn K (.ref C_BadSplice) = some (.type "type"))
    (hC_BadSplice : PySem.W.hasDictIn K C_BadSplice = true)
    (yC_BadSplice : PySem.W.isClsIn K C_BadSplice = true)
    (sC_BadSplice : PySem.W.subIn K (.ref C_BadSplice) (.ref C_BadSplice) = some true)
    (v_ALPHABET : PySem.W.nsIn K mainGlobals "ALPHABET" = some (some (.str "\n !\"#$&'()*+,-./0123456789:;<=>?@ABCDEFGHIJKLMNOPQRSTUVWXYZ[\\]^_`abcdefghijklmnopqrstuvwxyz{|}~" tk_ALPHABET)))
    (z_bool : PySem.W.nsIn K mainGlobals "bool" = some none)
    (z_enumerate : PySem.W.nsIn K mainGlobals "enumerate" = some none)
    (z_int : PySem.W.nsIn K mainGlobals "int" = some none)
    (z_isinstance : PySem.W.nsIn K mainGlobals "isinstance" = some none)
    (z_len : PySem.W.nsIn K mainGlobals "len" = some none)
    (z_max : PySem.W.nsIn K mainGlobals "max" = some none)
    (z_min : PySem.W.nsIn K mainGlobals "min" = some none)
    (z_range : PySem.W.nsIn K mainGlobals "range" = some none)
    (z_str : PySem.W.nsIn K mainGlobals "str" = some none)
    (z_tuple : PySem.W.nsIn K mainGlobals "tuple" = some none)
    (z_zip : PySem.W.nsIn K mainGlobals "zip" = some none) :
    ∃ fd : FuncData, (∀ (s : Shared) (v : Value), BindsTo s fd ⟨[v], []⟩ [("_law_script", v)]) ∧ ∀ base : Heap, K.In base → base.Ns mainGlobals mg → FnOk l.prog w K mg base CX0 8 fa fd ["_law_script"] (sp_law K) := by
  have e := hfa.symm.trans (PySem.W.mg_of X G a_law)
  cases e
  have F_common_begin := fun_mk (st := s_common_begin) l_common_begin c_common_begin k_common_begin
  have F_least_splice := fun_mk (st := s_least_splice) l_least_splice c_least_splice k_least_splice
  have F_first_strange := fun_mk (st := s_first_strange) l_first_strange c_first_strange k_first_strange
  have F_is_text := fun_mk (st := s_is_text) l_is_text c_is_text k_is_text
  have F_is_number := fun_mk (st := s_is_number) l_is_number c_is_number k_is_number
  have F_is_splice := fun_mk (st := s_is_splice) l_is_splice c_is_splice k_is_splice
  have F_follows := fun_mk (st := s_follows) l_follows c_follows k_follows
  have F_check_round := fun_mk (st := s_check_round) l_check_round c_check_round k_check_round
  have F_spliced := fun_mk (st := s_spliced) l_spliced c_spliced k_spliced
  have F_back_round := fun_mk (st := s_back_round) l_back_round c_back_round k_back_round
  have F_law_start := fun_mk (st := s_law_start) l_law_start c_law_start k_law_start
  have F_law_draw := fun_mk (st := s_law_draw) l_law_draw c_law_draw k_law_draw
  have F_law_word := fun_mk (st := s_law_word) l_law_word c_law_word k_law_word
  have F_law_signs := fun_mk (st := s_law_signs) l_law_signs c_law_signs k_law_signs
  have F_law_round := fun_mk (st := s_law_round) l_law_round c_law_round k_law_round
  have F_law_done := fun_mk (st := s_law_done) l_law_done c_law_done k_law_done
  have F_law_singles := fun_mk (st := s_law_singles) l_law_singles c_law_singles k_law_singles
  have F_law_least := fun_mk (st := s_law_least) l_law_least c_law_least k_law_least
  have F_law_reach := fun_mk (st := s_law_reach) l_law_reach c_law_reach k_law_reach
  have F_law_least_long := fun_mk (st := s_law_least_long) l_law_least_long c_law_least_long k_law_least_long
  have F_law_back := fun_mk (st := s_law_back) l_law_back c_law_back k_law_back
  have F_law_is_splice := fun_mk (st := s_law_is_splice) l_law_is_splice c_law_is_splice k_law_is_splice
  have F_law_same := fun_mk (st := s_law_same) l_law_same c_law_same k_law_same
  have F_law_same_round := fun_mk (st := s_law_same_round) l_law_same_round c_law_same_round k_law_same_round
  have F_law_pair := fun_mk (st := s_law_pair) l_law_pair c_law_pair k_law_pair
  have F_law_backs := fun_mk (st := s_law_backs) l_law_backs c_law_backs k_law_backs
  have F_law_long := fun_mk (st := s_law_long) l_law_long c_law_long k_law_long
  have F_law := fun_mk (st := s_law) l_law c_law k_law
  have F_BadSplice := fun_mk (st := s_init_BadSplice) li_BadSplice ci_BadSplice ki_BadSplice
  let T : Txt K mg := {
    a_common_begin := _, d_common_begin := _, F_common_begin := F_common_begin, b_common_begin := F_common_begin.binds (ps := ["one", "other"]) (fun _ _ _ _ _ _ us hl => match us, hl with | [_, _], _ => rfl), g_common_begin := PySem.W.mg_of X G a_common_begin,
    a_least_splice := _, d_least_splice := _, F_least_splice := F_least_splice, b_least_splice := F_least_splice.binds (ps := ["before", "after"]) (fun _ _ _ _ _ _ us hl => match us, hl with | [_, _], _ => rfl), g_least_splice := PySem.W.mg_of X G a_least_splice,
    a_first_strange := _, d_first_strange := _, F_first_strange := F_first_strange, b_first_strange := F_first_strange.binds (ps := ["text"]) (fun _ _ _ _ _ _ us hl => match us, hl with | [_], _ => rfl), g_first_strange := PySem.W.mg_of X G a_first_strange,
    a_is_text := _, d_is_text := _, F_is_text := F_is_text, b_is_text := F_is_text.binds (ps := ["thing"]) (fun _ _ _ _ _ _ us hl => match us, hl with | [_], _ => rfl), g_is_text := PySem.W.mg_of X G a_is_text,
    a_is_number := _, d_is_number := _, F_is_number := F_is_number, b_is_number := F_is_number.binds (ps := ["thing"]) (fun _ _ _ _ _ _ us hl => match us, hl with | [_], _ => rfl), g_is_number := PySem.W.mg_of X G a_is_number,
    a_is_splice := _, d_is_splice := _, F_is_splice := F_is_splice, b_is_splice := F_is_splice.binds (ps := ["thing"]) (fun _ _ _ _ _ _ us hl => match us, hl with | [_], _ => rfl), g_is_splice := PySem.W.mg_of X G a_is_splice,
    a_follows := _, d_follows := _, F_follows := F_follows, b_follows := F_follows.binds (ps := ["before", "splice"]) (fun _ _ _ _ _ _ us hl => match us, hl with | [_, _], _ => rfl), g_follows := PySem.W.mg_of X G a_follows,
    a_check_round := _, d_check_round := _, F_check_round := F_check_round, b_check_round := F_check_round.binds (ps := ["size", "splices"]) (fun _ _ _ _ _ _ us hl => match us, hl with | [_, _], _ => rfl), g_check_round := PySem.W.mg_of X G a_check_round,
    a_spliced := _, d_spliced := _, F_spliced := F_spliced, b_spliced := F_spliced.binds (ps := ["text", "splices"]) (fun _ _ _ _ _ _ us hl => match us, hl with | [_, _], _ => rfl), g_spliced := PySem.W.mg_of X G a_spliced,
    a_back_round := _, d_back_round := _, F_back_round := F_back_round, b_back_round := F_back_round.binds (ps := ["text", "splices"]) (fun _ _ _ _ _ _ us hl => match us, hl with | [_, _], _ => rfl), g_back_round := PySem.W.mg_of X G a_back_round,
    a_law_start := _, d_law_start := _, F_law_start := F_law_start, b_law_start := F_law_start.binds (ps := ["_law_script"]) (fun _ _ _ _ _ _ us hl => match us, hl with | [_], _ => rfl), g_law_start := PySem.W.mg_of X G a_law_start,
    a_law_draw := _, d_law_draw := _, F_law_draw := F_law_draw, b_law_draw := F_law_draw.binds (ps := ["_law_state", "_law_many"]) (fun _ _ _ _ _ _ us hl => match us, hl with | [_, _], _ => rfl), g_law_draw := PySem.W.mg_of X G a_law_draw,
    a_law_word := _, d_law_word := _, F_law_word := F_law_word, b_law_word := F_law_word.binds (ps := ["_law_state", "_law_signs_here", "_law_size"]) (fun _ _ _ _ _ _ us hl => match us, hl with | [_, _, _], _ => rfl), g_law_word := PySem.W.mg_of X G a_law_word,
    a_law_signs := _, d_law_signs := _, F_law_signs := F_law_signs, b_law_signs := F_law_signs.binds (ps := ["_law_state"]) (fun _ _ _ _ _ _ us hl => match us, hl with | [_], _ => rfl), g_law_signs := PySem.W.mg_of X G a_law_signs,
    a_law_round := _, d_law_round := _, F_law_round := F_law_round, b_law_round := F_law_round.binds (ps := ["_law_state", "_law_signs_here", "_law_size", "_law_most"]) (fun _ _ _ _ _ _ us hl => match us, hl with | [_, _, _, _], _ => rfl), g_law_round := PySem.W.mg_of X G a_law_round,
    a_law_done := _, d_law_done := _, F_law_done := F_law_done, b_law_done := F_law_done.binds (ps := ["_law_text", "_law_row"]) (fun _ _ _ _ _ _ us hl => match us, hl with | [_, _], _ => rfl), g_law_done := PySem.W.mg_of X G a_law_done,
    a_law_singles := _, d_law_singles := _, F_law_singles := F_law_singles, b_law_singles := F_law_singles.binds (ps := ["_law_before", "_law_after"]) (fun _ _ _ _ _ _ us hl => match us, hl with | [_, _], _ => rfl), g_law_singles := PySem.W.mg_of X G a_law_singles,
    a_law_least := _, d_law_least := _, F_law_least := F_law_least, b_law_least := F_law_least.binds (ps := ["_law_before", "_law_after"]) (fun _ _ _ _ _ _ us hl => match us, hl with | [_, _], _ => rfl), g_law_least := PySem.W.mg_of X G a_law_least,
    a_law_reach := _, d_law_reach := _, F_law_reach := F_law_reach, b_law_reach := F_law_reach.binds (ps := ["_law_before", "_law_after"]) (fun _ _ _ _ _ _ us hl => match us, hl with | [_, _], _ => rfl), g_law_reach := PySem.W.mg_of X G a_law_reach,
    a_law_least_long := _, d_law_least_long := _, F_law_least_long := F_law_least_long, b_law_least_long := F_law_least_long.binds (ps := ["_law_before", "_law_after"]) (fun _ _ _ _ _ _ us hl => match us, hl with | [_, _], _ => rfl), g_law_least_long := PySem.W.mg_of X G a_law_least_long,
    a_law_back := _, d_law_back := _, F_law_back := F_law_back, b_law_back := F_law_back.binds (ps := ["_law_text", "_law_row", "_law_turned"]) (fun _ _ _ _ _ _ us hl => match us, hl with | [_, _, _], _ => rfl), g_law_back := PySem.W.mg_of X G a_law_back,
    a_law_is_splice := _, d_law_is_splice := _, F_law_is_splice := F_law_is_splice, b_law_is_splice := F_law_is_splice.binds (ps := ["_law_thing"]) (fun _ _ _ _ _ _ us hl => match us, hl with | [_], _ => rfl), g_law_is_splice := PySem.W.mg_of X G a_law_is_splice,
    a_law_same := _, d_law_same := _, F_law_same := F_law_same, b_law_same := F_law_same.binds (ps := ["_law_due", "_law_told"]) (fun _ _ _ _ _ _ us hl => match us, hl with | [_, _], _ => rfl), g_law_same := PySem.W.mg_of X G a_law_same,
    a_law_same_round := _, d_law_same_round := _, F_law_same_round := F_law_same_round, b_law_same_round := F_law_same_round.binds (ps := ["_law_due", "_law_told"]) (fun _ _ _ _ _ _ us hl => match us, hl with | [_, _], _ => rfl), g_law_same_round := PySem.W.mg_of X G a_law_same_round,
    a_law_pair := _, d_law_pair := _, F_law_pair := F_law_pair, b_law_pair := F_law_pair.binds (ps := ["_law_before", "_law_after"]) (fun _ _ _ _ _ _ us hl => match us, hl with | [_, _], _ => rfl), g_law_pair := PySem.W.mg_of X G a_law_pair,
    a_law_backs := _, d_law_backs := _, F_law_backs := F_law_backs, b_law_backs := F_law_backs.binds (ps := ["_law_text", "_law_row"]) (fun _ _ _ _ _ _ us hl => match us, hl with | [_, _], _ => rfl), g_law_backs := PySem.W.mg_of X G a_law_backs,
    a_law_long := _, d_law_long := _, F_law_long := F_law_long, b_law_long := F_law_long.binds (ps := ["_law_state", "_law_signs_here"]) (fun _ _ _ _ _ _ us hl => match us, hl with | [_, _], _ => rfl), g_law_long := PySem.W.mg_of X G a_law_long,
    a_law := _, d_law := _, F_law := F_law, b_law := F_law.binds (ps := ["_law_script"]) (fun _ _ _ _ _ _ us hl => match us, hl with | [_], _ => rfl), g_law := PySem.W.mg_of X G a_law,
    c_BadSplice := C_BadSplice, ai_BadSplice := fi_BadSplice, d_BadSplice := _, F_BadSplice := F_BadSplice, b_BadSplice := F_BadSplice.binds (ps := ["self", "at"]) (fun _ _ _ _ _ _ us hl => match us, hl with | [_, _], _ => rfl), g_BadSplice := PySem.W.mg_of X G aC_BadSplice,
    o_BadSplice := ⟨⟨_, _, _, _, _, _, _, _, _, _, _, _, _, _, _, xL_BadSplice, rfl⟩, sa_BadSplice, eC_BadSplice, tC_BadSplice, kC_BadSplice⟩, x_BadSplice := ⟨ga_BadSplice, gg_BadSplice, eC_BadSplice, hC_BadSplice⟩,
    i_BadSplice := iC_BadSplice, ti_BadSplice := ti_BadSplice, e_BadSplice := exm_self eC_BadSplice yC_BadSplice tC_BadSplice sC_BadSplice,
    na_BadSplice_at := na_BadSplice_at,
    t_ALPHABET := tk_ALPHABET, g_ALPHABET := PySem.W.mg_of X G v_ALPHABET,
    n_bool := PySem.W.mg_none_of X G z_bool,
    n_enumerate := PySem.W.mg_none_of X G z_enumerate,
    n_int := PySem.W.mg_none_of X G z_int,
    n_isinstance := PySem.W.mg_none_of X G z_isinstance,
    n_len := PySem.W.mg_none_of X G z_len,
    n_max := PySem.W.mg_none_of X G z_max,
    n_min := PySem.W.mg_none_of X G z_min,
    n_range := PySem.W.mg_none_of X G z_range,
    n_str := PySem.W.mg_none_of X G z_str,
    n_tuple := PySem.W.mg_none_of X G z_tuple,
    n_zip := PySem.W.mg_none_of X G z_zip }
  exact ⟨PySem.W.fnOf "law" "law" (defArgs s_law) (defBody s_law) (defScope s_law) .none kV_law dc_law pm_law an_law cd_law ct_law, fun s v => .of_eq rfl, fun base _ _ => ok_law T⟩
end K15
open PySem PySem.W PyProof.Rows
set_option maxHeartbeats 0 in
theorem PySem.Challenge.cw_deedstand_k15_whole_least_and_back_holds : PySem.Challenge.rw_deedstand_k15_whole_least_and_back.Holds := by
  w_on; o_law; k_head; (case hw => w_witness2)
  k_fill
  refine L2.walk_of (l := PySem.Challenge.rw_deedstand_k15_whole_least_and_back) (n := 63) (k := 8) (x := "_law_script") (CX := fun _ => L2.CX0) (sp := fun w => K15.sp_law _) rfl (by decide) rfl ⟨rfl, by decide, by decide⟩ (fun w h Y => PySem.W.kIn_of Y) ?F (fun _ _ a ns hl _ hS => ⟨a, ns, rfl, hS, hl, fun _ => rfl⟩) (fun _ _ _ _ _ h => h)
  case F =>
    intro w mg fa h KX G hmg
    refine' K15.all_mk KX G hmg ?a_common_begin ?l_common_begin ?c_common_begin ?k_common_begin ?a_least_splice ?l_least_splice ?c_least_splice ?k_least_splice ?a_first_strange ?l_first_strange ?c_first_strange ?k_first_strange ?a_is_text ?l_is_text ?c_is_text ?k_is_text ?a_is_number ?l_is_number ?c_is_number ?k_is_number ?a_is_splice ?l_is_splice ?c_is_splice ?k_is_splice ?a_follows ?l_follows ?c_follows ?k_follows ?a_check_round ?l_check_round ?c_check_round ?k_check_round ?a_spliced ?l_spliced ?c_spliced ?k_spliced ?a_back_round ?l_back_round ?c_back_round ?k_back_round ?a_law_start ?l_law_start ?c_law_start ?k_law_start ?a_law_draw ?l_law_draw ?c_law_draw ?k_law_draw ?a_law_word ?l_law_word ?c_law_word ?k_law_word ?a_law_signs ?l_law_signs ?c_law_signs ?k_law_signs ?a_law_round ?l_law_round ?c_law_round ?k_law_round ?a_law_done ?l_law_done ?c_law_done ?k_law_done ?a_law_singles ?l_law_singles ?c_law_singles ?k_law_singles ?a_law_least ?l_law_least ?c_law_least ?k_law_least ?a_law_reach ?l_law_reach ?c_law_reach ?k_law_reach ?a_law_least_long ?l_law_least_long ?c_law_least_long ?k_law_least_long ?a_law_back ?l_law_back ?c_law_back ?k_law_back ?a_law_is_splice ?l_law_is_splice ?c_law_is_splice ?k_law_is_splice ?a_law_same ?l_law_same ?c_law_same ?k_law_same ?a_law_same_round ?l_law_same_round ?c_law_same_round ?k_law_same_round ?a_law_pair ?l_law_pair ?c_law_pair ?k_law_pair ?a_law_backs ?l_law_backs ?c_law_backs ?k_law_backs ?a_law_long ?l_law_long ?c_law_long ?k_law_long ?a_law ?l_law ?c_law ?k_law ?aC_BadSplice ?xL_BadSplice ?sa_BadSplice ?ga_BadSplice ?gg_BadSplice ?na_BadSplice_at ?iC_BadSplice ?ti_BadSplice ?li_BadSplice ?ci_BadSplice ?ki_BadSplice ?kC_BadSplice ?eC_BadSplice ?tC_BadSplice ?hC_BadSplice ?yC_BadSplice ?sC_BadSplice ?v_ALPHABET ?z_bool ?z_enumerate ?z_int ?z_isinstance ?z_len ?z_max ?z_min ?z_range ?z_str ?z_tuple ?z_zip
    (case a_common_begin => k_is)
    (case l_common_begin => k_is)
    (case c_common_begin => k_is)
    (case k_common_begin => k_is)
    (case a_least_splice => k_is)
    (case l_least_splice => k_is)
    (case c_least_splice => k_is)
    (case k_least_splice => k_is)
    (case a_first_strange => k_is)
    (case l_first_strange => k_is)
    (case c_first_strange => k_is)
    (case k_first_strange => k_is)
    (case a_is_text => k_is)
    (case l_is_text => k_is)
    (case c_is_text => k_is)
    (case k_is_text => k_is)
    (case a_is_number => k_is)
    (case l_is_number => k_is)
    (case c_is_number => k_is)
    (case k_is_number => k_is)
    (case a_is_splice => k_is)
    (case l_is_splice => k_is)
    (case c_is_splice => k_is)
    (case k_is_splice => k_is)
    (case a_follows => k_is)
    (case l_follows => k_is)
    (case c_follows => k_is)
    (case k_follows => k_is)
    (case a_check_round => k_is)
    (case l_check_round => k_is)
    (case c_check_round => k_is)
    (case k_check_round => k_is)
    (case a_spliced => k_is)
    (case l_spliced => k_is)
    (case c_spliced => k_is)
    (case k_spliced => k_is)
    (case a_back_round => k_is)
    (case l_back_round => k_is)
    (case c_back_round => k_is)
    (case k_back_round => k_is)
    (case a_law_start => k_is)
    (case l_law_start => k_is)
    (case c_law_start => k_is)
    (case k_law_start => k_is)
    (case a_law_draw => k_is)
    (case l_law_draw => k_is)
    (case c_law_draw => k_is)
    (case k_law_draw => k_is)
    (case a_law_word => k_is)
    (case l_law_word => k_is)
    (case c_law_word => k_is)
    (case k_law_word => k_is)
    (case a_law_signs => k_is)
    (case l_law_signs => k_is)
    (case c_law_signs => k_is)
    (case k_law_signs => k_is)
    (case a_law_round => k_is)
    (case l_law_round => k_is)
    (case c_law_round => k_is)
    (case k_law_round => k_is)
    (case a_law_done => k_is)
    (case l_law_done => k_is)
    (case c_law_done => k_is)
    (case k_law_done => k_is)
    (case a_law_singles => k_is)
    (case l_law_singles => k_is)
    (case c_law_singles => k_is)
    (case k_law_singles => k_is)
    (case a_law_least => k_is)
    (case l_law_least => k_is)
    (case c_law_least => k_is)
    (case k_law_least => k_is)
    (case a_law_reach => k_is)
    (case l_law_reach => k_is)
    (case c_law_reach => k_is)
    (case k_law_reach => k_is)
    (case a_law_least_long => k_is)
    (case l_law_least_long => k_is)
    (case c_law_least_long => k_is)
    (case k_law_least_long => k_is)
    (case a_law_back => k_is)
    (case l_law_back => k_is)
    (case c_law_back => k_is)
    (case k_law_back => k_is)
    (case a_law_is_splice => k_is)
    (case l_law_is_splice => k_is)
    (case c_law_is_splice => k_is)
    (case k_law_is_splice => k_is)
    (case a_law_same => k_is)
    (case l_law_same => k_is)
    (case c_law_same => k_is)
    (case k_law_same => k_is)
    (case a_law_same_round => k_is)
    (case l_law_same_round => k_is)
    (case c_law_same_round => k_is)
    (case k_law_same_round => k_is)
    (case a_law_pair => k_is)
    (case l_law_pair => k_is)
    (case c_law_pair => k_is)
    (case k_law_pair => k_is)
    (case a_law_backs => k_is)
    (case l_law_backs => k_is)
    (case c_law_backs => k_is)
    (case k_law_backs => k_is)
    (case a_law_long => k_is)
    (case l_law_long => k_is)
    (case c_law_long => k_is)
    (case k_law_long => k_is)
    (case a_law => k_is)
    (case l_law => k_is)
    (case c_law => k_is)
    (case k_law => k_is)
    (case aC_BadSplice => k_is)
    (case xL_BadSplice => k_is)
    (case sa_BadSplice => k_is)
    (case ga_BadSplice => k_is)
    (case gg_BadSplice => k_is)
    (case na_BadSplice_at => k_is)
    (case iC_BadSplice => k_is)
    (case ti_BadSplice => k_is)
    (case li_BadSplice => k_is)
    (case ci_BadSplice => k_is)
    (case ki_BadSplice => k_is)
    (case kC_BadSplice => k_is)
    (case eC_BadSplice => k_is)
    (case tC_BadSplice => k_is)
    (case hC_BadSplice => k_is)
    (case yC_BadSplice => k_is)
    (case sC_BadSplice => first | rfl | k_is)
    (case v_ALPHABET => k_is)
    (case z_bool => k_is)
    (case z_enumerate => k_is)
    (case z_int => k_is)
    (case z_isinstance => k_is)
    (case z_len => k_is)
    (case z_max => k_is)
    (case z_min => k_is)
    (case z_range => k_is)
    (case z_str => k_is)
    (case z_tuple => k_is)
    (case z_zip => k_is)