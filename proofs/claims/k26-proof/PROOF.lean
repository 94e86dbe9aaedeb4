import PyProof.Rows.All
import Wide.All
import OpenK.AllK
import Wide.FinOn
import HandS.ForMost
import HandS.Walk
import KE.GoesEnum
import HandS.Exc
import HandS.ExcOwn
import HandS.ExcInit
import HandS.ExcField
import HandS.TryOnly
import HandS.WordsExc
import HandS.IsInst
import HandS.Wide
import HandS.TupAny
import HandS.Flow
import HandS.Evl
import HandS.Deep
import HandS.Conv
import HandS.WideBits
import HandS.NoneIn
import HandS.Zip
import HandS.Rev
import PyProof.StrBlock2
import KE.DataMinMax
import HandS.SortRule
import KE.SortData
import KE.GoesZip
import KE.GoesMore
import KE.KRevSl
import HandS.Flt
import KE.KDictZip
import HandS.TupLe
import PySem.Challenge.RW_deedstand_k26_whole_chain_papers
set_option Elab.async false
set_option linter.all false
set_option maxRecDepth 100000
set_option maxHeartbeats 4000000
/-! enumerate over a tuple and over a text, one argument -/
namespace Dk
open PySem PySem.Spec PyProof.Rows L2
/-- the object that enumerate(v) makes -/
abbrev enObj (it : Addr) : Obj := { cls := .type "enumerate", data := .fields #[.none, .bool false, .ref it, rawInt 0, .none, .none] }
theorem enum_new1 {v : Value} {o : Obj} {G : Heap → Prop} (B : Begins v o G) :
    Meets (Builtin.«enumerate.__new__» ⟨[.type "enumerate", v], []⟩) fun _ R s =>
      G s.heap ∧ R (.ok (.ret (.ref (s.heap.push o).objs.size))) { s with heap := (s.heap.push o).push (enObj s.heap.objs.size) } := by
  refine .of_wp fun prog w A R s hh => ?_
  rcases s with ⟨hp, gs, dr, tk, os⟩
  obtain ⟨hG, hR⟩ := hh
  have hs := sub_enumerate
  have go : ∀ {A' : Around} {E : Value → Shared → Prop} {Q : Value → Shared → Prop},
      Q (.ref hp.objs.size) ⟨hp.push o, gs, dr, tk, os⟩ → wpAny (model prog w) A' (pyIter v) Q E ⟨hp, gs, dr, tk, os⟩ :=
    fun q => B.iter prog w _ _ ⟨hp, gs, dr, tk, os⟩ _ hG q
  wp_walk using go
  refine wpAny_stack_any fun st => ?_
  refine wpAny_pure ?_
  split
  · rename_i c _ _ _ _ _
    cases (c == Value.type "enumerate") <;> (wp_walk using go; exact ⟨_, rfl, hR⟩)
  · wp_walk using go
    exact ⟨_, rfl, hR⟩
section
variable {prog : Program} {w : World} {A : Around} {E : Value → Shared → Prop} {s : Shared}
theorem enum_call1 {v : Value} {o : Obj} {G : Heap → Prop} {Q : Value → Shared → Prop} (B : Begins v o G) (hG : G s.heap)
    (q : ∀ h', IsEnum h' (s.heap.objs.size + 1) s.heap.objs.size 0 .none → h'.get? s.heap.objs.size = some o →
      (∀ b u, s.heap.get? b = some u → h'.get? b = some u) → Q (.ref (s.heap.objs.size + 1)) { s with heap := h' }) :
    wpAny (model prog w) A (call (.type "enumerate") [v]) Q E s := by
  have sz : (s.heap.push o).objs.size = s.heap.objs.size + 1 := Heap.size_push ..
  have he : IsEnum ((s.heap.push o).push (enObj s.heap.objs.size)) (s.heap.objs.size + 1) s.heap.objs.size 0 .none := by
    have z := Heap.get?_push_size (s.heap.push o) (o := enObj s.heap.objs.size) rfl
    rw [sz] at z
    exact z
  refine callType_new F.called_enumerate (by decide) (F.typeCall_enumerate_1 _) (F.newCall_enumerate_1 _)
    (fun obj => F.args_object_init_2 obj _) F.entry_enumerate_new (enum_new1 B) ⟨hG, ?_⟩
  show _ ∧ _
  rw [sz]
  exact ⟨⟨_, he, rfl⟩, q _ he (Heap.get?_push_of_some _ (Heap.get?_push_size _ B.free))
    fun b u z => Heap.get?_push_of_some _ (Heap.get?_push_of_some _ z)⟩
end
/-- a new pair of the turn's number and f i -/
def ItE (G : Hp → Prop) (n : Nat) (Y : Nat → Hp → V → Prop) : It :=
  ⟨fun i H => G H ∧ i < n, fun i H v H' => ∃ T x, v = .ref T ∧ H T = none ∧ H' = upd H T (.tup [.int (i : Nat), x]) ∧ Y i H x, fun i H => G H ∧ i = n⟩
/-- what the source's own iterator does while the heap is so -/
structure Src (P : Program) (w : World) (K : PySem.W.Frag) (it : Addr) (G : Hp → Prop) (n : Nat) (Y : Nat → Hp → V → Prop) (Tn : Nat → Heap → Prop) : Prop where
  live : ∀ i h, Tn i h → ∃ o, h.get? it = some o ∧ ∀ v, o.data ≠ .cell v
  keep : ∀ i h h', Tn i h → (∀ o, h.get? it = some o → h'.get? it = some o) → Tn i h'
  draw : ∀ (X : Cx), X.prog = P → X.w = w → X.K = K → ∀ (pins : List (Addr × Obj)) (σ : L2.St) (H : Hp) (s : Shared) (i : Nat), Inv X pins σ H s → H it = none → G H → Tn i s.heap → X.A.handled = none →
    ∃ (fp : List Addr) (Pv : Nat → Value → Prop) (St' : Nat → Heap → Prop), Draws P w X.A.in1 it fp n Pv St' ∧ St' i s.heap ∧ (∀ e, H e = none → (∃ old j, IsEnum s.heap e it j old) → e ∉ fp) ∧
      (∀ j u, Pv j u → ∃ x, RelV x u ∧ Y j H x) ∧ ∀ j h, St' j h → Tn j h
theorem turn_E {P : Program} {w : World} {K : PySem.W.Frag} {elts : List Expr} {kk : Nat} {tpos : Pos} {e it : Addr} {G : Hp → Prop} {n : Nat} {Y : Nat → Hp → V → Prop} {Tn : Nat → Heap → Prop} (S : Src P w K it G n Y Tn) :
    Turn P w K (.Tuple elts kk tpos) (ItE G n Y) [e, it] e (fun i h => (∃ old, IsEnum h e it ((i : Nat) : Int) old) ∧ Tn i h ∧ e ≠ it) where
  mem := List.mem_cons_self ..
  obj := fun i h st b hb => by
    obtain ⟨⟨old, he⟩, hs, _⟩ := st
    rcases List.mem_cons.mp hb with z | z
    · subst z
      exact ⟨_, he, fun v q => nomatch q⟩
    · have z' := List.mem_singleton.mp z
      subst z'
      exact S.live i h hs
  keep := fun i h h' st k =>
    ⟨⟨st.1.choose, k e (List.mem_cons_self ..) _ st.1.choose_spec⟩, S.keep i h h' st.2.1 fun o q => k it (List.mem_cons_of_mem _ (List.mem_singleton.mpr rfl)) o q, st.2.2⟩
  item := by
    intro X hP hw hK hc i pins s σ H E I hf st hg
    obtain ⟨⟨old, he⟩, hs, hne⟩ := st
    have fe := hf e (by simp)
    have fi := hf it (by simp)
    obtain ⟨fp, Pv, St', D, hs', hef, hy, back⟩ := S.draw X hP hw hK pins σ H s i I fi.1 hg.1 hs (I.ok.hd hc)
    subst hP hw hK
    have hel : e < s.heap.objs.size := Heap.lt_size he
    obtain ⟨oi, hoi, _⟩ := S.live i _ hs
    have hil : it < s.heap.objs.size := Heap.lt_size hoi
    refine wpAny_pyNext_enum_itemC D he hs' hg.2 hne (hef e fe.1 ⟨_, _, he⟩) fun u h' tk hu ho hst hT hsz hk => ?_
    refine ⟨_, rfl, wpAny_letOwnedTupleGo_enum (s := { s with heap := h', toks := tk + 1 }) ho fun h2 he2 sb => ?_⟩
    obtain ⟨x, rx, yx⟩ := hy i u hu
    have hT2 : h2.get? s.heap.objs.size = some { cls := .type "tuple", data := .seq #[.int i tk, u] } := (sb.2 _ (Nat.ne_of_gt hel)).trans hT
    have new : ObjOk X.prog X.w (upd H s.heap.objs.size (.tup [.int (i : Nat), x])) h2 s.heap.objs.size (.tup [.int (i : Nat), x]) :=
      ⟨by show 2 ≤ sizeLine; decide, [.int i tk, u], .cons ⟨_, rfl⟩ (.cons rx .nil), _, hT2, rfl, _, rfl⟩
    have I1 : Inv X pins σ (upd H s.heap.objs.size (.tup [.int (i : Nat), x])) { s with heap := h2, toks := tk + 1 } := by
      refine I.turnedNew (ch := [e, it]) (fun b o hb q => ?_) hf (Nat.le_refl _) new
      have n1 : b ≠ e := fun z => hb (by simp [z])
      have n2 : b ≠ it := fun z => hb (by simp [z])
      exact (sb.2 b n1).trans (hk b o n1 n2 q)
    refine ⟨.ref s.heap.objs.size, _, I1, rfl, ⟨_, x, rfl, I.hok.fresh (Nat.le_refl _), rfl, yx⟩, ⟨⟨u, ?_⟩, ?_, hne⟩, fun b hb => ?_⟩
    · have e1 : ((i + 1 : Nat) : Int) = (i : Int) + 1 := by omega
      rw [e1]
      exact he2
    · exact S.keep _ _ _ (back _ _ hst) fun o q => (sb.2 it (Ne.symm hne)).trans q
    · have hb' : b < s.heap.objs.size := by
        rcases List.mem_cons.mp hb with z | z
        · exact z ▸ hel
        · exact (List.mem_singleton.mp z) ▸ hil
      rw [upd_ne (Nat.ne_of_lt hb')]
      exact (hf b hb).1
  done := by
    intro X hP hw hK hc i pins s σ H E I hf st hg
    obtain ⟨⟨old, he⟩, hs, hne⟩ := st
    obtain ⟨f0, f1, f2, f3, f4, f5⟩ := hf it (by simp)
    obtain ⟨fp, Pv, St', D, hs', hef, hy, back⟩ := S.draw X hP hw hK pins σ H s i I f0 hg.1 hs (I.ok.hd hc)
    subst hP hw hK
    rw [hg.2] at hs'
    exact wpAny_pyNext_enum_endD D he hs' fun h' eb => ⟨rfl, I.turned (t' := s.toks) (fun b o hb q => eb b o hb q) f0 f1 f3 f4 f5⟩
  self := fun A i s Q E st h => wpAny_pyIter_enum st.1.choose_spec h
theorem src_tup {P : Program} {w : World} {K : PySem.W.Frag} {a it : Addr} {xs : List V} :
    Src P w K it (fun H => SqT K H a xs) xs.length (fun i _ x => xs[i]? = some x) (fun i h => h.IsTupleIter it a i) where
  live := fun i h st => by
    obtain ⟨o, e, c, d⟩ := st
    exact ⟨o, e, fun v z => by rw [d] at z; cases z⟩
  keep := fun i h h' st k => st.at fun o e => k o e
  draw := by
    intro X hP hw hK pins σ H s i I hn hG st hh
    subst hP hw hK
    obtain ⟨its, rv, p, hz⟩ := I.tuple hG
    have pt : s.heap.IsTuple a its.toArray := p
    have hne : a ≠ it := by
      rintro rfl
      obtain ⟨o, e, c, _⟩ := pt
      obtain ⟨o', e', c', _⟩ := id st
      rw [e] at e'
      cases e'
      rw [c] at c'
      injection c' with q
      exact absurd q (by decide)
    have hl := rv.length
    refine ⟨[it, a], fun i v => its.toArray[i]? = some v, fun i h => h.IsTupleIter it a i ∧ h.IsTuple a its.toArray, ?_, ⟨st, pt⟩, fun e he hq => ?_, fun j u hu => ?_, fun j h z => z.1⟩
    · have D := Draws.tuple (prog := X.prog) (w := X.w) (A := X.A.in1) hh it a hne its.toArray
      rw [show its.toArray.size = xs.length by simp; omega] at D
      exact D
    · obtain ⟨old, j, hq⟩ := hq
      intro hm
      rcases List.mem_cons.mp hm with z | z
      · subst z
        obtain ⟨o, e', c, _⟩ := id st
        have hq' : s.heap.get? e = _ := hq
        rw [e'] at hq'
        cases hq'
        injection c with q
        exact absurd q (by decide)
      · have z' := List.mem_singleton.mp z
        subst z'
        obtain ⟨o, e', c, _⟩ := pt
        have hq' : s.heap.get? e = _ := hq
        rw [e'] at hq'
        cases hq'
        injection c with q
        exact absurd q (by decide)
    · have hu' : its[j]? = some u := by simpa using hu
      have hj : j < its.length := (List.getElem?_eq_some_iff.mp hu').1
      have hx : xs[j]? = some (xs[j]'(by omega)) := List.getElem?_eq_getElem (by omega)
      obtain ⟨u', h1, h2⟩ := rv.get hx
      rw [hu'] at h1
      cases h1
      exact ⟨_, h2, hx⟩
theorem src_str {P : Program} {w : World} {K : PySem.W.Frag} {it : Addr} {z : Str} {t : Tok} :
    Src P w K it (fun _ => True) z.cps.size (fun i _ x => ∃ c, z.cps[i]? = some c ∧ x = .str ⟨#[c]⟩) (fun i h => h.IsStrIter it (strIterType z) z t i) where
  live := fun i h st => by
    obtain ⟨o, e, c, d⟩ := st
    exact ⟨o, e, fun v z => by rw [d] at z; cases z⟩
  keep := fun i h h' st k => by
    obtain ⟨o, e, r⟩ := st
    exact ⟨o, k o e, r⟩
  draw := by
    intro X hP hw hK pins σ H s i I hn hG st hh
    subst hP hw hK
    refine ⟨[it], _, _, Draws.text (prog := X.prog) (w := X.w) (A := X.A.in1) hh it z t, st, fun e he hq hm => ?_, fun j u hu => ?_, fun j h z => z⟩
    · obtain ⟨old, j, hq⟩ := hq
      have z' := List.mem_singleton.mp hm
      subst z'
      obtain ⟨o, e', c, _⟩ := id st
      have hq' : s.heap.get? e = _ := hq
      rw [e'] at hq'
      cases hq'
      have c' : strIterType z = "enumerate" := by injection c with q; exact q.symm
      unfold strIterType at c'
      split at c' <;> exact absurd c' (by decide)
    · obtain ⟨c, u', h1, h2⟩ := hu
      exact ⟨.str ⟨#[c]⟩, ⟨u', h2⟩, c, h1, rfl⟩
def iEnumT (K : PySem.W.Frag) (ta : TA) : TI := fun σ H R => ta σ H fun vs H1 => ∃ a xs, vs = [.ref a] ∧ SqT K H1 a xs ∧ R (ItE (fun H => SqT K H a xs) xs.length fun i _ x => xs[i]? = some x) H1
def iEnumS (ta : TA) : TI := fun σ H R => ta σ H fun vs H1 => ∃ z, vs = [.str z] ∧ R (ItE (fun _ => True) z.cps.size fun i _ x => ∃ c, z.cps[i]? = some c ∧ x = .str ⟨#[c]⟩) H1
section
variable {X : Cx} {e : Expr} {ta : TA} {p pos tpos : Pos} {elts : List Expr} {kk : Nat}
theorem pi_enumT (hg : Gl X "enumerate") (hm : X.mg "enumerate" = none) (ha : PA X [e] ta) (hs : starEach [e] X.env = [(false, eval e X.env)] := by rfl) :
    PI X (.Tuple elts kk tpos) (.Call (.Name "enumerate" p) [e] [] pos) (iEnumT X.K ta) := by
  refine ⟨fun pins s σ H R I h => Call_ (ld_blt I hg hm boot_enumerate (PyProof.Rows.callWith_type1 (thn (ha.run pos pins s σ H _ I h) fun us s1 hh => ?_) hs rfl))⟩
  obtain ⟨vs, H1, I1, r1, a, xs, rfl, hq, q⟩ := hh
  obtain ⟨u, rfl, rx⟩ := vals1 r1
  cases rx
  obtain ⟨its, rv, pt, hz⟩ := I1.tuple hq
  refine enum_call1 (begins_tuple a its.toArray) pt fun h' he hit hk => wpAny_pyIter_enum he ?_
  have I2 : Inv X pins σ H1 { s1 with heap := h' } := I1.kept (t' := s1.toks) hk
  refine ⟨s1.heap.objs.size + 1, [s1.heap.objs.size + 1, s1.heap.objs.size], _, _, H1, rfl, I2, turn_E src_tup, ⟨⟨.none, he⟩, ⟨_, hit, rfl, rfl⟩, Nat.succ_ne_self _⟩, fun b hb => ?_, q⟩
  have hle : s1.heap.objs.size ≤ b := by
    rcases List.mem_cons.mp hb with z | z
    · exact z ▸ Nat.le_add_right _ _
    · exact (List.mem_singleton.mp z) ▸ Nat.le_refl _
  exact I1.fpOk hle (I1.hok.fresh hle)
theorem pi_enumS (hg : Gl X "enumerate") (hm : X.mg "enumerate" = none) (ha : PA X [e] ta) (hs : starEach [e] X.env = [(false, eval e X.env)] := by rfl) :
    PI X (.Tuple elts kk tpos) (.Call (.Name "enumerate" p) [e] [] pos) (iEnumS ta) := by
  refine ⟨fun pins s σ H R I h => Call_ (ld_blt I hg hm boot_enumerate (PyProof.Rows.callWith_type1 (thn (ha.run pos pins s σ H _ I h) fun us s1 hh => ?_) hs rfl))⟩
  obtain ⟨vs, H1, I1, r1, z, rfl, q⟩ := hh
  obtain ⟨u, rfl, rx⟩ := vals1 r1
  obtain ⟨t, rfl⟩ := rx
  refine enum_call1 (begins_text z t) trivial fun h' he hit hk => wpAny_pyIter_enum he ?_
  have I2 : Inv X pins σ H1 { s1 with heap := h' } := I1.kept (t' := s1.toks) hk
  refine ⟨s1.heap.objs.size + 1, [s1.heap.objs.size + 1, s1.heap.objs.size], _, _, H1, rfl, I2, turn_E src_str, ⟨⟨.none, he⟩, ⟨_, hit, rfl, rfl⟩, Nat.succ_ne_self _⟩, fun b hb => ?_, q⟩
  have hle : s1.heap.objs.size ≤ b := by
    rcases List.mem_cons.mp hb with z | z
    · exact z ▸ Nat.le_add_right _ _
    · exact (List.mem_singleton.mp z) ▸ Nat.le_refl _
  exact I1.fpOk hle (I1.hok.fresh hle)
end
end Dk

/-! the layer: what grows, steps of readings -/
namespace Dk
open PySem PySem.Spec PyProof.Rows L2

/-! ### what is known grows -/
abbrev A0 : Addr → Prop := fun _ => False
abbrev Ex := Same
/-- G: what is known for good; H: the heap; A: what may change -/
structure Gr (A : Addr → Prop) (G H G' H' : Hp) : Prop where
  gg : Ex G G'
  gh : Ex G' H'
  hh : ∀ b o, ¬ A b → H b = some o → H' b = some o
  th : ∀ b o, H b = some o → ∃ o', H' b = some o'
  nw : ∀ b o, H b = some o → G b = none → G' b = none
section
variable {A : Addr → Prop} {G H G1 H1 G2 H2 : Hp} {p q m : Addr} {o o' u : HO}
theorem Gr.refl (g : Ex G H) : Gr A G H G H := ⟨Same.refl G, g, fun _ _ _ h => h, fun _ o h => ⟨o, h⟩, fun _ _ _ h => h⟩
theorem Gr.trans (a : Gr A G H G1 H1) (b : Gr A G1 H1 G2 H2) : Gr A G H G2 H2 :=
  ⟨a.gg.trans b.gg, b.gh, fun x o n h => b.hh x o n (a.hh x o n h), fun x o h => by
    obtain ⟨o1, h1⟩ := a.th x o h
    exact b.th x o1 h1, fun x o h n => by
    obtain ⟨o1, h1⟩ := a.th x o h
    exact b.nw x o1 h1 (a.nw x o h n)⟩
theorem Gr.wide {B : Addr → Prop} (a : Gr A G H G1 H1) (h : ∀ x, A x → B x) : Gr B G H G1 H1 :=
  ⟨a.gg, a.gh, fun x o n => a.hh x o fun z => n (h x z), a.th, a.nw⟩
theorem Gr.of0 (a : Gr A0 G H G1 H1) : Gr A G H G1 H1 := a.wide fun _ z => z.elim
theorem Gr.same (a : Gr A0 G H G1 H1) : Ex H H1 := fun b o h => a.hh b o (fun z => z) h
/-- a new object, known for good -/
theorem Gr.new (g : Ex G H) (hp : H p = none) : Gr A G H (upd G p o) (upd H p o) where
  gg := fun b x e => by
    rw [upd_ne (ne_of_none e (g.free hp))]
    exact e
  gh := fun b x e => by
    by_cases hb : b = p
    · subst hb
      rw [upd_same] at e ⊢
      exact e
    · rw [upd_ne hb] at e ⊢
      exact g b x e
  hh := fun b x _ e => by
    rw [upd_ne (ne_of_none e hp)]
    exact e
  th := fun b x e => ⟨x, by
    rw [upd_ne (ne_of_none e hp)]
    exact e⟩
  nw := fun b x e n => by
    rw [upd_ne (ne_of_none e hp)]
    exact n
/-- a new object of our own -/
theorem Gr.own (g : Ex G H) (hp : H p = none) : Gr A G H G (upd H p o) where
  gg := Same.refl G
  gh := fun b x e => by
    rw [upd_ne (ne_of_none e (g.free hp))]
    exact g b x e
  hh := fun b x _ e => by
    rw [upd_ne (ne_of_none e hp)]
    exact e
  th := fun b x e => ⟨x, by
    rw [upd_ne (ne_of_none e hp)]
    exact e⟩
  nw := fun b x e n => n
/-- an object of our own is written -/
theorem Gr.mut (t : Gr A G H G1 H1) (h0 : A p ∨ H p = none) (hp : G1 p = none) : Gr A G H G1 (upd H1 p o) where
  gg := t.gg
  gh := fun b x e => by
    rw [upd_ne (ne_of_none e hp)]
    exact t.gh b x e
  hh := fun b x n e => by
    have hb : b ≠ p := fun z => by
      subst z
      rcases h0 with h0 | h0
      · exact n h0
      · rw [h0] at e
        cases e
    rw [upd_ne hb]
    exact t.hh b x n e
  th := fun b x e => by
    by_cases hb : b = p
    · exact ⟨o, by rw [hb, upd_same]⟩
    · rw [upd_ne hb]
      exact t.th b x e
  nw := t.nw
/-- an object of our own is known for good from here on -/
theorem Gr.give (t : Gr A G H G1 H1) (h0 : H p = none) (hp : H1 p = some o) (hn : G1 p = none) : Gr A G H (upd G1 p o) H1 where
  gg := fun b x e => by
    have z := t.gg b x e
    rw [upd_ne (ne_of_none z hn)]
    exact z
  gh := fun b x e => by
    by_cases hb : b = p
    · subst hb
      rw [upd_same] at e
      cases e
      exact hp
    · rw [upd_ne hb] at e
      exact t.gh b x e
  hh := t.hh
  th := t.th
  nw := fun b x e n => by
    have hb : b ≠ p := ne_of_none e h0
    rw [upd_ne hb]
    exact t.nw b x e n
theorem Gr.g0 (t : Gr A G H G1 H1) : Ex G H1 := t.gg.trans t.gh
theorem ne_g (h : G p = some o) (n : G q = none) : p ≠ q := ne_of_none h n
end

/-! ### what is read at an address -/
theorem SqL.up {K : PySem.W.Frag} {G G' : Hp} {a : Addr} {xs : List V} (e : Ex G G') (h : SqL K G a xs) : SqL K G' a xs := e.seq h
theorem SqT.up {K : PySem.W.Frag} {G G' : Hp} {a : Addr} {xs : List V} (e : Ex G G') (h : SqT K G a xs) : SqT K G' a xs := by
  rcases h with (h | ⟨o, h⟩) | h
  · exact .inl (.inl (e _ _ h))
  · exact .inl (.inr ⟨o, e _ _ h⟩)
  · exact .inr h
theorem sqL {K : PySem.W.Frag} {H : Hp} {a : Addr} {xs : List V} (h : H a = some (.lst xs)) : SqL K H a xs := .inl (.inl h)
theorem sqT {K : PySem.W.Frag} {H : Hp} {a : Addr} {xs : List V} (h : H a = some (.tup xs)) : SqT K H a xs := .inl (.inl h)

/-! ### unions of rules -/
def rStr2 : R2 := fun x y H Q => ∃ i j, x = .str i ∧ y = .str j ∧ i.length + j.length ≤ sizeLine ∧ Q (.str (i ++ j)) H
def rAddU (K : PySem.W.Frag) : R2 := fun x y H Q => rI0 (fun i j => .int (i + j)) x y H Q ∨ (rStr2 x y H Q ∨ (rCat x y H Q ∨ rCatA K x y H Q))
def rInS1 : R2 := fun x y H Q => ∃ (c : Nat) (z : Str), x = .str ⟨#[c]⟩ ∧ y = .str z ∧ Q (.bl (decide (c ∈ z.cps.toList))) H
def rNotInS1 : R2 := fun x y H Q => ∃ (c : Nat) (z : Str), x = .str ⟨#[c]⟩ ∧ y = .str z ∧ Q (.bl (!decide (c ∈ z.cps.toList))) H
def rInU (K : PySem.W.Frag) : R2 := fun x y H Q => rInS1 x y H Q ∨ rIn K false x y H Q
def rNotInU (K : PySem.W.Frag) : R2 := fun x y H Q => rNotInS1 x y H Q ∨ rIn K true x y H Q
def rEqU (K : PySem.W.Frag) : R2 := fun x y H Q => rEq x y H Q ∨ rEqD K x y H Q
def rNeU (K : PySem.W.Frag) : R2 := fun x y H Q => rNe x y H Q ∨ rNeD K x y H Q
def rSlU (K : PySem.W.Frag) : V → Option Int → Option Int → Hp → VK → Prop := fun x lo hi H Q => rSlS x lo hi H Q ∨ (rSlL K x lo hi H Q ∨ rSlA K x lo hi H Q)
def rLenU (K : PySem.W.Frag) : List V → Hp → VK → Prop := fun xs H Q => ∃ x n, xs = [x] ∧ LenV K x H n ∧ Q (.int (n : Nat)) H
def rInt1 : List V → Hp → VK → Prop := fun xs H Q => (∃ i, xs = [.int i] ∧ Q (.int i) H) ∨ ∃ k, xs = [.bl k] ∧ Q (.int (if k then 1 else 0)) H
def rMax : List V → Hp → VK → Prop := fun xs H Q => ∃ i j, xs = [.int i, .int j] ∧ Q (.int (if j > i then j else i)) H
def rMin : List V → Hp → VK → Prop := fun xs H Q => ∃ i j, xs = [.int i, .int j] ∧ Q (.int (if j < i then j else i)) H
def rListU (K : PySem.W.Frag) : List V → Hp → VK → Prop := fun xs H Q => ∃ p ys, xs = [.ref p] ∧ (SqL K H p ys ∨ SqT K H p ys) ∧ ∀ l, H l = none → Q (.ref l) (upd H l (.lst ys))
def rTupU (K : PySem.W.Frag) : List V → Hp → VK → Prop := fun xs H Q => ∃ p ys, xs = [.ref p] ∧ ((SqL K H p ys ∧ ∀ l, H l = none → Q (.ref l) (upd H l (.tup ys))) ∨ (SqT K H p ys ∧ Q (.ref p) H))
def rJoin (K : PySem.W.Frag) : V → List V → Hp → VK → Prop := fun x xs H Q => ∃ a p, ∃ ys : List Str, x = .str a ∧ xs = [.ref p] ∧ (SqL K H p (ys.map V.str) ∨ SqT K H p (ys.map V.str)) ∧
  (ys.map (·.length)).sum + ys.length * a.length ≤ 16777216 ∧ Q (.str (Txt.join a ys)) H
def rIsN1 : R2 := fun x y H Q => y = .non ∧ Q (.bl (decide (x = .non))) H
def rNotN1 : R2 := fun x y H Q => y = .non ∧ Q (.bl (!decide (x = .non))) H
def rDivW : R2 := rI CDivW fun i j => .int (i / j)
def rModP : R2 := rI (fun _ j => 0 < j) fun i j => .int (i % j)
def rMulW : R2 := rI CMulW fun i j => .int (i * j)
section
variable {X : Cx}
theorem op_addU : OpR X (binaryOp .Add) (rAddU X.K) := op_add.or (op_add_str.or (op_cat.or op_catA))
theorem op_inU : OpR X (compareOp .In) (rInU X.K) := op_in_sign.or op_in_seq
theorem op_notInU : OpR X (compareOp .NotIn) (rNotInU X.K) := op_notIn_sign.or op_notIn_seq
theorem op_eqU (hu : X.A.units + 64 < cLine) : OpR X (compareOp .Eq) (rEqU X.K) := op_eq.or (op_eqD hu)
theorem op_neU (hu : X.A.units + 64 < cLine) : OpR X (compareOp .NotEq) (rNeU X.K) := op_ne.or (op_neD hu)
theorem sl_U : SlR X (rSlU X.K) := sl_str.or (sl_list.or sl_tupA)
theorem call_lenU : CallR X (.builtin "len") (rLenU X.K) := call_len
theorem call_intU : CallR X (.type "int") rInt1 := call_int1
theorem call_maxU (hc : X.calm = true) : CallR X (.builtin "max") rMax := call_max2 hc
theorem call_minU (hc : X.calm = true) : CallR X (.builtin "min") rMin := call_min2 hc
theorem call_listU : CallR X (.type "list") (rListU X.K) := call_list_of
theorem call_tupU : CallR X (.type "tuple") (rTupU X.K) := call_tuple_of
theorem op_isU : OpR X (compareOp .Is) rIsN1 := op_isN
theorem op_isnotU : OpR X (compareOp .IsNot) rNotN1 := op_notN
theorem op_divW : OpR X (binaryOp .FloorDiv) rDivW := op_fdivW
theorem op_modP : OpR X (binaryOp .Mod) rModP := op_mod
theorem op_mulWW : OpR X (binaryOp .Mult) rMulW := op_mulW
end

/-! within a comprehension -/
section
variable {X : Cx} {K : PySem.W.Frag}
theorem k_add (h : X.K = K) : OpR X (binaryOp .Add) (rAddU K) := h ▸ op_addU
theorem k_in (h : X.K = K) : OpR X (compareOp .In) (rInU K) := h ▸ op_inU
theorem k_notIn (h : X.K = K) : OpR X (compareOp .NotIn) (rNotInU K) := h ▸ op_notInU
theorem k_ix (h : X.K = K) : IxR X (rIx K) := h ▸ ix_seq
theorem k_sl (h : X.K = K) : SlR X (rSlU K) := h ▸ sl_U
theorem k_len (h : X.K = K) : CallR X (.builtin "len") (rLenU K) := h ▸ call_lenU
theorem k_list (h : X.K = K) : CallR X (.type "list") (rListU K) := h ▸ call_listU
theorem k_tup (h : X.K = K) : CallR X (.type "tuple") (rTupU K) := h ▸ call_tupU
theorem k_isi (h : X.K = K) : CallR X (.builtin "isinstance") (rIsi K) := h ▸ call_isi
end
/-! ### steps -/
section
variable {K : PySem.W.Frag} {σ : L2.St} {H H' : Hp} {Q : VK} {v x y : V} {ta tb te : TE} {i j : Int} {D : Ends} {t u : TS} {tt tu : TT} {QB : Bool → Hp → Prop} {ar : TA} {QL : List V → Hp → Prop}
theorem r_var {n : Nat} (h : σ[n]? = some (some v)) (q : Q v H) : tVar n σ H Q := ⟨v, h, q⟩
theorem r_c (q : Q v H) : tC v σ H Q := q
theorem r_op {r : R2} (h : ta σ H fun x H1 => tb σ H1 fun y H2 => r x y H2 Q) : tOp r ta tb σ H Q := h
theorem r_un {r : V → Hp → VK → Prop} (h : ta σ H fun x H1 => r x H1 Q) : tUn r ta σ H Q := h
theorem r_I0 {g : Int → Int → V} (q : Q (g i j) H) : rI0 g (.int i) (.int j) H Q := ⟨i, j, rfl, rfl, q⟩
theorem r_I {C : Int → Int → Prop} {g : Int → Int → V} (c : C i j) (q : Q (g i j) H) : rI C g (.int i) (.int j) H Q := ⟨i, j, rfl, rfl, c, q⟩
theorem r_mulW (c : CMulW i j) (q : Q (.int (i * j)) H) : rMulW (.int i) (.int j) H Q := ⟨i, j, rfl, rfl, c, q⟩
theorem r_divW (c : CDivW i j) (q : Q (.int (i / j)) H) : rDivW (.int i) (.int j) H Q := ⟨i, j, rfl, rfl, c, q⟩
theorem r_modP (c : 0 < j) (q : Q (.int (i % j)) H) : rModP (.int i) (.int j) H Q := ⟨i, j, rfl, rfl, c, q⟩
theorem r_U {g : Int → V} (q : Q (g i) H) : rU g (.int i) H Q := ⟨i, rfl, q⟩
theorem r_addI (q : Q (.int (i + j)) H) : rAddU K (.int i) (.int j) H Q := .inl ⟨i, j, rfl, rfl, q⟩
theorem r_addS {a b : Str} (h : a.length + b.length ≤ sizeLine) (q : Q (.str (a ++ b)) H) : rAddU K (.str a) (.str b) H Q := .inr (.inl ⟨a, b, rfl, rfl, h, q⟩)
theorem r_addL {p q : Addr} {xs ys : List V} (hp : H p = some (.lst xs)) (hq : H q = some (.lst ys)) (hz : xs.length + ys.length ≤ sizeLine) (k : ∀ l, H l = none → Q (.ref l) (upd H l (.lst (xs ++ ys)))) : rAddU K (.ref p) (.ref q) H Q :=
  .inr (.inr (.inl ⟨p, q, xs, ys, rfl, rfl, hp, hq, hz, k⟩))
theorem r_sub (q : Q (.int (i - j)) H) : rI0 (fun i j => .int (i - j)) (.int i) (.int j) H Q := ⟨i, j, rfl, rfl, q⟩
theorem r_inS {c : Nat} {z : Str} (q : Q (.bl (decide (c ∈ z.cps.toList))) H) : rInU K (.str ⟨#[c]⟩) (.str z) H Q := .inl ⟨c, z, rfl, rfl, q⟩
theorem r_niS {c : Nat} {z : Str} (q : Q (.bl (!decide (c ∈ z.cps.toList))) H) : rNotInU K (.str ⟨#[c]⟩) (.str z) H Q := .inl ⟨c, z, rfl, rfl, q⟩
theorem r_eq (h : scal x y = true) (q : Q (.bl (decide (x = y))) H) : rEqU K x y H Q := .inl ⟨h, q⟩
theorem r_ne (h : scal x y = true) (q : Q (.bl (!decide (x = y))) H) : rNeU K x y H Q := .inl ⟨h, q⟩
theorem r_isN (q : Q (.bl (decide (x = .non))) H) : rIsN1 x .non H Q := ⟨rfl, q⟩
theorem r_notN (q : Q (.bl (!decide (x = .non))) H) : rNotN1 x .non H Q := ⟨rfl, q⟩
theorem r_ixL {p : Addr} {xs : List V} (h : SqL K H p xs) (a : atI xs i = some v) (q : Q v H) : rIx K (.ref p) (.int i) H Q := .inl ⟨p, xs, i, v, rfl, rfl, h, a, q⟩
theorem r_ixT {p : Addr} {xs : List V} (h : SqT K H p xs) (a : atI xs i = some v) (q : Q v H) : rIx K (.ref p) (.int i) H Q := .inr (.inl ⟨p, xs, i, v, rfl, rfl, h, a, q⟩)
theorem r_ixS {z : Str} {c : Nat} (h : z.length ≤ sizeLine) (a : atI z.cps.toList i = some c) (q : Q (.str ⟨#[c]⟩) H) : rIx K (.str z) (.int i) H Q := .inr (.inr ⟨z, i, c, rfl, rfl, h, a, q⟩)
theorem r_slS {z : Str} {lo hi : Option Int} (h : z.length ≤ sizeLine) (q : Q (.str (cutS z lo hi)) H) : rSlU K (.str z) lo hi H Q := .inl ⟨z, rfl, h, q⟩
theorem r_slL {p : Addr} {xs : List V} {lo hi : Option Int} (h : SqL K H p xs) (q : ∀ l, H l = none → Q (.ref l) (upd H l (.lst (cutV xs lo hi)))) : rSlU K (.ref p) lo hi H Q := .inr (.inl ⟨p, xs, rfl, h, q⟩)
theorem r_lenS {z : Str} (h : z.length ≤ sizeLine) (q : Q (.int (z.length : Nat)) H) : rLenU K [.str z] H Q := ⟨_, _, rfl, ⟨h, rfl⟩, q⟩
theorem r_lenL {p : Addr} {xs : List V} (h : SqL K H p xs) (q : Q (.int (xs.length : Nat)) H) : rLenU K [.ref p] H Q := ⟨_, _, rfl, .inl ⟨xs, h, rfl⟩, q⟩
theorem r_lenT {p : Addr} {xs : List V} (h : SqT K H p xs) (q : Q (.int (xs.length : Nat)) H) : rLenU K [.ref p] H Q := ⟨_, _, rfl, .inr ⟨xs, h, rfl⟩, q⟩
theorem r_int (q : Q (.int i) H) : rInt1 [.int i] H Q := .inl ⟨i, rfl, q⟩
theorem r_max (q : Q (.int (max i j)) H) : rMax [.int i, .int j] H Q := ⟨i, j, rfl, by
  have e : (if j > i then j else i) = max i j := by omega
  rw [e]
  exact q⟩
theorem r_min (q : Q (.int (min i j)) H) : rMin [.int i, .int j] H Q := ⟨i, j, rfl, by
  have e : (if j < i then j else i) = min i j := by omega
  rw [e]
  exact q⟩
theorem r_listL {p : Addr} {xs : List V} (h : SqL K H p xs) (q : ∀ l, H l = none → Q (.ref l) (upd H l (.lst xs))) : rListU K [.ref p] H Q := ⟨p, xs, rfl, .inl h, q⟩
theorem r_listT {p : Addr} {xs : List V} (h : SqT K H p xs) (q : ∀ l, H l = none → Q (.ref l) (upd H l (.lst xs))) : rListU K [.ref p] H Q := ⟨p, xs, rfl, .inr h, q⟩
theorem r_tupL {p : Addr} {xs : List V} (h : SqL K H p xs) (q : ∀ l, H l = none → Q (.ref l) (upd H l (.tup xs))) : rTupU K [.ref p] H Q := ⟨p, xs, rfl, .inl ⟨h, q⟩⟩
theorem r_tupT {p : Addr} {xs : List V} (h : SqT K H p xs) (q : Q (.ref p) H) : rTupU K [.ref p] H Q := ⟨p, xs, rfl, .inr ⟨h, q⟩⟩
theorem r_isi {n a : String} {b : Bool} (ty : TyX K H x (.type a)) (e : kitB a n = some b) (q : Q (.bl b) H) : rIsi K [x, .ty n] H Q := ⟨x, .ty n, .type a, .type n, b, rfl, .ty n, ty, kit_ty e, q⟩
theorem r_nil (q : QL [] H) : tNil σ H QL := q
theorem r_cons (h : ta σ H fun x H1 => ar σ H1 fun xs H2 => QL (x :: xs) H2) : tCons ta ar σ H QL := h
theorem r_tup (h : ar σ H fun xs H1 => xs.length ≤ sizeLine ∧ ∀ p, H1 p = none → Q (.ref p) (upd H1 p (.tup xs))) : tTup ar σ H Q := h
theorem r_lst (h : ar σ H fun xs H1 => xs.length ≤ sizeLine ∧ ∀ p, H1 p = none → Q (.ref p) (upd H1 p (.lst xs))) : tLst ar σ H Q := h
theorem r_small {xs : List V} {P : Prop} (h : xs.length ≤ 1000) (k : P) : xs.length ≤ sizeLine ∧ P := ⟨Nat.le_of_lt (small1000 h), k⟩
theorem r_CB {r : List V → Hp → VK → Prop} (h : ar σ H fun vs H1 => r vs H1 Q) : tCB r ar σ H Q := h
theorem r_call {sp : Sp} {dvs : List V} {E : XK} (h : ar σ H fun vs H1 => sp (vs ++ dvs) H1 Q E) : tCall sp dvs E ar σ H Q := h
theorem r_callS {sp : Sp} {E : L2.St → XK} (h : ar σ H fun vs H1 => sp vs H1 Q (E σ)) : tCallS sp E ar σ H Q := h
theorem r_bl {b : Bool} (q : QB b H) : ∃ k, V.bl b = .bl k ∧ QB k H := ⟨b, rfl, q⟩
theorem r_test (h : te σ H fun x H1 => ∃ k, x = .bl k ∧ QB k H1) : tTest te σ H QB := h
theorem r_B (h : te σ H fun x H1 => ∃ k, x = .bl k ∧ QB k H1) : tB te σ H QB := h
theorem r_and (h : tt σ H fun c H1 => if c = true then tu σ H1 QB else QB false H1) : tAnd tt tu σ H QB := h
theorem r_andB {b1 b2 : Bool} (h1 : ∀ QB : Bool → Hp → Prop, QB b1 H → tt σ H QB) (h2 : b1 = true → ∀ QB : Bool → Hp → Prop, QB b2 H → tu σ H QB) (k : QB (b1 && b2) H) : tAnd tt tu σ H QB := by
  refine h1 _ ?_
  cases b1 with
  | true => exact h2 rfl _ k
  | false => exact k
theorem r_orB {b1 b2 : Bool} (h1 : ∀ QB : Bool → Hp → Prop, QB b1 H → tt σ H QB) (h2 : b1 = false → ∀ QB : Bool → Hp → Prop, QB b2 H → tu σ H QB) (k : QB (b1 || b2) H) : tOr tt tu σ H QB := by
  refine h1 _ ?_
  cases b1 with
  | true => exact k
  | false => exact h2 rfl _ k
theorem r_or (h : tt σ H fun c H1 => if c = true then QB true H1 else tu σ H1 QB) : tOr tt tu σ H QB := h
theorem r_not (h : tt σ H fun c H1 => QB (!c) H1) : tNot tt σ H QB := h
theorem r_andV (h : ta σ H fun x H1 => ∃ c, x = .bl c ∧ if c = true then tb σ H1 Q else Q (.bl false) H1) : tAndV ta tb σ H Q := h
theorem r_orV (h : ta σ H fun x H1 => ∃ c, x = .bl c ∧ if c = true then Q (.bl true) H1 else tb σ H1 Q) : tOrV ta tb σ H Q := h
theorem r_notV (h : ta σ H fun x H1 => ∃ c, x = .bl c ∧ Q (.bl (!c)) H1) : tNotV ta σ H Q := h
theorem r_ifE (h : tt σ H fun c H1 => if c = true then ta σ H1 Q else tb σ H1 Q) : tIf tt ta tb σ H Q := h
theorem r_blv {b : Bool} {P : Bool → Prop} (q : P b) : ∃ c, V.bl b = .bl c ∧ P c := ⟨b, rfl, q⟩
theorem r_sl {r : V → Option Int → Option Int → Hp → VK → Prop} {tl th : TO} (h : te σ H fun x H1 => tl σ H1 fun l H2 => th σ H2 fun u H3 => r x l u H3 Q) : tSl r te tl th σ H Q := h
theorem r_seq (h : t { D with nx := u D } σ H) : tSeq t u D σ H := h
theorem r_next (q : D.nx σ H) : tNext D σ H := q
theorem r_asg {g : TG} (h : te σ H fun x H1 => g x σ H1 D.nx) : tAsg te g D σ H := h
theorem r_gname {n : Nat} {N : L2.St → Hp → Prop} (q : N (σ.set n (some v)) H) : gName n v σ H N := q
theorem r_ret (h : te σ H D.rt) : tRet te D σ H := h
theorem r_retN (h : D.rt .non H) : tRetN D σ H := h
theorem r_drop (h : te σ H fun _ H1 => D.nx σ H1) : tDrop te D σ H := h
theorem r_ifS (h : tt σ H fun b H1 => if b = true then t D σ H1 else u D σ H1) : tIfS tt t u D σ H := h
theorem r_app {p : Addr} {xs : List V} (h : H p = some (.lst xs)) (z : xs.length < sizeLine) (q : Q .non (upd H p (.lst (xs ++ [v])))) : rAppend (.ref p) [v] H Q := ⟨p, xs, v, rfl, rfl, h, z, q⟩
theorem r_bm {T : String} {r : V → List V → Hp → VK → Prop} (h : te σ H fun x H1 => tyV K T x H1 ∧ ar σ H1 fun xs H2 => r x xs H2 Q) : tBM K T r te ar σ H Q := h
theorem r_tyL {p : Addr} {xs : List V} {P : Prop} (h : SqL K H p xs) (k : P) : tyV K "list" (.ref p) H ∧ P := ⟨.inl ⟨rfl, xs, h⟩, k⟩
theorem r_setL {p : Addr} {xs : List V} {n : Nat} {N : Hp → Prop} (h : H p = some (.lst xs)) (a : ixN xs.length i = some n) (q : N (upd H p (.lst (xs.set n v)))) : rSetL (.ref p) (.int i) v H N := ⟨p, xs, i, n, rfl, rfl, h, a, q⟩
theorem r_gsub {ti : TE} {to : TE} {ts : TSet} {N : L2.St → Hp → Prop} (h : to σ H fun o H1 => ti σ H1 fun i H2 => ts o i v H2 fun H3 => N σ H3) : gSub to ti ts v σ H N := h
theorem r_ite {c A B : Prop} [Decidable c] (h1 : c → A) (h2 : ¬ c → B) : if decide c = true then A else B := by
  by_cases h : c
  · rw [if_pos (decide_eq_true h)]
    exact h1 h
  · rw [if_neg (by rw [decide_eq_false h]; decide)]
    exact h2 h
theorem r_iteN {c A B : Prop} [Decidable c] (h1 : ¬ c → A) (h2 : c → B) : if (!decide c) = true then A else B := by
  by_cases h : c
  · rw [if_neg (by rw [decide_eq_true h]; decide)]
    exact h2 h
  · rw [if_pos (by rw [decide_eq_false h]; rfl)]
    exact h1 h
theorem r_iteB {b : Bool} {A B : Prop} (h1 : b = true → A) (h2 : b = false → B) : if b = true then A else B := by
  cases b with
  | true => exact h1 rfl
  | false => exact h2 rfl
theorem r_itt {A B : Prop} (h : A) : if true = true then A else B := by
  rw [if_pos rfl]
  exact h
theorem r_iff {A B : Prop} (h : B) : if false = true then A else B := by
  rw [if_neg Bool.false_ne_true]
  exact h
theorem r_ittD {b : Bool} {A B : Prop} (e : b = true) (h : A) : if b = true then A else B := by
  rw [if_pos e]
  exact h
theorem r_iffD {b : Bool} {A B : Prop} (e : b = false) (h : B) : if b = true then A else B := by
  rw [e]
  exact r_iff h
theorem r_ittN {A B : Prop} (h : A) : if (!false) = true then A else B := r_itt h
theorem r_iffN {A B : Prop} (h : B) : if (!true) = true then A else B := r_iff h
end

/-! ### growth, further -/
section
variable {A : Addr → Prop} {G H G1 H1 G2 H2 : Hp} {p q m : Addr} {o o' u : HO} {K : PySem.W.Frag} {xs : List V} {Q : VK}
theorem Gr.ex (g : Ex G H) (e : Ex H H1) : Gr A G H G H1 := ⟨Same.refl G, g.trans e, fun b o _ h => e b o h, fun b o h => ⟨o, e b o h⟩, fun _ _ _ n => n⟩
/-- a step of one that leaves everything as it was -/
theorem Gr.then (t : Gr A G H G1 H1) (e : Ex H1 H2) : Gr A G H G1 H2 := t.trans (.ex t.gh e)
theorem Gr.none_of (t : Gr A G H G1 H1) (h : H p = some o) (n : G p = none) : G1 p = none := t.nw p o h n
/-- a new tuple, known for good -/
theorem a_tup (g : Ex G H) (hl : xs.length ≤ 1000) (k : ∀ p G' H', Gr A0 G H G' H' → G' p = some (.tup xs) → H p = none → Q (.ref p) H') :
    xs.length ≤ sizeLine ∧ ∀ p, H p = none → Q (.ref p) (upd H p (.tup xs)) :=
  ⟨Nat.le_of_lt (small1000 hl), fun p hp => k p _ _ (Gr.new g hp) upd_same hp⟩
theorem a_lst (g : Ex G H) (hl : xs.length ≤ 1000) (k : ∀ p G' H', Gr A0 G H G' H' → G' p = some (.lst xs) → H p = none → Q (.ref p) H') :
    xs.length ≤ sizeLine ∧ ∀ p, H p = none → Q (.ref p) (upd H p (.lst xs)) :=
  ⟨Nat.le_of_lt (small1000 hl), fun p hp => k p _ _ (Gr.new g hp) upd_same hp⟩
/-- a new list of our own -/
theorem a_own (g : Ex G H) (hl : xs.length ≤ 1000) (k : ∀ p H', Gr A0 G H G H' → H' p = some (.lst xs) → H p = none → G p = none → Q (.ref p) H') :
    xs.length ≤ sizeLine ∧ ∀ p, H p = none → Q (.ref p) (upd H p (.lst xs)) :=
  ⟨Nat.le_of_lt (small1000 hl), fun p hp => k p _ (Gr.own g hp) upd_same hp (g.free hp)⟩
theorem n_tup (g : Ex G H) (k : ∀ p G' H', Gr A0 G H G' H' → G' p = some (.tup xs) → H p = none → Q (.ref p) H') :
    ∀ p, H p = none → Q (.ref p) (upd H p (.tup xs)) := fun p hp => k p _ _ (Gr.new g hp) upd_same hp
theorem n_lst (g : Ex G H) (k : ∀ p G' H', Gr A0 G H G' H' → G' p = some (.lst xs) → H p = none → Q (.ref p) H') :
    ∀ p, H p = none → Q (.ref p) (upd H p (.lst xs)) := fun p hp => k p _ _ (Gr.new g hp) upd_same hp
theorem n_own (g : Ex G H) (k : ∀ p H', Gr A0 G H G H' → H' p = some (.lst xs) → H p = none → G p = none → Q (.ref p) H') :
    ∀ p, H p = none → Q (.ref p) (upd H p (.lst xs)) := fun p hp => k p _ (Gr.own g hp) upd_same hp (g.free hp)
end
/-! ### raising a class of one field -/
section
variable {K : PySem.W.Frag} {σ : L2.St} {H : Hp} {C : Addr} {f : Str} {v : V} {W : XK}
/-- the promise of its __init__ -/
def spInit1 (C : Addr) (f : Str) : Sp := fun vs H Q _ => ∃ (a : Addr) (v : V), vs = [.ref a, v] ∧ H a = some (exo a C none) ∧
  ∀ dx, H dx = none → dx ≠ a → Q .non (upd (upd H dx (exd dx [(f, v)])) a (exo a C (some dx)))
theorem r_raise1 (q : ∀ d, H d = none → W (.ref C) (some d) (upd H d (.xd [(f, v)]))) :
    ([v] : List V).length ≤ 1000 ∧ ∀ a, H a = none → spInit1 C f (.ref a :: ([v] ++ [])) (upd H a (exo a C none))
      (fun v H2 => v = .non ∧ ∃ (d : Addr) (fs : List (Str × V)), H2 a = some (exo a C (some d)) ∧ H2 d = some (exd d fs) ∧ H d = none ∧ W (.ref C) (some d) (upd (del H2 a) d (.xd fs))) (fun _ _ _ => False) := by
  refine ⟨by show 1 ≤ 1000; decide, fun a ha => ⟨a, v, rfl, upd_same, fun dx hdx hne => ⟨rfl, dx, [(f, v)], upd_same, ?_, ?_, ?_⟩⟩⟩
  · rw [upd_ne hne]
    exact upd_same
  · rw [upd_ne hne] at hdx
    exact hdx
  · rw [upd_ne hne] at hdx
    have e : upd (del (upd (upd (upd H a (exo a C none)) dx (exd dx [(f, v)])) a (exo a C (some dx))) a) dx (.xd [(f, v)]) = upd H dx (.xd [(f, v)]) := by
      funext b
      by_cases h1 : b = dx
      · rw [h1, upd_same, upd_same]
      · rw [upd_ne h1, upd_ne h1]
        by_cases h2 : b = a
        · rw [h2, del_same, ha]
        · rw [del_ne h2, upd_ne h2, upd_ne h1, upd_ne h2]
    rw [e]
    exact q dx hdx
end
theorem Same.mut {H H' : Hp} {p : Addr} {o : HO} (e : Ex H H') (h : H p = none) : Ex H (upd H' p o) := fun a u ha => by
  rw [upd_ne (ne_of_none ha h)]
  exact e a u ha
theorem Same.new {H H' : Hp} {p : Addr} {o : HO} (e : Ex H H') (h : H' p = none) : Ex H (upd H' p o) := fun a u ha => by
  rw [upd_ne (ne_of_none (e a u ha) h)]
  exact e a u ha
/-! ### texts by their codes -/
abbrev cs (z : Str) : List Nat := z.cps.toList
theorem cs_ext {a b : Str} (h : cs a = cs b) : a = b := by
  cases a
  cases b
  exact congrArg Str.mk (Array.toList_inj.mp h)
theorem cs_len (z : Str) : (cs z).length = z.length := Array.length_toList
theorem cs_app (a b : Str) : cs (a ++ b) = cs a ++ cs b := Array.toList_append
theorem cs_join : ∀ ys : List Str, cs (Txt.join "" ys) = (ys.map cs).flatten := fun ys => by
  rw [TL.join_eq]
  induction ys with
  | nil => rfl
  | cons y r ih =>
    cases r with
    | nil => simp [PySem.Str.join, cs]
    | cons x r' =>
      have e : PySem.Str.join "" (y :: x :: r') = y ++ "" ++ PySem.Str.join "" (x :: r') := rfl
      rw [e, cs_app, cs_app, ih]
      have e0 : cs ("" : Str) = [] := by decide
      rw [e0, List.append_nil]
      rfl
theorem cut_list (l : List Nat) (a b : Nat) : (l.drop (min a l.length)).take (min b l.length - min a l.length) = (l.drop a).take (b - a) := by
  by_cases h : a ≤ l.length
  · rw [Nat.min_eq_left h]
    by_cases hb : b ≤ l.length
    · rw [Nat.min_eq_left hb]
    · have hb' : l.length ≤ b := by omega
      rw [Nat.min_eq_right hb', List.take_of_length_le (by rw [List.length_drop]; omega), List.take_of_length_le (by rw [List.length_drop]; omega)]
  · have ha' : l.length ≤ a := by omega
    rw [Nat.min_eq_right ha', List.drop_of_length_le (Nat.le_refl _), List.drop_of_length_le ha', List.take_nil, List.take_nil]
theorem cs_cut (z : Str) (a b : Nat) : cs (cutS z (some (a : Int)) (some (b : Int))) = ((cs z).drop a).take (b - a) := by
  show ((z.cps.toList.drop (HT.sIx z.length 0 (some (a : Int)))).take (HT.sIx z.length z.length (some (b : Int)) - HT.sIx z.length 0 (some (a : Int)))) = _
  rw [HT.sIx_nat, HT.sIx_nat, ← cs_len z]
  exact cut_list _ a b
theorem cs_from (z : Str) (a : Nat) : cs (cutS z (some (a : Int)) none) = (cs z).drop a := by
  show ((z.cps.toList.drop (HT.sIx z.length 0 (some (a : Int)))).take (HT.sIx z.length z.length none - HT.sIx z.length 0 (some (a : Int)))) = _
  rw [HT.sIx_nat, HT.sIx_none, ← cs_len z]
  have h := cut_list (cs z) a (cs z).length
  rw [Nat.min_self] at h
  rw [h, List.take_of_length_le (by rw [List.length_drop]; omega)]
theorem cs_to (z : Str) (b : Nat) : cs (cutS z none (some (b : Int))) = (cs z).take b := by
  show ((z.cps.toList.drop (HT.sIx z.length 0 none)).take (HT.sIx z.length z.length (some (b : Int)) - HT.sIx z.length 0 none)) = _
  rw [HT.sIx_nat, HT.sIx_none, ← cs_len z]
  have h := cut_list (cs z) 0 b
  rw [Nat.zero_min] at h
  exact h
theorem cut_len (z : Str) (lo hi : Option Int) : (cutS z lo hi).length ≤ z.length := cutS_length z lo hi
theorem int_nat {i : Int} (h : 0 ≤ i) : i = ((i.toNat : Nat) : Int) := by omega
theorem at_g {α : Type} {xs : List α} {z : Int} {j : Nat} {v : α} (e : z = (j : Int)) (h : xs[j]? = some v) : atI xs z = some v := by
  rw [e]
  exact atI_nat h
theorem sum_ones {α : Type} : ∀ l : List α, (l.map fun _ => 1).sum = l.length
  | [] => rfl
  | _ :: r => by rw [List.map_cons, List.sum_cons, sum_ones r, List.length_cons, Nat.add_comm]
theorem nsz {xs : List V} (h : Nat.ble xs.length 1000 = true := by rfl) : xs.length ≤ 1000 := Nat.le_of_ble_eq_true h
/-! ### loops -/
section
variable {K : PySem.W.Frag} {σ : L2.St} {H : Hp} {tl : TE} {ta : TA} {g : TG} {tb : TS} {D : Ends}
theorem r_forT (h : tl σ H fun x H1 => ∃ (a : Addr) (xs : List V), x = .ref a ∧ SqT K H1 a xs ∧ ∃ Pv : Nat → L2.St → Hp → Prop, Pv 0 σ H1 ∧ (∀ i σ H, Pv i σ H → SqT K H a xs) ∧
    (∀ i x σ H, xs[i]? = some x → Pv i σ H → g x σ H fun σ2 H2 => tb { D with nx := Pv (i + 1), ct := Pv (i + 1), bk := D.nx } σ2 H2) ∧ ∀ σ H, Pv xs.length σ H → D.nx σ H)
    (mono : ∀ Q Q' : VK, (∀ v H, Q v H → Q' v H) → tl σ H Q → tl σ H Q') : tFor (iTup K tl) g tb D σ H := by
  refine mono _ _ (fun v H1 hh => ?_) h
  obtain ⟨a, xs, rfl, hs, Pv, p0, hl, ht, hd⟩ := hh
  exact ⟨a, rfl, ⟨xs, hs⟩, for_it walk_tup Pv p0 (fun i σ H _ p => hl i σ H p) (fun i x σ H H' hi p y => by
    obtain ⟨rfl, hx⟩ := y
    exact ht i x σ _ hx p) hd⟩
theorem r_forL (h : tl σ H fun x H1 => ∃ (a : Addr) (xs : List V), x = .ref a ∧ SqL K H1 a xs ∧ ∃ Pv : Nat → L2.St → Hp → Prop, Pv 0 σ H1 ∧ (∀ i σ H, Pv i σ H → SqL K H a xs) ∧
    (∀ i x σ H, xs[i]? = some x → Pv i σ H → g x σ H fun σ2 H2 => tb { D with nx := Pv (i + 1), ct := Pv (i + 1), bk := D.nx } σ2 H2) ∧ ∀ σ H, Pv xs.length σ H → D.nx σ H)
    (mono : ∀ Q Q' : VK, (∀ v H, Q v H → Q' v H) → tl σ H Q → tl σ H Q') : tFor (iList K tl) g tb D σ H := by
  refine mono _ _ (fun v H1 hh => ?_) h
  obtain ⟨a, xs, rfl, hs, Pv, p0, hl, ht, hd⟩ := hh
  exact ⟨a, rfl, ⟨xs, hs⟩, for_it walk_list Pv p0 (fun i σ H _ p => hl i σ H p) (fun i x σ H H' hi p y => by
    obtain ⟨rfl, hx⟩ := y
    exact ht i x σ _ hx p) hd⟩
theorem m_var {n : Nat} : ∀ Q Q' : VK, (∀ v H, Q v H → Q' v H) → tVar n σ H Q → tVar n σ H Q' := fun Q Q' h t => by
  obtain ⟨v, e, q⟩ := t
  exact ⟨v, e, h v _ q⟩
/-- over a name's list, tuple, text -/
theorem r_forTv {n : Nat} {a : Addr} {xs : List V} (e : σ[n]? = some (some (.ref a))) (hs : SqT K H a xs) (Pv : Nat → L2.St → Hp → Prop) (p0 : Pv 0 σ H) (hl : ∀ i σ H, Pv i σ H → SqT K H a xs)
    (ht : ∀ i x σ H, xs[i]? = some x → Pv i σ H → g x σ H fun σ2 H2 => tb { D with nx := Pv (i + 1), ct := Pv (i + 1), bk := D.nx } σ2 H2) (hd : ∀ σ H, Pv xs.length σ H → D.nx σ H) : tFor (iTup K (tVar n)) g tb D σ H :=
  r_forT ⟨_, e, a, xs, rfl, hs, Pv, p0, hl, ht, hd⟩ m_var
theorem r_forLv {n : Nat} {a : Addr} {xs : List V} (e : σ[n]? = some (some (.ref a))) (hs : SqL K H a xs) (Pv : Nat → L2.St → Hp → Prop) (p0 : Pv 0 σ H) (hl : ∀ i σ H, Pv i σ H → SqL K H a xs)
    (ht : ∀ i x σ H, xs[i]? = some x → Pv i σ H → g x σ H fun σ2 H2 => tb { D with nx := Pv (i + 1), ct := Pv (i + 1), bk := D.nx } σ2 H2) (hd : ∀ σ H, Pv xs.length σ H → D.nx σ H) : tFor (iList K (tVar n)) g tb D σ H :=
  r_forL ⟨_, e, a, xs, rfl, hs, Pv, p0, hl, ht, hd⟩ m_var
theorem r_forSv {n : Nat} {z : Str} (e : σ[n]? = some (some (.str z))) (Pv : Nat → L2.St → Hp → Prop) (p0 : Pv 0 σ H)
    (ht : ∀ i c σ H, (cs z)[i]? = some c → Pv i σ H → g (.str ⟨#[c]⟩) σ H fun σ2 H2 => tb { D with nx := Pv (i + 1), ct := Pv (i + 1), bk := D.nx } σ2 H2) (hd : ∀ σ H, Pv z.length σ H → D.nx σ H) : tFor (iStr (tVar n)) g tb D σ H := by
  refine ⟨_, e, z, rfl, for_it walk_str Pv p0 (fun _ _ _ _ _ => trivial) (fun i x σ H H' hi p y => ?_) hd⟩
  obtain ⟨rfl, c, hc, rfl⟩ := y
  exact ht i c σ _ (by rw [Array.getElem?_toList]; exact hc) p
theorem walk_E {G : Hp → Prop} {n : Nat} {Y : Nat → Hp → V → Prop} : Walk (ItE G n Y) n G (fun i H v H' => ∃ T x, v = .ref T ∧ H T = none ∧ H' = upd H T (.tup [.int (i : Nat), x]) ∧ Y i H x) :=
  ⟨fun i H hi g => ⟨g, hi⟩, fun H g => ⟨g, rfl⟩, fun i H x H' hi g y => y⟩
theorem r_forETv {n : Nat} {a : Addr} {xs : List V} (e : σ[n]? = some (some (.ref a))) (hs : SqT K H a xs) (Pv : Nat → L2.St → Hp → Prop) (p0 : Pv 0 σ H) (hl : ∀ i σ H, Pv i σ H → SqT K H a xs)
    (ht : ∀ i x σ H p, xs[i]? = some x → Pv i σ H → H p = none → g (.ref p) σ (upd H p (.tup [.int (i : Nat), x])) fun σ2 H2 => tb { D with nx := Pv (i + 1), ct := Pv (i + 1), bk := D.nx } σ2 H2)
    (hd : ∀ σ H, Pv xs.length σ H → D.nx σ H) : tFor (Dk.iEnumT K (tCons (tVar n) tNil)) g tb D σ H := by
  refine ⟨_, e, a, xs, rfl, hs, for_it walk_E Pv p0 (fun i σ H _ p => hl i σ H p) (fun i x σ H H' hi p y => ?_) hd⟩
  obtain ⟨T, x', rfl, hT, rfl, hx⟩ := y
  exact ht i x' σ H T hx p hT
theorem r_forESv {n : Nat} {z : Str} (e : σ[n]? = some (some (.str z))) (Pv : Nat → L2.St → Hp → Prop) (p0 : Pv 0 σ H)
    (ht : ∀ i c σ H p, (cs z)[i]? = some c → Pv i σ H → H p = none → g (.ref p) σ (upd H p (.tup [.int (i : Nat), .str ⟨#[c]⟩])) fun σ2 H2 => tb { D with nx := Pv (i + 1), ct := Pv (i + 1), bk := D.nx } σ2 H2)
    (hd : ∀ σ H, Pv z.length σ H → D.nx σ H) : tFor (Dk.iEnumS (tCons (tVar n) tNil)) g tb D σ H := by
  refine ⟨_, e, z, rfl, for_it walk_E Pv p0 (fun _ _ _ _ _ => trivial) (fun i x σ H H' hi p y => ?_) hd⟩
  obtain ⟨T, x', rfl, hT, rfl, c, hc, rfl⟩ := y
  exact ht i c σ H T (by rw [Array.getElem?_toList]; exact hc) p hT
/-- over range(n) -/
theorem r_forR1 (h : ta σ H fun vs H1 => ∃ n : Int, vs = [.int n] ∧ -1000000 ≤ n ∧ n ≤ 1000000 ∧ ∃ Pv : Nat → L2.St → Hp → Prop, Pv 0 σ H1 ∧
    (∀ (i : Nat) σ H, (i : Int) < n → Pv i σ H → g (.int (i : Nat)) σ H fun σ2 H2 => tb { D with nx := Pv (i + 1), ct := Pv (i + 1), bk := D.nx } σ2 H2) ∧ ∀ σ H, Pv n.toNat σ H → D.nx σ H)
    (mono : ∀ Q Q' : List V → Hp → Prop, (∀ v H, Q v H → Q' v H) → ta σ H Q → ta σ H Q') : tFor (iRng1 ta) g tb D σ H := by
  refine mono _ _ (fun v H1 hh => ?_) h
  obtain ⟨n, rfl, h1, h2, Pv, p0, ht, hd⟩ := hh
  refine ⟨n, rfl, by omega, by omega, for_range Pv p0 (fun i σ H hi p => ?_) hd⟩
  have z := ht i σ H (by omega) p
  rw [Int.zero_add]
  exact z
end
section
variable {K : PySem.W.Frag} {σ : L2.St} {H : Hp} {N : L2.St → Hp → Prop} {v : V} {vs : List V} {t : TG} {u : TGs}
theorem r_gtup {n : Nat} {a : Addr} (h : SqT K H a vs) (hl : vs.length = n) (k : u vs σ H N) : gTup K n u (.ref a) σ H N := ⟨a, vs, rfl, h, hl, k⟩
theorem r_gcons (k : t v σ H fun σ' H' => u vs σ' H' N) : gCons t u (v :: vs) σ H N := ⟨v, vs, rfl, k⟩
theorem r_gnil (k : N σ H) : gNil [] σ H N := ⟨rfl, k⟩
theorem r_mkO {C : Addr} {sp : Sp} {dvs : List V} {ta : TA} {Q : XK} (h : ta σ H fun vs H1 => vs.length ≤ 1000 ∧ ∀ a, H1 a = none → sp (.ref a :: (vs ++ dvs)) (upd H1 a (exo a C none))
  (fun v H2 => v = .non ∧ ∃ (d : Addr) (fs : List (Str × V)), H2 a = some (exo a C (some d)) ∧ H2 d = some (exd d fs) ∧ H1 d = none ∧ Q (.ref C) (some d) (upd (del H2 a) d (.xd fs))) (fun _ _ _ => False)) : tMkO C sp dvs ta σ H Q := h
theorem r_xfo {a C : Addr} {cls : Value} {d : Option Addr} {f : Str} {te : TE} {Q : VK} (h : te σ H fun x H1 => x = .ref a ∧ cls = .ref C ∧ ∃ (dd : Addr) (fs : List (Str × V)) (v : V), d = some dd ∧ H1 dd = some (.xd fs) ∧ fs.lookup f = some v ∧ Q v H1) : tXf a cls d C f te σ H Q := h
theorem r_noP {QO : Option Int → Hp → Prop} (q : QO none H) : tNoPart σ H QO := q
theorem r_part {te : TE} {QO : Option Int → Hp → Prop} (h : te σ H fun x H1 => ∃ i, x = .int i ∧ QO (some i) H1) : tPart te σ H QO := h
theorem r_pI {i : Int} {PO : Int → Prop} (q : PO i) : ∃ j, V.int i = .int j ∧ PO j := ⟨i, rfl, q⟩
end
/-! ### draws -/
def M61 : Int := 2305843009213693951
/-- the state of the draws stands at a -/
def Stt (H : Hp) (a : Addr) : Prop := ∃ z : Int, H a = some (.lst [.int z]) ∧ 0 ≤ z ∧ z < M61
theorem nat61 {z : Int} (h0 : 0 ≤ z) (h : z < M61) : z.natAbs < 2 ^ 61 := by
  unfold M61 at h
  have e : (2 : Nat) ^ 61 = 2305843009213693952 := by decide
  omega
/-- draws were made: the state at a turned, all else is as it was -/
structure Dr (a : Addr) (H H' : Hp) : Prop where
  hh : ∀ b o, b ≠ a → H b = some o → H' b = some o
  st : Stt H' a
section
variable {A : Addr → Prop} {a p : Addr} {G H G1 H1 H2 : Hp} {o : HO}
theorem Stt.up (s : Stt H a) (e : Ex H H1) : Stt H1 a := s.imp fun _ z => ⟨e _ _ z.1, z.2⟩
theorem Stt.ne (s : Stt H a) (h : H p = none) : p ≠ a := fun z => by
  obtain ⟨v, e, _⟩ := s
  rw [← z, h] at e
  cases e
theorem Stt.put (s : Stt H a) (h : p ≠ a) : Stt (upd H p o) a := s.imp fun _ z => ⟨by rw [upd_ne (Ne.symm h)]; exact z.1, z.2⟩
theorem Dr.refl (s : Stt H a) : Dr a H H := ⟨fun _ _ _ h => h, s⟩
theorem Dr.trans (x : Dr a H H1) (y : Dr a H1 H2) : Dr a H H2 := ⟨fun b o n h => y.hh b o n (x.hh b o n h), y.st⟩
theorem Dr.ex (s : Stt H a) (e : Ex H H1) : Dr a H H1 := ⟨fun b o _ h => e b o h, s.up e⟩
theorem Dr.then (x : Dr a H H1) (e : Ex H1 H2) : Dr a H H2 := x.trans (.ex x.st e)
theorem Dr.set {z : Int} (h0 : 0 ≤ z) (h : z < M61) : Dr a H (upd H a (.lst [.int z])) := ⟨fun b o n e => by rw [upd_ne n]; exact e, z, upd_same, h0, h⟩
theorem Dr.mut (x : Dr a H H1) (hp : H p = none) (ne : p ≠ a) : Dr a H (upd H1 p o) :=
  ⟨fun b u n e => by rw [upd_ne (ne_of_none e hp)]; exact x.hh b u n e, x.st.put ne⟩
theorem Dr.new (x : Dr a H H1) (hp : H1 p = none) : Dr a H (upd H1 p o) := x.then (Same.new (Same.refl H1) hp)
theorem Dr.gr (g : Ex G H) (n : G a = none) (s : Stt H a) (d : Dr a H H1) : Gr (· = a) G H G H1 where
  gg := Same.refl G
  gh := fun b x e => d.hh b x (ne_of_none e n) (g b x e)
  hh := fun b x z e => d.hh b x z e
  th := fun b x e => by
    by_cases h : b = a
    · obtain ⟨v, z, _⟩ := d.st
      exact ⟨_, by rw [h]; exact z⟩
    · exact ⟨x, d.hh b x h e⟩
  nw := fun b x e z => z
theorem Gr.na (t : Gr A G H G1 H1) (n : G a = none) (s : Stt H a) : G1 a = none := by
  obtain ⟨z, e, _⟩ := s
  exact t.nw a _ e n
theorem Gr.dr (t : Gr (· = a) G H G1 H1) (n : G a = none) (s : Stt H a) (s1 : Stt H1 a) (d : Dr a H1 H2) : Gr (· = a) G H G1 H2 :=
  t.trans (Dr.gr t.gh (t.na n s) s1 d)
end
/-! ### the laws' own draws -/
def AL : Str := "\n !\"#$&'()*+,-./0123456789:;<=>?@ABCDEFGHIJKLMNOPQRSTUVWXYZ[\\]^_`abcdefghijklmnopqrstuvwxyz{|}~"
def InAL (z : Str) : Prop := ∀ c ∈ cs z, c ∈ cs AL
theorem AL_len : AL.length = 95 := by decide +kernel
def spDraw : Sp := fun vs H Q _ => ∃ (a : Addr) (n : Int), vs = [.ref a, .int n] ∧ Stt H a ∧ 0 < n ∧ ∀ (d : Int) H', 0 ≤ d → d < n → Dr a H H' → Q (.int d) H'
def spStart (K : PySem.W.Frag) : Sp := fun vs H Q _ => ∃ (s : Addr) (ns : List Int), vs = [.ref s] ∧ SqL K H s (ns.map V.int) ∧ ∀ p H', Ex H H' → H p = none → Stt H' p → Q (.ref p) H'
def spSigns : Sp := fun vs H Q _ => vs = [] ∧ Q (.str AL) H
def spText : Sp := fun vs H Q _ => ∃ (a : Addr) (n : Int), vs = [.ref a, .int n] ∧ Stt H a ∧ 0 ≤ n ∧ n ≤ 8000 ∧ ∀ o H', Dr a H H' → (o.length : Int) = n → InAL o → Q (.str o) H'
theorem mix_next {z : Int} (e : Int) : 0 ≤ e % M61 ∧ e % M61 < M61 := ⟨Int.emod_nonneg _ (by decide), Int.emod_lt_of_pos _ (by decide)⟩
/-! ### what is known at a place of a drawing def -/
structure Wd (a : Addr) (G H : Hp) : Prop where
  g : Ex G H
  na : G a = none
  st : Stt H a
section
variable {a p : Addr} {G H G1 H1 G2 H2 : Hp} {o : HO} {xs : List V} {Q : VK}
theorem Wd.step (x : Wd a G H) (t : Gr (· = a) G H G1 H1) (s : Stt H1 a) : Wd a G1 H1 := ⟨t.gh, t.na x.na x.st, s⟩
theorem Wd.pure (x : Wd a G H) (t : Gr A0 G H G1 H1) : Wd a G1 H1 := ⟨t.gh, t.na x.na x.st, x.st.up t.same⟩
theorem Wd.ex (x : Wd a G H) (e : Ex H H1) : Wd a G H1 := ⟨x.g.trans e, x.na, x.st.up e⟩
theorem Wd.dr (x : Wd a G H) (d : Dr a H H1) : Wd a G H1 := ⟨(Dr.gr x.g x.na x.st d).gh, x.na, d.st⟩
theorem Wd.gdr (x : Wd a G H) (d : Dr a H H1) : Gr (· = a) G H G H1 := Dr.gr x.g x.na x.st d
/-- a new list, known for good -/
theorem w_lst (x : Wd a G H) (k : ∀ p G' H', Gr A0 G H G' H' → Wd a G' H' → G' p = some (.lst xs) → Q (.ref p) H') :
    ∀ p, H p = none → Q (.ref p) (upd H p (.lst xs)) := fun p hp => k p _ _ (Gr.new x.g hp) (x.pure (Gr.new x.g hp)) upd_same
theorem w_tup (x : Wd a G H) (k : ∀ p G' H', Gr A0 G H G' H' → Wd a G' H' → G' p = some (.tup xs) → Q (.ref p) H') :
    ∀ p, H p = none → Q (.ref p) (upd H p (.tup xs)) := fun p hp => k p _ _ (Gr.new x.g hp) (x.pure (Gr.new x.g hp)) upd_same
end
theorem new_ex {G H : Hp} {p : Addr} (g : Ex G H) (hp : H p = none) (o : HO) : ∃ G' H', H' = upd H p o ∧ Gr A0 G H G' H' ∧ G' p = some o :=
  ⟨_, _, rfl, Gr.new g hp, upd_same⟩
theorem w_new {a p : Addr} {G H : Hp} (x : Wd a G H) (hp : H p = none) (o : HO) : ∃ G' H', H' = upd H p o ∧ Gr A0 G H G' H' ∧ Wd a G' H' ∧ G' p = some o :=
  ⟨_, _, rfl, Gr.new x.g hp, x.pure (Gr.new x.g hp), upd_same⟩
theorem atI_m1 {xs : List V} (h : xs ≠ []) : ∃ x, atI xs (-1) = some x ∧ x ∈ xs := by
  obtain ⟨l, y, rfl⟩ : ∃ l y, xs = l ++ [y] := ⟨_, _, (List.dropLast_concat_getLast h).symm⟩
  exact ⟨y, atI_last _ _, by simp⟩
theorem own_ex {G H : Hp} {p : Addr} (g : Ex G H) (hp : H p = none) (o : HO) : ∃ H', H' = upd H p o ∧ Gr A0 G H G H' ∧ H' p = some o ∧ G p = none :=
  ⟨_, rfl, Gr.own g hp, upd_same, g.free hp⟩
theorem Gr.fresh {A : Addr → Prop} {G H G1 H1 : Hp} {p : Addr} (t : Gr A G H G1 H1) (h : H1 p = none) : H p = none := by
  cases e : H p with
  | none => rfl
  | some o =>
    obtain ⟨o', z⟩ := t.th p o e
    rw [h] at z
    cases z
theorem ixN_nat {n : Nat} {i : Int} (h0 : 0 ≤ i) (h : i < (n : Int)) : ixN n i = some i.toNat := by
  unfold ixN
  rw [if_pos h0, if_pos h]
/-! loops whose source is reckoned -/
section
variable {K : PySem.W.Frag} {σ : L2.St} {H : Hp} {tl : TE} {ta : TA} {g : TG} {tb : TS} {D : Ends}
def LoopW (J : It) (g : TG) (tb : TS) (D : Ends) (σ : L2.St) (H1 : Hp) : Prop := ∃ W : Nat → Nat → L2.St → Hp → Prop, (∃ m, W 0 m σ H1) ∧ ∀ i m σ H, W i m σ H →
  (J.stop i H ∧ D.nx σ H) ∨ (J.go i H ∧ ∃ N : L2.St → Hp → Prop, (∀ σ' H', N σ' H' → ∃ m', m' < m ∧ W (i + 1) m' σ' H') ∧ ∀ x H', J.yld i H x H' → g x σ H' fun σ2 H2 => tb { D with nx := N, ct := N, bk := D.nx } σ2 H2)
theorem r_forLo (h : tl σ H fun x H1 => ∃ a, x = .ref a ∧ (∃ xs, SqL K H1 a xs) ∧ LoopW (Itl K a) g tb D σ H1) : tFor (iList K tl) g tb D σ H := h
theorem r_forTo (h : tl σ H fun x H1 => ∃ a, x = .ref a ∧ (∃ xs, SqT K H1 a xs) ∧ LoopW (Itt K a) g tb D σ H1) : tFor (iTup K tl) g tb D σ H := h
theorem r_forSo (h : tl σ H fun x H1 => ∃ z, x = .str z ∧ LoopW (Its z) g tb D σ H1) : tFor (iStr tl) g tb D σ H := h
theorem r_forRo (h : ta σ H fun vs H1 => ∃ j : Int, vs = [.int j] ∧ -(2 ^ 62) ≤ j ∧ j < 2 ^ 62 ∧ LoopW (Itr 0 j.toNat) g tb D σ H1) : tFor (iRng1 ta) g tb D σ H := h
theorem r_forR2o (h : ta σ H fun vs H1 => ∃ i j : Int, vs = [.int i, .int j] ∧ (-(2 ^ 62) ≤ i ∧ i < 2 ^ 62 ∧ -(2 ^ 62) ≤ j ∧ j < 2 ^ 62) ∧ LoopW (Itr i (j - i).toNat) g tb D σ H1) : tFor (iRng2 ta) g tb D σ H := h
theorem r_forEo (h : ta σ H fun vs H1 => ∃ a xs, vs = [.ref a] ∧ SqT K H1 a xs ∧ LoopW (ItE (fun H => SqT K H a xs) xs.length fun i _ x => xs[i]? = some x) g tb D σ H1) : tFor (Dk.iEnumT K ta) g tb D σ H := h
theorem r_forESo (h : ta σ H fun vs H1 => ∃ z, vs = [.str z] ∧ LoopW (ItE (fun _ => True) z.cps.size fun i _ x => ∃ c, z.cps[i]? = some c ∧ x = .str ⟨#[c]⟩) g tb D σ H1) : tFor (Dk.iEnumS ta) g tb D σ H := h
theorem l_L {a : Addr} {xs : List V} (hs : SqL K H a xs) (Pv : Nat → L2.St → Hp → Prop) (p0 : Pv 0 σ H) (hl : ∀ i σ H, Pv i σ H → SqL K H a xs)
    (ht : ∀ i x σ H, xs[i]? = some x → Pv i σ H → g x σ H fun σ2 H2 => tb { D with nx := Pv (i + 1), ct := Pv (i + 1), bk := D.nx } σ2 H2) (hd : ∀ σ H, Pv xs.length σ H → D.nx σ H) :
    ∃ b, V.ref a = .ref b ∧ (∃ xs, SqL K H b xs) ∧ LoopW (Itl K b) g tb D σ H :=
  ⟨a, rfl, ⟨xs, hs⟩, for_it walk_list Pv p0 (fun i σ H _ p => hl i σ H p) (fun i x σ H H' hi p y => by
    obtain ⟨rfl, hx⟩ := y
    exact ht i x σ _ hx p) hd⟩
theorem l_T {a : Addr} {xs : List V} (hs : SqT K H a xs) (Pv : Nat → L2.St → Hp → Prop) (p0 : Pv 0 σ H) (hl : ∀ i σ H, Pv i σ H → SqT K H a xs)
    (ht : ∀ i x σ H, xs[i]? = some x → Pv i σ H → g x σ H fun σ2 H2 => tb { D with nx := Pv (i + 1), ct := Pv (i + 1), bk := D.nx } σ2 H2) (hd : ∀ σ H, Pv xs.length σ H → D.nx σ H) :
    ∃ b, V.ref a = .ref b ∧ (∃ xs, SqT K H b xs) ∧ LoopW (Itt K b) g tb D σ H :=
  ⟨a, rfl, ⟨xs, hs⟩, for_it walk_tup Pv p0 (fun i σ H _ p => hl i σ H p) (fun i x σ H H' hi p y => by
    obtain ⟨rfl, hx⟩ := y
    exact ht i x σ _ hx p) hd⟩
theorem l_S {z : Str} (Pv : Nat → L2.St → Hp → Prop) (p0 : Pv 0 σ H)
    (ht : ∀ i c σ H, (cs z)[i]? = some c → Pv i σ H → g (.str ⟨#[c]⟩) σ H fun σ2 H2 => tb { D with nx := Pv (i + 1), ct := Pv (i + 1), bk := D.nx } σ2 H2) (hd : ∀ σ H, Pv z.length σ H → D.nx σ H) :
    ∃ y, V.str z = .str y ∧ LoopW (Its y) g tb D σ H := by
  refine ⟨z, rfl, for_it walk_str Pv p0 (fun _ _ _ _ _ => trivial) (fun i x σ H H' hi p y => ?_) hd⟩
  obtain ⟨rfl, c, hc, rfl⟩ := y
  exact ht i c σ _ (by rw [Array.getElem?_toList]; exact hc) p
theorem l_R {n : Int} (h1 : -1000000 ≤ n) (h2 : n ≤ 1000000) (Pv : Nat → L2.St → Hp → Prop) (p0 : Pv 0 σ H)
    (ht : ∀ (i : Nat) σ H, (i : Int) < n → Pv i σ H → g (.int (i : Nat)) σ H fun σ2 H2 => tb { D with nx := Pv (i + 1), ct := Pv (i + 1), bk := D.nx } σ2 H2) (hd : ∀ σ H, Pv n.toNat σ H → D.nx σ H) :
    ∃ j : Int, [V.int n] = [.int j] ∧ -(2 ^ 62) ≤ j ∧ j < 2 ^ 62 ∧ LoopW (Itr 0 j.toNat) g tb D σ H := by
  refine ⟨n, rfl, by omega, by omega, for_range Pv p0 (fun i σ H hi p => ?_) hd⟩
  have z := ht i σ H (by omega) p
  rw [Int.zero_add]
  exact z
theorem l_E {a : Addr} {xs : List V} (hs : SqT K H a xs) (Pv : Nat → L2.St → Hp → Prop) (p0 : Pv 0 σ H) (hl : ∀ i σ H, Pv i σ H → SqT K H a xs)
    (ht : ∀ i x σ H p, xs[i]? = some x → Pv i σ H → H p = none → g (.ref p) σ (upd H p (.tup [.int (i : Nat), x])) fun σ2 H2 => tb { D with nx := Pv (i + 1), ct := Pv (i + 1), bk := D.nx } σ2 H2)
    (hd : ∀ σ H, Pv xs.length σ H → D.nx σ H) : ∃ b ys, [V.ref a] = [.ref b] ∧ SqT K H b ys ∧ LoopW (ItE (fun H => SqT K H b ys) ys.length fun i _ x => ys[i]? = some x) g tb D σ H := by
  refine ⟨a, xs, rfl, hs, for_it walk_E Pv p0 (fun i σ H _ p => hl i σ H p) (fun i x σ H H' hi p y => ?_) hd⟩
  obtain ⟨T, x', rfl, hT, rfl, hx⟩ := y
  exact ht i x' σ H T hx p hT
end
theorem cutV_mem {xs : List V} {lo hi : Option Int} {x : V} (h : x ∈ cutV xs lo hi) : x ∈ xs := List.mem_of_mem_drop (List.mem_of_mem_take h)
theorem cutV_len {xs : List V} {lo hi : Option Int} : (cutV xs lo hi).length ≤ xs.length := by
  unfold cutV
  rw [List.length_take, List.length_drop]
  omega
theorem cutV_to (xs : List V) (n : Nat) : cutV xs none (some (n : Int)) = xs.take n := by
  unfold cutV
  rw [HT.sIx_nat, HT.sIx_none, List.drop_zero, Nat.sub_zero]
  by_cases h : n ≤ xs.length
  · rw [Nat.min_eq_left h]
  · rw [Nat.min_eq_right (by omega), List.take_of_length_le (Nat.le_refl _), List.take_of_length_le (by omega)]
theorem atI_lt {xs : List V} {i : Int} (h0 : 0 ≤ i) (h : i < (xs.length : Int)) : ∃ x, atI xs i = some x ∧ x ∈ xs := by
  have hi : i.toNat < xs.length := by omega
  exact ⟨xs[i.toNat], at_g (by omega) (List.getElem?_eq_getElem hi), List.getElem_mem _⟩
end Dk

/-! the told order: signs, the relation by its hops, its closure by rounds over a table of bits -/
namespace Tl
abbrev Sg := Nat × Nat
section
variable (L R : Nat → Sg)
/-- told ahead, by hops -/
inductive A : Sg → Sg → Prop where
  | same {x y : Sg} (h : x.1 = y.1) (i : x.2 < y.2) : A x y
  | rEq {x y : Sg} (h : y.1 < x.1) (e : R x.1 = y) : A x y
  | rGo {x y : Sg} (h : y.1 < x.1) (a : A (R x.1) y) : A x y
  | lEq {x y : Sg} (h : x.1 < y.1) (e : x = L y.1) : A x y
  | lGo {x y : Sg} (h : x.1 < y.1) (a : A x (L y.1)) : A x y
def E (x y : Sg) : Prop := x = y ∨ A L R x y
end
section
variable {L R : Nat → Sg} {x y z : Sg}
theorem A.same_iff (h : x.1 = y.1) : A L R x y ↔ x.2 < y.2 :=
  ⟨fun a => by cases a with
    | same _ i => exact i
    | rEq g _ => omega
    | rGo g _ => omega
    | lEq g _ => omega
    | lGo g _ => omega, fun i => .same h i⟩
theorem A.r_iff (h : y.1 < x.1) : A L R x y ↔ E L R (R x.1) y :=
  ⟨fun a => by cases a with
    | same g _ => omega
    | rEq _ e => exact .inl e
    | rGo _ a => exact .inr a
    | lEq g _ => omega
    | lGo g _ => omega, fun e => e.elim (.rEq h) (.rGo h)⟩
theorem A.l_iff (h : x.1 < y.1) : A L R x y ↔ E L R x (L y.1) :=
  ⟨fun a => by cases a with
    | same g _ => omega
    | rEq g _ => omega
    | rGo g _ => omega
    | lEq _ e => exact .inl e
    | lGo _ a => exact .inr a, fun e => e.elim (.lEq h) (.lGo h)⟩
theorem A.irr : ¬ A L R x x := fun a => by
  have z := (A.same_iff (L := L) (R := R) (rfl : x.1 = x.1)).mp a
  omega
/-- births below n: left and right of lesser chunks, the left told ahead of the right -/
structure Bs (L R : Nat → Sg) (n : Nat) : Prop where
  l : ∀ c, 0 < c → c < n → (L c).1 < c
  r : ∀ c, 0 < c → c < n → (R c).1 < c
  lr : ∀ c, 0 < c → c < n → A L R (L c) (R c)
theorem Bs.mono {n m : Nat} (b : Bs L R n) (h : m ≤ n) : Bs L R m := ⟨fun c h0 h1 => b.l c h0 (by omega), fun c h0 h1 => b.r c h0 (by omega), fun c h0 h1 => b.lr c h0 (by omega)⟩
theorem Bs.trans {n : Nat} (b : Bs L R n) : ∀ m, m ≤ n → ∀ x y z : Sg, x.1 < m → y.1 < m → z.1 < m → A L R x y → A L R y z → A L R x z := by
  intro m
  induction m with
  | zero => intro _ x y z h; omega
  | succ m ih =>
    intro hm x y z hx hy hz a1 a2
    have ih' := ih (by omega)
    have eT : ∀ {u v t : Sg}, u.1 < m → v.1 < m → t.1 < m → E L R u v → A L R v t → A L R u t := fun h1 h2 h3 e a => by
      rcases e with rfl | e
      · exact a
      · exact ih' _ _ _ h1 h2 h3 e a
    have tE : ∀ {u v t : Sg}, u.1 < m → v.1 < m → t.1 < m → A L R u v → E L R v t → A L R u t := fun h1 h2 h3 a e => by
      rcases e with rfl | e
      · exact a
      · exact ih' _ _ _ h1 h2 h3 a e
    by_cases cx : x.1 = m
    · by_cases cy : y.1 = m
      · by_cases cz : z.1 = m
        · have i1 := (A.same_iff (by omega)).mp a1
          have i2 := (A.same_iff (by omega)).mp a2
          exact .same (by omega) (by omega)
        · have e2 := (A.r_iff (by omega)).mp a2
          exact (A.r_iff (by omega)).mpr (by rw [show x.1 = y.1 by omega]; exact e2)
      · by_cases cz : z.1 = m
        · exfalso
          have m0 : 0 < m := by omega
          have hl := b.l m m0 (by omega)
          have hr := b.r m m0 (by omega)
          have hlr := b.lr m m0 (by omega)
          have e1 := (A.r_iff (by omega)).mp a1
          have e2 := (A.l_iff (by omega)).mp a2
          rw [cx] at e1
          rw [cz] at e2
          have a3 : A L R (L m) y := tE hl hr (by omega) hlr e1
          have a4 : A L R (L m) (L m) := tE hl (by omega) hl a3 e2
          exact A.irr a4
        · have e1 := (A.r_iff (by omega)).mp a1
          have hr := b.r x.1 (by omega) (by omega)
          exact (A.r_iff (by omega)).mpr (.inr (eT (by omega) (by omega) (by omega) e1 a2))
    · by_cases cy : y.1 = m
      · by_cases cz : z.1 = m
        · have e1 := (A.l_iff (by omega)).mp a1
          exact (A.l_iff (by omega)).mpr (by rw [show z.1 = y.1 by omega]; exact e1)
        · have e1 := (A.l_iff (by omega)).mp a1
          have e2 := (A.r_iff (by omega)).mp a2
          have hl := b.l y.1 (by omega) (by omega)
          have hr := b.r y.1 (by omega) (by omega)
          have hlr := b.lr y.1 (by omega) (by omega)
          have a3 := eT (by omega) (by omega) (by omega) e1 hlr
          exact tE (by omega) (by omega) (by omega) a3 e2
      · by_cases cz : z.1 = m
        · have e2 := (A.l_iff (by omega)).mp a2
          have hl := b.l z.1 (by omega) (by omega)
          exact (A.l_iff (by omega)).mpr (.inr (tE (by omega) (by omega) (by omega) a1 e2))
        · exact ih' x y z (by omega) (by omega) (by omega) a1 a2
theorem Bs.tr {n : Nat} (b : Bs L R n) (hx : x.1 < n) (hy : y.1 < n) (hz : z.1 < n) (a1 : A L R x y) (a2 : A L R y z) : A L R x z := b.trans n (Nat.le_refl n) x y z hx hy hz a1 a2
/-- only births up to the greater chunk count -/
theorem A.congr {L' R' : Nat → Sg} {n : Nat} (hl : ∀ c, 0 < c → c < n → L c = L' c) (hr : ∀ c, 0 < c → c < n → R c = R' c) (b : ∀ c, 0 < c → c < n → (L c).1 < c ∧ (R c).1 < c) :
    ∀ {x y : Sg}, A L R x y → x.1 < n → y.1 < n → A L' R' x y := fun {x y} a => by
  induction a with
  | same h i => exact fun _ _ => .same h i
  | @rEq x y h e => exact fun hx hy => .rEq h ((hr x.1 (by omega) hx).symm.trans e)
  | @rGo x y h a ih =>
    intro hx hy
    have e := hr x.1 (by omega) hx
    have w := (b x.1 (by omega) hx).2
    exact .rGo h (e ▸ ih (by omega) hy)
  | @lEq x y h e => exact fun hx hy => .lEq h (e.trans (hl y.1 (by omega) hy))
  | @lGo x y h a ih =>
    intro hx hy
    have e := hl y.1 (by omega) hy
    have w := (b y.1 (by omega) hy).1
    exact .lGo h (e ▸ ih hx (by omega))
end
/-! ### paths -/
inductive Pth (S : List (Nat × Nat)) : Nat → Nat → Nat → Prop where
  | one {a b : Nat} (h : (a, b) ∈ S) : Pth S 1 a b
  | step {k a b c : Nat} (h : (a, b) ∈ S) (p : Pth S k b c) : Pth S (k + 1) a c
def Rch (S : List (Nat × Nat)) (a b : Nat) : Prop := ∃ k, Pth S k a b
section
variable {S : List (Nat × Nat)} {a b c : Nat}
theorem Pth.app {k m : Nat} (p : Pth S k a b) (q : Pth S m b c) : Rch S a c := by
  induction p with
  | one h => exact ⟨_, .step h q⟩
  | step h p ih =>
    obtain ⟨k', r⟩ := ih q
    exact ⟨_, .step h r⟩
theorem Rch.tr (p : Rch S a b) (q : Rch S b c) : Rch S a c := by
  obtain ⟨k, p⟩ := p
  obtain ⟨m, q⟩ := q
  exact p.app q
/-- a list without repeats within another one is no longer -/
theorem nodup_le : ∀ {l m : List Nat}, l.Nodup → (∀ x ∈ l, x ∈ m) → l.length ≤ m.length
  | [], m, _, _ => Nat.zero_le _
  | x :: r, m, hn, hm => by
    have hx : x ∈ m := hm x (List.mem_cons_self ..)
    have hn' := List.nodup_cons.mp hn
    have h1 : ∀ y ∈ r, y ∈ m.erase x := fun y hy => (List.mem_erase_of_ne (by
      rintro rfl
      exact hn'.1 hy)).mpr (hm y (List.mem_cons_of_mem _ hy))
    have h2 := nodup_le hn'.2 h1
    rw [List.length_erase_of_mem hx] at h2
    have h3 : 0 < m.length := List.length_pos_of_mem hx
    rw [List.length_cons]
    omega
theorem Pth.bound {k n : Nat} {lt : Nat → Nat → Prop} (hS : ∀ a b, (a, b) ∈ S → lt a b ∧ a < n ∧ b < n) (tr : ∀ a b c, a < n → b < n → c < n → lt a b → lt b c → lt a c) (ir : ∀ a, ¬ lt a a) (p : Pth S k a b) : k + 1 ≤ n := by
  have key : ∀ {k a b}, Pth S k a b → ∃ l : List Nat, l.length = k ∧ (a :: l).Nodup ∧ (∀ x ∈ l, lt a x) ∧ ∀ x ∈ a :: l, x < n := by
    intro k a b p
    induction p with
    | @one a b h =>
      obtain ⟨h1, h2, h3⟩ := hS _ _ h
      refine ⟨[b], rfl, ?_, by simpa using h1, by simp [h2, h3]⟩
      simp
      exact fun e => ir a (e ▸ h1)
    | @step k a b c h p ih =>
      obtain ⟨l, hl, hn, hlt, hb⟩ := ih
      obtain ⟨h1, h2, h3⟩ := hS _ _ h
      have all : ∀ x ∈ b :: l, lt a x := fun x hx => by
        rcases List.mem_cons.mp hx with rfl | hx
        · exact h1
        · exact tr a b x h2 h3 (hb x (List.mem_cons_of_mem _ hx)) h1 (hlt x hx)
      refine ⟨b :: l, by rw [List.length_cons, hl], List.nodup_cons.mpr ⟨fun hm => ir a (all a hm), hn⟩, all, fun x hx => ?_⟩
      rcases List.mem_cons.mp hx with rfl | hx
      · exact h2
      · exact hb x hx
  obtain ⟨l, hl, hn, _, hb⟩ := key p
  have z := nodup_le (m := List.range n) hn fun x hx => List.mem_range.mpr (hb x hx)
  rw [List.length_cons, hl, List.length_range] at z
  exact z
end
/-! ### the table -/
def put (T : List Nat) (e : Nat × Nat) : List Nat := T.set e.1 (T.getD e.1 0 ||| 1 <<< e.2 ||| T.getD e.2 0)
def lap (S : List (Nat × Nat)) (T : List Nat) : List Nat := S.foldl put T
/-- T has b behind a -/
def Bit (T : List Nat) (a b : Nat) : Prop := (T.getD a 0).testBit b = true
section
variable {S : List (Nat × Nat)} {T : List Nat} {n : Nat}
theorem put_len (e : Nat × Nat) : (put T e).length = T.length := List.length_set ..
theorem lap_len : ∀ (S : List (Nat × Nat)) (T : List Nat), (lap S T).length = T.length
  | [], _ => rfl
  | e :: r, T => (lap_len r (put T e)).trans (put_len e)
theorem bit_put {e : Nat × Nat} (h : e.1 < T.length) {a b : Nat} : Bit (put T e) a b ↔ Bit T a b ∨ (a = e.1 ∧ (b = e.2 ∨ Bit T e.2 b)) := by
  unfold Bit put
  by_cases ha : a = e.1
  · subst ha
    have g : (T.set e.1 (T.getD e.1 0 ||| 1 <<< e.2 ||| T.getD e.2 0)).getD e.1 0 = T.getD e.1 0 ||| 1 <<< e.2 ||| T.getD e.2 0 := by
      simp [List.getD, List.getElem?_set, h]
    rw [g, Nat.testBit_or, Nat.testBit_or, Nat.one_shiftLeft, Nat.testBit_two_pow, Bool.or_eq_true, Bool.or_eq_true, decide_eq_true_iff]
    constructor
    · rintro ((h | h) | h)
      · exact .inl h
      · exact .inr ⟨rfl, .inl h.symm⟩
      · exact .inr ⟨rfl, .inr h⟩
    · rintro (h | ⟨_, h | h⟩)
      · exact .inl (.inl h)
      · exact .inl (.inr h.symm)
      · exact .inr h
  · have g : (T.set e.1 (T.getD e.1 0 ||| 1 <<< e.2 ||| T.getD e.2 0)).getD a 0 = T.getD a 0 := by
      simp [List.getD, List.getElem?_set, Ne.symm ha]
    rw [g]
    constructor
    · exact fun h => .inl h
    · rintro (h | ⟨h, _⟩)
      · exact h
      · exact absurd h ha
theorem lap_mono : ∀ (S : List (Nat × Nat)) {T : List Nat}, (∀ e ∈ S, e.1 < T.length) → ∀ {a b}, Bit T a b → Bit (lap S T) a b
  | [], _, _, _, _, h => h
  | e :: r, T, hS, a, b, h => lap_mono r (fun e' he => by rw [put_len]; exact hS e' (List.mem_cons_of_mem _ he)) ((bit_put (hS e (List.mem_cons_self ..))).mpr (.inl h))
theorem lap_edge : ∀ (S : List (Nat × Nat)) {T : List Nat}, (∀ e ∈ S, e.1 < T.length) → ∀ {a b c}, (a, b) ∈ S → c = b ∨ Bit T b c → Bit (lap S T) a c
  | e :: r, T, hS, a, b, c, hm, h => by
    have hr : ∀ e' ∈ r, e'.1 < (put T e).length := fun e' he => by rw [put_len]; exact hS e' (List.mem_cons_of_mem _ he)
    rcases List.mem_cons.mp hm with rfl | hm
    · exact lap_mono r hr ((bit_put (hS _ (List.mem_cons_self ..))).mpr (.inr ⟨rfl, h⟩))
    · refine lap_edge r hr hm (h.imp id fun h => (bit_put (hS e (List.mem_cons_self ..))).mpr (.inl h))
theorem lap_sound : ∀ (S : List (Nat × Nat)) {S0 : List (Nat × Nat)} {T : List Nat}, (∀ e ∈ S, e ∈ S0) → (∀ e ∈ S, e.1 < T.length) → (∀ a b, Bit T a b → Rch S0 a b) → ∀ a b, Bit (lap S T) a b → Rch S0 a b
  | [], _, _, _, _, h => h
  | e :: r, S0, T, h0, hS, h => lap_sound r (fun e' he => h0 e' (List.mem_cons_of_mem _ he)) (fun e' he => by rw [put_len]; exact hS e' (List.mem_cons_of_mem _ he)) fun a b hb => by
    refine Or.elim ((bit_put (hS e (List.mem_cons_self ..))).mp hb) (fun hb => h a b hb) fun hb => ?_
    · obtain ⟨ea, hb2⟩ := hb
      subst ea
      have he : Rch S0 e.1 e.2 := ⟨1, .one (h0 e (List.mem_cons_self ..))⟩
      refine Or.elim hb2 (fun e1 => ?_) (fun hb => he.tr (h _ _ hb))
      rw [e1]
      exact he
/-- behind r laps all paths of at most r steps are there -/
def Upto (S : List (Nat × Nat)) (T : List Nat) (r : Nat) : Prop := ∀ k a b, Pth S k a b → k ≤ r → Bit T a b
theorem Upto.lap {r : Nat} (hS : ∀ e ∈ S, e.1 < T.length) (u : Upto S T r) : Upto S (lap S T) (r + 1) := fun k a b p hk => by
  cases p with
  | one h => exact lap_edge S hS h (.inl rfl)
  | step h p => exact lap_edge S hS h (.inr (u _ _ _ p (by omega)))
/-- where a lap changes nothing all paths are there -/
theorem still_all (hS : ∀ e ∈ S, e.1 < T.length) (h : ∀ a b c, (a, b) ∈ S → c = b ∨ Bit T b c → Bit T a c) {a b : Nat} (p : Rch S a b) : Bit T a b := by
  obtain ⟨k, p⟩ := p
  induction p with
  | one h' => exact h _ _ _ h' (.inl rfl)
  | step h' p ih => exact h _ _ _ h' (.inr ih)
end
end Tl

namespace Tl
/-! ### signs in a row, steps -/
section
variable (sz : Nat → Nat)
def off : Nat → Nat
  | 0 => 0
  | c + 1 => off c + sz c
def rowOf (c : Nat) : List Sg := (List.range (sz c)).map fun i => (c, i)
def marks : Nat → List Sg
  | 0 => []
  | c + 1 => marks c ++ rowOf sz c
def ps (x : Sg) : Nat := off sz x.1 + x.2
/-- a sign of the births below n -/
def Ok (n : Nat) (x : Sg) : Prop := x.1 < n ∧ x.2 < sz x.1
end
section
variable {sz : Nat → Nat} {n : Nat} {x y : Sg}
theorem rowOf_len (c : Nat) : (rowOf sz c).length = sz c := by simp [rowOf]
theorem marks_len : ∀ n, (marks sz n).length = off sz n
  | 0 => rfl
  | n + 1 => by
    show (marks sz n ++ rowOf sz n).length = off sz n + sz n
    rw [List.length_append, marks_len n, rowOf_len]
theorem marks_at : ∀ {n : Nat} {x : Sg}, Ok sz n x → (marks sz n)[ps sz x]? = some x
  | 0, x, h => absurd h.1 (Nat.not_lt_zero _)
  | n + 1, x, h => by
    show (marks sz n ++ rowOf sz n)[ps sz x]? = some x
    by_cases hx : x.1 < n
    · have ih := marks_at (n := n) ⟨hx, h.2⟩
      obtain ⟨hl, _⟩ := List.getElem?_eq_some_iff.mp ih
      rw [List.getElem?_append_left hl]
      exact ih
    · have e : x.1 = n := by have := h.1; omega
      have e2 : ps sz x = (marks sz n).length + x.2 := by unfold ps; rw [marks_len, e]
      rw [e2, List.getElem?_append_right (by omega), Nat.add_sub_cancel_left]
      unfold rowOf
      rw [List.getElem?_map, List.getElem?_range (by rw [← e]; exact h.2)]
      show some (n, x.2) = some x
      rw [← e]
theorem mem_marks : ∀ {n : Nat} {x : Sg}, x ∈ marks sz n ↔ Ok sz n x
  | 0, x => by simp [marks, Ok]
  | n + 1, x => by
    show x ∈ marks sz n ++ rowOf sz n ↔ _
    rw [List.mem_append, mem_marks]
    unfold rowOf Ok
    simp only [List.mem_map, List.mem_range]
    constructor
    · rintro (⟨h1, h2⟩ | ⟨i, hi, rfl⟩)
      · exact ⟨by omega, h2⟩
      · exact ⟨by show n < n + 1; omega, hi⟩
    · rintro ⟨h1, h2⟩
      by_cases hx : x.1 < n
      · exact .inl ⟨hx, h2⟩
      · have e : x.1 = n := by omega
        refine .inr ⟨x.2, by rw [← e]; exact h2, ?_⟩
        rw [← e]
theorem ps_lt (h : Ok sz n x) : ps sz x < off sz n := by
  have := (List.getElem?_eq_some_iff.mp (marks_at h)).1
  rw [marks_len] at this
  exact this
theorem ps_inj (hx : Ok sz n x) (hy : Ok sz n y) (e : ps sz x = ps sz y) : x = y := by
  have h1 := marks_at hx
  rw [e, marks_at hy] at h1
  exact (Option.some.inj h1).symm
theorem sign_at {j : Nat} (h : j < off sz n) : ∃ x, Ok sz n x ∧ ps sz x = j := by
  have hj : j < (marks sz n).length := by rw [marks_len]; exact h
  have hm : (marks sz n)[j] ∈ marks sz n := List.getElem_mem hj
  have ok := mem_marks.mp hm
  refine ⟨_, ok, ?_⟩
  have key : ∀ {n j : Nat} {x : Sg}, (marks sz n)[j]? = some x → ps sz x = j := by
    intro n
    induction n with
    | zero => intro j x h; simp [marks] at h
    | succ n ih =>
      intro j x h
      have h' : (marks sz n ++ rowOf sz n)[j]? = some x := h
      by_cases hl : j < (marks sz n).length
      · rw [List.getElem?_append_left hl] at h'
        exact ih h'
      · rw [List.getElem?_append_right (by omega)] at h'
        unfold rowOf at h'
        rw [List.getElem?_map] at h'
        obtain ⟨i, hi, rfl⟩ := Option.map_eq_some_iff.mp h'
        have e := (List.getElem?_eq_some_iff.mp hi).2
        simp at e
        unfold ps
        show off sz n + i = j
        rw [marks_len] at e hl
        omega
  exact key (List.getElem?_eq_getElem hj)
end
section
variable (L R : Nat → Sg) (sz : Nat → Nat)
def stepsOf (c : Nat) : List (Nat × Nat) := (ps sz (L c), off sz c) :: ((List.range (sz c - 1)).map fun i => (off sz c + i, off sz c + i + 1)) ++ [(off sz c + sz c - 1, ps sz (R c))]
/-- the steps of the births 1 to n -/
def steps : Nat → List (Nat × Nat)
  | 0 => [(0, 1)]
  | n + 1 => steps n ++ stepsOf L R sz (n + 1)
/-- births below n, as a sheet may make them -/
structure Wv (n : Nat) : Prop extends Bs L R n where
  n0 : 0 < n
  s0 : sz 0 = 2
  s1 : ∀ c, 0 < c → c < n → 0 < sz c
  lo : ∀ c, 0 < c → c < n → (L c).2 < sz (L c).1
  ro : ∀ c, 0 < c → c < n → (R c).2 < sz (R c).1
end
section
variable {L R : Nat → Sg} {sz : Nat → Nat} {n : Nat}
theorem Wv.okL (w : Wv L R sz n) {c : Nat} (h0 : 0 < c) (h : c < n) : Ok sz n (L c) := ⟨Nat.lt_trans (w.l c h0 h) h, w.lo c h0 h⟩
theorem Wv.okR (w : Wv L R sz n) {c : Nat} (h0 : 0 < c) (h : c < n) : Ok sz n (R c) := ⟨Nat.lt_trans (w.r c h0 h) h, w.ro c h0 h⟩
theorem Wv.mono (w : Wv L R sz n) {m : Nat} (h0 : 0 < m) (h : m ≤ n) : Wv L R sz m :=
  { Bs.mono w.toBs h with n0 := h0, s0 := w.s0, s1 := fun c h1 h2 => w.s1 c h1 (by omega), lo := fun c h1 h2 => w.lo c h1 (by omega), ro := fun c h1 h2 => w.ro c h1 (by omega) }
theorem mem_steps {m : Nat} {e : Nat × Nat} : e ∈ steps L R sz m ↔ e = (0, 1) ∨ ∃ c, 0 < c ∧ c ≤ m ∧ e ∈ stepsOf L R sz c := by
  induction m with
  | zero =>
    show e ∈ [(0, 1)] ↔ _
    rw [List.mem_singleton]
    constructor
    · exact .inl
    · rintro (h | ⟨c, h1, h2, _⟩)
      · exact h
      · omega
  | succ m ih =>
    show e ∈ steps L R sz m ++ stepsOf L R sz (m + 1) ↔ _
    rw [List.mem_append, ih]
    constructor
    · rintro ((h | ⟨c, h1, h2, h3⟩) | h)
      · exact .inl h
      · exact .inr ⟨c, h1, by omega, h3⟩
      · exact .inr ⟨m + 1, by omega, by omega, h⟩
    · rintro (h | ⟨c, h1, h2, h3⟩)
      · exact .inl (.inl h)
      · by_cases hc : c ≤ m
        · exact .inl (.inr ⟨c, h1, hc, h3⟩)
        · have e : c = m + 1 := by omega
          rw [e] at h3
          exact .inr h3
theorem mem_stepsOf {c : Nat} {e : Nat × Nat} : e ∈ stepsOf L R sz c ↔ e = (ps sz (L c), off sz c) ∨ (∃ i, i < sz c - 1 ∧ e = (off sz c + i, off sz c + i + 1)) ∨ e = (off sz c + sz c - 1, ps sz (R c)) := by
  unfold stepsOf
  simp only [List.cons_append, List.mem_cons, List.mem_append, List.mem_map, List.mem_range, List.not_mem_nil, or_false]
  constructor
  · rintro (h | ⟨i, hi, rfl⟩ | h)
    · exact .inl h
    · exact .inr (.inl ⟨i, hi, rfl⟩)
    · exact .inr (.inr h)
  · rintro (h | ⟨i, hi, rfl⟩ | h)
    · exact .inl h
    · exact .inr (.inl ⟨i, hi, rfl⟩)
    · exact .inr (.inr h)
/-- each step is one of the order -/
theorem step_A (w : Wv L R sz n) {a b : Nat} (h : (a, b) ∈ steps L R sz (n - 1)) : ∃ x y, Ok sz n x ∧ Ok sz n y ∧ ps sz x = a ∧ ps sz y = b ∧ A L R x y := by
  have n0 := w.n0
  rcases mem_steps.mp h with h | ⟨c, h1, h2, h3⟩
  · cases h
    refine ⟨(0, 0), (0, 1), ⟨n0, by rw [w.s0]; decide⟩, ⟨n0, by rw [w.s0]; decide⟩, rfl, rfl, .same rfl (by decide)⟩
  · have hc : c < n := by omega
    have hs := w.s1 c h1 hc
    rcases mem_stepsOf.mp h3 with e | ⟨i, hi, e⟩ | e
    · cases e
      exact ⟨L c, (c, 0), w.okL h1 hc, ⟨hc, hs⟩, rfl, rfl, .lEq (w.l c h1 hc) rfl⟩
    · cases e
      exact ⟨(c, i), (c, i + 1), ⟨hc, by show i < sz c; omega⟩, ⟨hc, by show i + 1 < sz c; omega⟩, rfl, by unfold ps; show off sz c + (i + 1) = _; omega, .same rfl (by show i < i + 1; omega)⟩
    · cases e
      exact ⟨(c, sz c - 1), R c, ⟨hc, by show sz c - 1 < sz c; omega⟩, w.okR h1 hc, by unfold ps; show off sz c + (sz c - 1) = _; omega, rfl, .rEq (w.r c h1 hc) rfl⟩
theorem rch_row (w : Wv L R sz n) {c : Nat} (hc : c < n) : ∀ {i j : Nat}, i < j → j < sz c → Rch (steps L R sz (n - 1)) (off sz c + i) (off sz c + j) := by
  intro i j hij
  obtain ⟨d, rfl⟩ : ∃ d, j = i + 1 + d := ⟨j - (i + 1), by omega⟩
  clear hij
  have one : ∀ i, i + 1 < sz c → Rch (steps L R sz (n - 1)) (off sz c + i) (off sz c + i + 1) := by
    intro i hi
    refine ⟨1, .one (mem_steps.mpr ?_)⟩
    by_cases h0 : c = 0
    · subst h0
      have z := w.s0
      have e : i = 0 := by omega
      subst e
      exact .inl rfl
    · exact .inr ⟨c, by omega, by omega, mem_stepsOf.mpr (.inr (.inl ⟨i, by omega, rfl⟩))⟩
  induction d with
  | zero => intro h; exact one i h
  | succ d ih =>
    intro h
    have p := ih (by omega)
    have q := one (i + 1 + d) (by omega)
    exact p.tr q
theorem rch_A (w : Wv L R sz n) {x y : Sg} (a : A L R x y) : Ok sz n x → Ok sz n y → Rch (steps L R sz (n - 1)) (ps sz x) (ps sz y) := by
  have toR : ∀ {x : Sg}, Ok sz n x → 0 < x.1 → Rch (steps L R sz (n - 1)) (ps sz x) (ps sz (R x.1)) := by
    intro x hx h0
    have e : Rch (steps L R sz (n - 1)) (off sz x.1 + sz x.1 - 1) (ps sz (R x.1)) := ⟨1, .one (mem_steps.mpr (.inr ⟨x.1, h0, by have := hx.1; omega, mem_stepsOf.mpr (.inr (.inr rfl))⟩))⟩
    by_cases hl : x.2 = sz x.1 - 1
    · have e2 : ps sz x = off sz x.1 + sz x.1 - 1 := by unfold ps; have := hx.2; omega
      rw [e2]
      exact e
    · have p := rch_row w hx.1 (i := x.2) (j := sz x.1 - 1) (by have := hx.2; omega) (by have := hx.2; omega)
      have e2 : off sz x.1 + (sz x.1 - 1) = off sz x.1 + sz x.1 - 1 := by have := hx.2; omega
      rw [e2] at p
      exact p.tr e
  have toL : ∀ {y : Sg}, Ok sz n y → 0 < y.1 → Rch (steps L R sz (n - 1)) (ps sz (L y.1)) (ps sz y) := by
    intro y hy h0
    have e : Rch (steps L R sz (n - 1)) (ps sz (L y.1)) (off sz y.1) := ⟨1, .one (mem_steps.mpr (.inr ⟨y.1, h0, by have := hy.1; omega, mem_stepsOf.mpr (.inl rfl)⟩))⟩
    by_cases hl : y.2 = 0
    · have e2 : ps sz y = off sz y.1 := by unfold ps; omega
      rw [e2]
      exact e
    · exact e.tr (rch_row w hy.1 (i := 0) (j := y.2) (by omega) hy.2)
  induction a with
  | @same x y h i =>
    intro hx hy
    unfold ps
    rw [← h]
    exact rch_row w hx.1 i (by rw [h]; exact hy.2)
  | @rEq x y h e => intro hx hy; exact e ▸ toR hx (by omega)
  | @rGo x y h a ih => intro hx hy; exact (toR hx (by omega)).tr (ih (w.okR (by omega) hx.1) hy)
  | @lEq x y h e => intro hx hy; exact e ▸ toL hy (by omega)
  | @lGo x y h a ih => intro hx hy; exact (ih hx (w.okL (by omega) hy.1)).tr (toL hy (by omega))
theorem A_rch (w : Wv L R sz n) {x y : Sg} (hx : Ok sz n x) (hy : Ok sz n y) (p : Rch (steps L R sz (n - 1)) (ps sz x) (ps sz y)) : A L R x y := by
  obtain ⟨k, p⟩ := p
  have key : ∀ {k a b}, Pth (steps L R sz (n - 1)) k a b → ∃ u v, Ok sz n u ∧ Ok sz n v ∧ ps sz u = a ∧ ps sz v = b ∧ A L R u v := by
    intro k a b p
    induction p with
    | one h => exact step_A w h
    | step h p ih =>
      obtain ⟨u, v, h1, h2, h3, h4, h5⟩ := step_A w h
      obtain ⟨u', v', g1, g2, g3, g4, g5⟩ := ih
      have e := ps_inj h2 g1 (h4.trans g3.symm)
      subst e
      exact ⟨u, v', h1, g2, h3, g4, w.tr h1.1 h2.1 g2.1 h5 g5⟩
  obtain ⟨u, v, h1, h2, h3, h4, h5⟩ := key p
  have e1 := ps_inj hx h1 h3.symm
  have e2 := ps_inj hy h2 h4.symm
  subst e1 e2
  exact h5
theorem rch_iff (w : Wv L R sz n) {x y : Sg} (hx : Ok sz n x) (hy : Ok sz n y) : Rch (steps L R sz (n - 1)) (ps sz x) (ps sz y) ↔ A L R x y := ⟨A_rch w hx hy, fun a => rch_A w a hx hy⟩
theorem step_lt (w : Wv L R sz n) {a b : Nat} (h : (a, b) ∈ steps L R sz (n - 1)) : a < off sz n ∧ b < off sz n := by
  obtain ⟨x, y, hx, hy, rfl, rfl, _⟩ := step_A w h
  exact ⟨ps_lt hx, ps_lt hy⟩
theorem path_bound (w : Wv L R sz n) {k a b : Nat} (p : Pth (steps L R sz (n - 1)) k a b) : k + 1 ≤ off sz n := by
  refine Pth.bound (lt := fun a b => ∃ x y, Ok sz n x ∧ Ok sz n y ∧ ps sz x = a ∧ ps sz y = b ∧ A L R x y) (fun a b h => ⟨step_A w h, step_lt w h⟩) (fun a b c ha hb hc h1 h2 => ?_) (fun a h => ?_) p
  · obtain ⟨x, y, hx, hy, rfl, rfl, a1⟩ := h1
    obtain ⟨y', z, hy', hz, e, rfl, a2⟩ := h2
    have e' := ps_inj hy' hy e
    subst e'
    exact ⟨x, z, hx, hz, rfl, rfl, w.tr hx.1 hy.1 hz.1 a1 a2⟩
  · obtain ⟨x, y, hx, hy, rfl, e, a1⟩ := h
    have e' := ps_inj hy hx e
    subst e'
    exact A.irr a1
theorem steps_len (w : Wv L R sz n) : off sz n ≤ (steps L R sz (n - 1)).length + 1 := by
  have key : ∀ m, m < n → off sz (m + 1) ≤ (steps L R sz m).length + 1 := by
    intro m
    induction m with
    | zero =>
      intro _
      show 0 + sz 0 ≤ 1 + 1
      rw [w.s0]
      decide
    | succ m ih =>
      intro h
      have z := ih (by omega)
      show off sz (m + 1) + sz (m + 1) ≤ (steps L R sz m ++ stepsOf L R sz (m + 1)).length + 1
      rw [List.length_append]
      have e : (stepsOf L R sz (m + 1)).length = sz (m + 1) - 1 + 2 := by
        unfold stepsOf
        simp
      rw [e]
      omega
  have n0 := w.n0
  have z := key (n - 1) (by omega)
  rw [Nat.sub_add_cancel n0] at z
  exact z
/-- the table tells the order -/
def Tells (L R : Nat → Sg) (sz : Nat → Nat) (n : Nat) (T : List Nat) : Prop := T.length = off sz n ∧ ∀ x y, Ok sz n x → Ok sz n y → (Bit T (ps sz x) (ps sz y) ↔ A L R x y)
/-- the table under way: sound, all paths of at most r steps -/
structure Under (L R : Nat → Sg) (sz : Nat → Nat) (n : Nat) (T : List Nat) (r : Nat) : Prop where
  len : T.length = off sz n
  snd : ∀ a b, Bit T a b → Rch (steps L R sz (n - 1)) a b
  upto : Upto (steps L R sz (n - 1)) T r
theorem Under.zero : Under L R sz n (List.replicate (off sz n) 0) 0 := by
  refine ⟨List.length_replicate, fun a b h => ?_, fun k a b p hk => ?_⟩
  · exfalso
    unfold Bit at h
    have e : (List.replicate (off sz n) 0).getD a 0 = 0 := by
      simp [List.getD, List.getElem?_replicate]
      split <;> rfl
    rw [e] at h
    simp at h
  · cases p <;> omega
theorem Under.fst (w : Wv L R sz n) {T : List Nat} {r : Nat} (u : Under L R sz n T r) : ∀ e ∈ steps L R sz (n - 1), e.1 < T.length := fun e he => by
  rw [u.len]
  exact (step_lt w (a := e.1) (b := e.2) he).1
theorem Under.lap (w : Wv L R sz n) {T : List Nat} {r : Nat} (u : Under L R sz n T r) : Under L R sz n (lap (steps L R sz (n - 1)) T) (r + 1) :=
  ⟨(lap_len _ _).trans u.len, lap_sound _ (fun _ h => h) (u.fst w) u.snd, u.upto.lap (u.fst w)⟩
theorem Under.done (w : Wv L R sz n) {T : List Nat} {r : Nat} (u : Under L R sz n T r) (h : off sz n ≤ r + 1) : Tells L R sz n T :=
  ⟨u.len, fun x y hx hy => ⟨fun b => A_rch w hx hy (u.snd _ _ b), fun a => by
    obtain ⟨k, p⟩ := rch_A w a hx hy
    have z := path_bound w p
    exact u.upto k _ _ p (by omega)⟩⟩
theorem Under.still (w : Wv L R sz n) {T : List Nat} {r : Nat} (u : Under L R sz n T r) (h : ∀ a b c, (a, b) ∈ steps L R sz (n - 1) → c = b ∨ Bit T b c → Bit T a c) : Tells L R sz n T :=
  ⟨u.len, fun x y hx hy => ⟨fun b => A_rch w hx hy (u.snd _ _ b), fun a => still_all (u.fst w) h (rch_A w a hx hy)⟩⟩
end
end Tl

namespace Dk
open PySem PySem.Spec PyProof.Rows L2
/-! ### what never runs -/
def tNv : TE := fun _ _ _ => False
theorem pe_never {X : Cx} {e : Expr} : PE X e tNv := ⟨fun _ _ _ _ _ _ h => h.elim⟩
/-! ### keywords alone -/
section
variable {X : Cx} {CX : CXT} {k : Nat} {f : Addr} {fd : FuncData} {ps ks : List Str} {sp : Sp} {E : XK} {x : Str} {p pos : Pos} {kws : List Keyword} {tk : TA} {g : List Value → List Value → List Value} {gV : List V → List V → List V}
def tCallK0 (sp : Sp) (gV : List V → List V → List V) (E : XK) (tk : TA) : TE := fun σ H Q => tk σ H fun zs H2 => sp (gV [] zs) H2 Q E
theorem pe_callK0 (F : FnOk X.prog X.w X.K X.mg X.base CX k f fd ps sp) (hr : Room k X.A) (hg : Gl X x) (hm : X.mg x = some (.ref f)) (hk : PySem.W.keepIn X.K (.ref f) = true) (hb : KBinds X.K fd ps ks g gV) (hx : Passes CX X E)
    (hkw : PK X kws tk) (hall : (backToKw pos (keywordEach kws X.env)).all (·.1.isSome) = true := by rfl) (hks : (backToKw pos (keywordEach kws X.env)).filterMap (·.1) = ks := by rfl)
    (hdb : (x == ("__debug__" : Str)) = false := by decide)
    (hpl : ((backTo pos (starEach [] X.env)).any (·.1) || (backToKw pos (keywordEach kws X.env)).any (·.1.isNone)) = false := by rfl) :
    PE X (.Call (.Name x p) [] kws pos) (tCallK0 sp gV E tk) := by
  refine ⟨fun pins s σ H Q I h => ?_⟩
  refine wpAny_Call_Name_kw (ld_glob I hg hm ?_ hdb)
  refine PySem.W.callWith_KW0 (h₀ := X.base) I.ok.mod.kin hk hall (thn (hkw.run pos pins s σ H _ I h) fun ws s2 ⟨zs, H2, I2, rz, q2⟩ => ⟨I2.kIn, ?_⟩) hpl
  rw [hks]
  exact run_fnk (us := []) (vs := []) F hr hb hx I2 .nil rz q2
theorem r_callK0 {σ : L2.St} {H : Hp} {Q : VK} (h : tk σ H fun zs H2 => sp (gV [] zs) H2 Q E) : tCallK0 sp gV E tk σ H Q := h
end
/-- three values put in another order -/
def p201 {α : Type} : List α → List α → List α
  | [], [a, b, c] => [b, c, a]
  | _, _ => []
def p210 {α : Type} : List α → List α → List α
  | [], [a, b, c] => [c, b, a]
  | _, _ => []
def p120 {α : Type} : List α → List α → List α
  | [], [a, b, c] => [c, a, b]
  | _, _ => []
theorem p201_rel {vs zs : List V} {us ws : List Value} (r : Vals vs us) (q : Vals zs ws) : Vals (p201 vs zs) (p201 us ws) := by
  cases r with
  | cons => exact .nil
  | nil => rcases q with _ | ⟨a, _ | ⟨b, _ | ⟨c, _ | _⟩⟩⟩
           · exact .nil
           · exact .nil
           · exact .nil
           · exact .cons b (.cons c (.cons a .nil))
           · exact .nil
theorem p210_rel {vs zs : List V} {us ws : List Value} (r : Vals vs us) (q : Vals zs ws) : Vals (p210 vs zs) (p210 us ws) := by
  cases r with
  | cons => exact .nil
  | nil => rcases q with _ | ⟨a, _ | ⟨b, _ | ⟨c, _ | _⟩⟩⟩
           · exact .nil
           · exact .nil
           · exact .nil
           · exact .cons c (.cons b (.cons a .nil))
           · exact .nil
theorem p120_rel {vs zs : List V} {us ws : List Value} (r : Vals vs us) (q : Vals zs ws) : Vals (p120 vs zs) (p120 us ws) := by
  cases r with
  | cons => exact .nil
  | nil => rcases q with _ | ⟨a, _ | ⟨b, _ | ⟨c, _ | _⟩⟩⟩
           · exact .nil
           · exact .nil
           · exact .nil
           · exact .cons c (.cons a (.cons b .nil))
           · exact .nil
def rAbs : List V → Hp → VK → Prop := fun xs H Q => ∃ i, xs = [.int i] ∧ Q (.int (if i < 0 then -i else i)) H
theorem call_absU {X : Cx} : CallR X (.builtin "abs") rAbs := call_abs
/-! ### steps -/
section
variable {K : PySem.W.Frag} {σ : L2.St} {H H' : Hp} {Q : VK} {v x y : V} {i j : Int}
theorem r_bool {b : Bool} (q : Q (.int (if b then 1 else 0)) H) : rInt1 [.bl b] H Q := .inr ⟨b, rfl, q⟩
theorem r_abs (q : Q (.int (i.natAbs : Nat)) H) : rAbs [.int i] H Q := ⟨i, rfl, by
  have e : (if i < 0 then -i else i) = (i.natAbs : Int) := by split <;> omega
  rw [e]
  exact q⟩
theorem r_catT {p q : Addr} {xs ys : List V} (hp : SqT K H p xs) (hq : SqT K H q ys) (nx : xs ≠ []) (ny : ys ≠ []) (hz : xs.length + ys.length ≤ 1000) (k : ∀ l, H l = none → Q (.ref l) (upd H l (.tup (xs ++ ys)))) : rAddU K (.ref p) (.ref q) H Q :=
  .inr (.inr (.inr ⟨p, q, xs, ys, rfl, rfl, hp, hq, by rw [sizeLine_eq]; omega, fun z => absurd z nx, fun _ z => absurd z ny, fun _ _ => k⟩))
theorem r_pop0 {p : Addr} {xs : List V} (h : H p = some (.lst (x :: xs))) (q : Q x (upd H p (.lst xs))) : rPopAt (.ref p) [.int 0] H Q :=
  ⟨p, x :: xs, 0, 0, x, rfl, rfl, h, by decide, by decide, by
    show (if _ then _ else _) = _
    simp, rfl, q⟩
theorem r_isiT2 {a n m : String} {b c : Bool} {tp : Addr} (hT : H tp = some (.tup [.ty n, .ty m])) (ty : TyX K H x (.type a)) (e1 : kitB a n = some b) (e2 : kitB a m = some c) (q : Q (.bl (b || c)) H) : rIsiT K [x, .ref tp] H Q := by
  refine ⟨x, tp, [.ty n, .ty m], .type a, [.type n, .type m], b || c, rfl, hT, .cons (.ty n) (.cons (.ty m) .nil), ty, ?_, q⟩
  refine kitAny_cons (kit_ty e1) (r := b || c) (fun hb => ?_) (fun hb => by rw [hb]; rfl)
  subst hb
  refine kitAny_cons (kit_ty e2) (fun hc => ?_) (fun hc => by rw [hc]; rfl)
  subst hc
  exact kitAny_nil
end
theorem r_eqP {x y : V} {H : Hp} {Q : VK} (h : scal x y = true) (q : Q (.bl (decide (x = y))) H) : rEq x y H Q := ⟨h, q⟩
theorem r_gunl {K : PySem.W.Frag} {σ : L2.St} {H : Hp} {N : L2.St → Hp → Prop} {vs : List V} {u : TGs} {n : Nat} {a : Addr} (h : SqL K H a vs) (hl : vs.length = n) (k : u vs σ H N) : gUnl K n u (.ref a) σ H N := ⟨a, vs, rfl, h, hl, k⟩
theorem r_slT {K : PySem.W.Frag} {H : Hp} {Q : VK} {p : Addr} {xs : List V} {n : Nat} (h : SqT K H p xs) (k1 : xs.length ≤ n → Q (.ref p) H) (k2 : ∀ l, H l = none → Q (.ref l) (upd H l (.tup (xs.take n)))) : rSlU K (.ref p) none (some (n : Int)) H Q := by
  refine .inr (.inr ⟨p, xs, rfl, h, fun z => k1 ?_, fun _ l hl => ?_⟩)
  · have e := z.2
    rw [HT.sIx_nat] at e
    omega
  · rw [cutV_to]
    exact k2 l hl
theorem cutV_from (xs : List V) (n : Nat) : cutV xs (some (n : Int)) none = xs.drop n := by
  unfold cutV
  rw [HT.sIx_nat, HT.sIx_none]
  by_cases h : n ≤ xs.length
  · rw [Nat.min_eq_left h, List.take_of_length_le (by rw [List.length_drop]; omega)]
  · rw [Nat.min_eq_right (by omega), Nat.sub_self, List.take_zero, List.drop_eq_nil_of_le (by omega)]
theorem r_break {σ : L2.St} {H : Hp} {D : Ends} (q : D.bk σ H) : tBreak D σ H := q
theorem r_yes {σ : L2.St} {H : Hp} {QB : Bool → Hp → Prop} (q : QB true H) : tYes σ H QB := q
theorem _root_.L2.Room.units65 {k : Nat} {A : Around} (r : L2.Room k A) : A.units + 65 < cLine := by
  have := r.un
  omega
theorem r_lcRo {ta : TA} {g : TG} {tt : TT} {te : TE} {vs : List Nat} {σ : L2.St} {H : Hp} {Q : VK} (h : ta σ H fun us H1 => ∃ j : Int, us = [.int j] ∧ -(2 ^ 62) ≤ j ∧ j < 2 ^ 62 ∧ ∀ D, H1 D = none → ∃ W : Nat → Nat → Hp → Prop, (∃ m, W 0 m (upd H1 D (.lst []))) ∧ ∀ i m H, W i m H →
  ((Itr 0 j.toNat).stop i H ∧ Q (.ref D) H) ∨ ((Itr 0 j.toNat).go i H ∧ ∃ Nx : Hp → Prop, (∀ H', Nx H' → ∃ m', m' < m ∧ W (i + 1) m' H') ∧ ∀ x H', (Itr 0 j.toNat).yld i H x H' → g x (wipe σ vs) H' fun σ2 H2 => wipe σ2 vs = wipe σ vs ∧ tt σ2 H2 fun b H3 =>
    if b = true then te σ2 H3 fun y H4 => ∃ acc, H4 D = some (.lst acc) ∧ acc.length < sizeLine ∧ Nx (upd H4 D (.lst (acc ++ [y]))) else Nx H3)) : tLc (iRng1 ta) g tt te vs σ H Q := h
/-- [.. for x in range(n)] -/
theorem l_lcR {n : Int} {g : TG} {tt : TT} {te : TE} {vs : List Nat} {σ : L2.St} {H1 : Hp} {Qd : Addr → Hp → Prop} (n0 : -1000000 ≤ n) (n1 : n ≤ 1000000) (Pv : Addr → Nat → Hp → Prop) (h0 : ∀ D, H1 D = none → Pv D 0 (upd H1 D (.lst [])))
    (hs : ∀ D (i : Nat) H, H1 D = none → (i : Int) < n → Pv D i H → g (.int (i : Nat)) (wipe σ vs) H fun σ2 H2 => wipe σ2 vs = wipe σ vs ∧ tt σ2 H2 fun b H3 =>
      if b = true then te σ2 H3 fun y H4 => ∃ acc, H4 D = some (.lst acc) ∧ acc.length < sizeLine ∧ Pv D (i + 1) (upd H4 D (.lst (acc ++ [y]))) else Pv D (i + 1) H3) (hd : ∀ D H, H1 D = none → Pv D n.toNat H → Qd D H) :
    ∃ j : Int, [V.int n] = [.int j] ∧ -(2 ^ 62) ≤ j ∧ j < 2 ^ 62 ∧ ∀ D, H1 D = none → ∃ W : Nat → Nat → Hp → Prop, (∃ m, W 0 m (upd H1 D (.lst []))) ∧ ∀ i m H, W i m H →
  ((Itr 0 j.toNat).stop i H ∧ Qd D H) ∨ ((Itr 0 j.toNat).go i H ∧ ∃ Nx : Hp → Prop, (∀ H', Nx H' → ∃ m', m' < m ∧ W (i + 1) m' H') ∧ ∀ x H', (Itr 0 j.toNat).yld i H x H' → g x (wipe σ vs) H' fun σ2 H2 => wipe σ2 vs = wipe σ vs ∧ tt σ2 H2 fun b H3 =>
    if b = true then te σ2 H3 fun y H4 => ∃ acc, H4 D = some (.lst acc) ∧ acc.length < sizeLine ∧ Nx (upd H4 D (.lst (acc ++ [y]))) else Nx H3) := by
  refine ⟨n, rfl, by omega, by omega, fun D hD => lc_range (lo := 0) (Pv D) (h0 D hD) (fun i H hi p => ?_) fun H p => hd D H hD p⟩
  have z := hs D i H hD (by omega) p
  rw [Int.zero_add]
  exact z
/-- for c in range(1, n) -/
theorem l_R1n {n : Nat} {g : TG} {tb : TS} {σ : L2.St} {H : Hp} {D : Ends} (h1 : 1 ≤ n) (h2 : n ≤ 1000000) (Pv : Nat → L2.St → Hp → Prop) (p0 : Pv 1 σ H)
    (ht : ∀ (c : Nat) σ H, 1 ≤ c → c < n → Pv c σ H → g (.int (c : Nat)) σ H fun σ2 H2 => tb { D with nx := Pv (c + 1), ct := Pv (c + 1), bk := D.nx } σ2 H2) (hd : ∀ σ H, Pv n σ H → D.nx σ H) :
    ∃ i j : Int, [V.int 1, V.int (n : Nat)] = [.int i, .int j] ∧ (-(2 ^ 62) ≤ i ∧ i < 2 ^ 62 ∧ -(2 ^ 62) ≤ j ∧ j < 2 ^ 62) ∧ LoopW (Itr i (j - i).toNat) g tb D σ H := by
  refine ⟨1, n, rfl, ⟨by omega, by omega, by omega, by omega⟩, for_range (fun i => Pv (i + 1)) p0 (fun i σ H hi p => ?_) fun σ H p => hd σ H ?_⟩
  · have z := ht (i + 1) σ H (by omega) (by omega) p
    rw [show (1 : Int) + (i : Nat) = ((i + 1 : Nat) : Int) by omega]
    exact z
  · have e : ((n : Int) - 1).toNat + 1 = n := by omega
    rw [e] at p
    exact p
theorem r_lcLo {K : PySem.W.Frag} {tl : TE} {g : TG} {tt : TT} {te : TE} {vs : List Nat} {σ : L2.St} {H : Hp} {Q : VK} (h : tl σ H fun x H1 => ∃ a, x = .ref a ∧ (∃ xs, SqL K H1 a xs) ∧ ∀ D, H1 D = none → ∃ W : Nat → Nat → Hp → Prop, (∃ m, W 0 m (upd H1 D (.lst []))) ∧ ∀ i m H, W i m H →
  ((Itl K a).stop i H ∧ Q (.ref D) H) ∨ ((Itl K a).go i H ∧ ∃ Nx : Hp → Prop, (∀ H', Nx H' → ∃ m', m' < m ∧ W (i + 1) m' H') ∧ ∀ x H', (Itl K a).yld i H x H' → g x (wipe σ vs) H' fun σ2 H2 => wipe σ2 vs = wipe σ vs ∧ tt σ2 H2 fun b H3 =>
    if b = true then te σ2 H3 fun y H4 => ∃ acc, H4 D = some (.lst acc) ∧ acc.length < sizeLine ∧ Nx (upd H4 D (.lst (acc ++ [y]))) else Nx H3)) : tLc (iList K tl) g tt te vs σ H Q := h
theorem l_lcL {K : PySem.W.Frag} {a : Addr} {xs : List V} {g : TG} {tt : TT} {te : TE} {vs : List Nat} {σ : L2.St} {H1 : Hp} {Qd : Addr → Hp → Prop} (hs0 : SqL K H1 a xs) (Pv : Addr → Nat → Hp → Prop) (h0 : ∀ D, H1 D = none → Pv D 0 (upd H1 D (.lst []))) (hl : ∀ D i H, Pv D i H → SqL K H a xs)
    (hs : ∀ D (i : Nat) x H, H1 D = none → xs[i]? = some x → Pv D i H → g x (wipe σ vs) H fun σ2 H2 => wipe σ2 vs = wipe σ vs ∧ tt σ2 H2 fun b H3 =>
      if b = true then te σ2 H3 fun y H4 => ∃ acc, H4 D = some (.lst acc) ∧ acc.length < sizeLine ∧ Pv D (i + 1) (upd H4 D (.lst (acc ++ [y]))) else Pv D (i + 1) H3) (hd : ∀ D H, H1 D = none → Pv D xs.length H → Qd D H) :
    ∃ b, V.ref a = .ref b ∧ (∃ xs, SqL K H1 b xs) ∧ ∀ D, H1 D = none → ∃ W : Nat → Nat → Hp → Prop, (∃ m, W 0 m (upd H1 D (.lst []))) ∧ ∀ i m H, W i m H →
  ((Itl K b).stop i H ∧ Qd D H) ∨ ((Itl K b).go i H ∧ ∃ Nx : Hp → Prop, (∀ H', Nx H' → ∃ m', m' < m ∧ W (i + 1) m' H') ∧ ∀ x H', (Itl K b).yld i H x H' → g x (wipe σ vs) H' fun σ2 H2 => wipe σ2 vs = wipe σ vs ∧ tt σ2 H2 fun b H3 =>
    if b = true then te σ2 H3 fun y H4 => ∃ acc, H4 D = some (.lst acc) ∧ acc.length < sizeLine ∧ Nx (upd H4 D (.lst (acc ++ [y]))) else Nx H3) :=
  ⟨a, rfl, ⟨xs, hs0⟩, fun D hD => lc_list (Pv D) (h0 D hD) (fun i H _ p => hl D i H p) (fun i x H hx p => hs D i x H hD hx p) fun H p => hd D H hD p⟩
/-- a test whose outcome does not matter -/
theorem any_test {tt : TT} {σ : L2.St} {H : Hp} {QB : Bool → Hp → Prop} {S : Bool → Hp → Prop} (h : ∀ QB : Bool → Hp → Prop, (∀ c H1, S c H1 → QB c H1) → tt σ H QB) (k : ∀ c H1, S c H1 → QB c H1) : tt σ H QB := h QB k
theorem any_val {te : TE} {σ : L2.St} {H : Hp} {Q : VK} {S : V → Hp → Prop} (h : ∀ Q : VK, (∀ v H1, S v H1 → Q v H1) → te σ H Q) (k : ∀ v H1, S v H1 → Q v H1) : te σ H Q := h Q k
/-! ### bits -/
theorem or_val (x b y : Nat) : Builtin.bitOr (Builtin.bitOr (x : Int) (1 * 2 ^ ((b : Int)).toNat)) (y : Int) = ((x ||| 1 <<< b ||| y : Nat) : Int) := by
  have e : (1 * 2 ^ ((b : Int)).toNat : Int) = ((1 <<< b : Nat) : Int) := by
    rw [Int.toNat_natCast, Nat.one_shiftLeft]
    push_cast
    omega
  have e1 : Builtin.bitOr (x : Int) ((1 <<< b : Nat) : Int) = ((x ||| 1 <<< b : Nat) : Int) := by
    rw [Bits.bitOr_pp (Int.natCast_nonneg _) (Int.natCast_nonneg _), Int.toNat_natCast, Int.toNat_natCast]
  rw [e, e1, Bits.bitOr_pp (Int.natCast_nonneg _) (Int.natCast_nonneg _), Int.toNat_natCast, Int.toNat_natCast]
theorem bit_val (x k : Nat) : decide (V.int (Builtin.bitAnd ((x : Int) / 2 ^ ((k : Int)).toNat) 1) = V.int 1) = x.testBit k := by
  have e : Builtin.bitAnd ((x : Int) / 2 ^ ((k : Int)).toNat) 1 = (x : Int) / 2 ^ k % 2 := by
    have z := Bits.bit_at (x := (x : Int)) k
    have hp : (0 : Int) ≤ 2 ^ k := Int.pow_nonneg (by decide)
    rw [Int.fdiv_eq_ediv_of_nonneg _ hp] at z
    rw [Int.toNat_natCast]
    exact z
  rw [e, Bool.eq_iff_iff, decide_eq_true_iff, Nat.testBit_eq_decide_div_mod_eq, decide_eq_true_iff]
  have e2 : (x : Int) / 2 ^ k % 2 = ((x / 2 ^ k % 2 : Nat) : Int) := by push_cast; rfl
  rw [e2]
  constructor
  · intro h
    have := V.int.inj h
    omega
  · intro h
    rw [h]
    rfl
/-! ### the box of the draws: a number and a list of heaps -/
def M31 : Int := 2147483629
structure Bx (H : Hp) (b h : Addr) : Prop where
  ne : b ≠ h
  ex : ∃ (z : Int) (ns : List Int), H b = some (.lst [.int z, .ref h]) ∧ 0 ≤ z ∧ z < M31 ∧ H h = some (.lst (ns.map V.int)) ∧ ns.length ≤ 63
structure Dr2 (b h : Addr) (H H' : Hp) : Prop where
  hh : ∀ x o, x ≠ b → x ≠ h → H x = some o → H' x = some o
  st : Bx H' b h
abbrev A2 (b h : Addr) : Addr → Prop := fun x => x = b ∨ x = h
structure W2 (b h : Addr) (G H : Hp) : Prop where
  g : Ex G H
  nb : G b = none
  nh : G h = none
  st : Bx H b h
section
variable {A : Addr → Prop} {b h p : Addr} {G H G1 H1 H2 : Hp} {o : HO}
theorem Bx.gb (s : Bx H b h) : ∃ o, H b = some o := by
  obtain ⟨_, z, ns, h1, _⟩ := s
  exact ⟨_, h1⟩
theorem Bx.gh (s : Bx H b h) : ∃ o, H h = some o := by
  obtain ⟨_, z, ns, _, _, _, h1, _⟩ := s
  exact ⟨_, h1⟩
theorem Bx.up (s : Bx H b h) (e : Ex H H1) : Bx H1 b h := by
  obtain ⟨n, z, ns, h1, h2, h3, h4, h5⟩ := s
  exact ⟨n, z, ns, e _ _ h1, h2, h3, e _ _ h4, h5⟩
theorem Bx.nb (s : Bx H b h) (hp : H p = none) : p ≠ b := fun z => by
  obtain ⟨o, e⟩ := s.gb
  rw [← z, hp] at e
  cases e
theorem Bx.nh (s : Bx H b h) (hp : H p = none) : p ≠ h := fun z => by
  obtain ⟨o, e⟩ := s.gh
  rw [← z, hp] at e
  cases e
theorem Bx.put (s : Bx H b h) (h1 : p ≠ b) (h2 : p ≠ h) : Bx (upd H p o) b h := by
  obtain ⟨n, z, ns, e1, e2, e3, e4, e5⟩ := s
  exact ⟨n, z, ns, by rw [upd_ne (Ne.symm h1)]; exact e1, e2, e3, by rw [upd_ne (Ne.symm h2)]; exact e4, e5⟩
theorem Bx.na (s : Bx H b h) (hp : H p = none) : ¬ A2 b h p := fun z => z.elim (s.nb hp) (s.nh hp)
theorem Dr2.refl (s : Bx H b h) : Dr2 b h H H := ⟨fun _ _ _ _ e => e, s⟩
theorem Dr2.trans (x : Dr2 b h H H1) (y : Dr2 b h H1 H2) : Dr2 b h H H2 := ⟨fun u o n m e => y.hh u o n m (x.hh u o n m e), y.st⟩
theorem Dr2.ex (s : Bx H b h) (e : Ex H H1) : Dr2 b h H H1 := ⟨fun u o _ _ q => e u o q, s.up e⟩
theorem Dr2.then (x : Dr2 b h H H1) (e : Ex H1 H2) : Dr2 b h H H2 := x.trans (.ex x.st e)
theorem Dr2.new (x : Dr2 b h H H1) (hp : H1 p = none) : Dr2 b h H (upd H1 p o) := x.then (Same.new (Same.refl H1) hp)
theorem Dr2.mut (x : Dr2 b h H H1) (hp : H p = none) (h1 : p ≠ b) (h2 : p ≠ h) : Dr2 b h H (upd H1 p o) :=
  ⟨fun u q n m e => by rw [upd_ne (ne_of_none e hp)]; exact x.hh u q n m e, x.st.put h1 h2⟩
theorem Dr2.fresh (x : Dr2 b h H H1) (hp : H1 p = none) : H p = none := by
  cases e : H p with
  | none => rfl
  | some o =>
    rw [x.hh p o (x.st.nb hp) (x.st.nh hp) e] at hp
    cases hp
theorem Dr2.gr (g : Ex G H) (nb : G b = none) (nh : G h = none) (s : Bx H b h) (d : Dr2 b h H H1) : Gr (A2 b h) G H G H1 where
  gg := Same.refl G
  gh := fun u x e => d.hh u x (ne_of_none e nb) (ne_of_none e nh) (g u x e)
  hh := fun u x z e => d.hh u x (fun q => z (.inl q)) (fun q => z (.inr q)) e
  th := fun u x e => by
    by_cases h1 : u = b
    · rw [h1]
      exact d.st.gb
    by_cases h2 : u = h
    · rw [h2]
      exact d.st.gh
    exact ⟨x, d.hh u x h1 h2 e⟩
  nw := fun u x e z => z
theorem W2.nb1 (x : W2 b h G H) (t : Gr A G H G1 H1) : G1 b = none := by
  obtain ⟨o, e⟩ := x.st.gb
  exact t.nw b _ e x.nb
theorem W2.nh1 (x : W2 b h G H) (t : Gr A G H G1 H1) : G1 h = none := by
  obtain ⟨o, e⟩ := x.st.gh
  exact t.nw h _ e x.nh
theorem W2.step (x : W2 b h G H) (t : Gr (A2 b h) G H G1 H1) (s : Bx H1 b h) : W2 b h G1 H1 := ⟨t.gh, x.nb1 t, x.nh1 t, s⟩
theorem W2.pure (x : W2 b h G H) (t : Gr A0 G H G1 H1) : W2 b h G1 H1 := ⟨t.gh, x.nb1 t, x.nh1 t, x.st.up t.same⟩
theorem W2.ex (x : W2 b h G H) (e : Ex H H1) : W2 b h G H1 := ⟨x.g.trans e, x.nb, x.nh, x.st.up e⟩
theorem W2.gdr (x : W2 b h G H) (d : Dr2 b h H H1) : Gr (A2 b h) G H G H1 := Dr2.gr x.g x.nb x.nh x.st d
theorem W2.dr (x : W2 b h G H) (d : Dr2 b h H H1) : W2 b h G H1 := x.step (x.gdr d) d.st
end
def spPick : Sp := fun vs H Q _ => ∃ (b h : Addr) (n : Int), vs = [.ref b, .int n] ∧ Bx H b h ∧ 0 < n ∧ n ≤ 1000 ∧ ∀ (d : Int) H', 0 ≤ d → d < n → Dr2 b h H H' → Q (.int d) H'
def spDraws (K : PySem.W.Frag) : Sp := fun vs H Q _ => ∃ (s : Addr) (ns : List Int), vs = [.ref s] ∧ SqL K H s (ns.map V.int) ∧ ns.length ≤ 63 ∧ ∀ b h H', Ex H H' → H b = none → H h = none → Bx H' b h → Q (.ref b) H'
def spSay : Sp := fun vs H Q _ => ∃ (b h : Addr) (n : Int), vs = [.ref b, .int n] ∧ Bx H b h ∧ 0 < n ∧ n ≤ 100 ∧ ∀ (t : Str) H', 0 < t.length → (t.length : Int) ≤ n → Dr2 b h H H' → Q (.str t) H'
theorem nat31 {z : Int} (h0 : 0 ≤ z) (h : z < M31) : z.natAbs < 2 ^ 31 := by
  unfold M31 at h
  have e : (2 : Nat) ^ 31 = 2147483648 := by decide
  omega
theorem mix31 (e : Int) : 0 ≤ e % M31 ∧ e % M31 < M31 := ⟨Int.emod_nonneg _ (by decide), Int.emod_lt_of_pos _ (by decide)⟩
/-! ### signs -/
/-- a sign's two numbers -/
def SgV (G : Hp) (v : V) (x : Tl.Sg) : Prop := ∃ p, v = .ref p ∧ G p = some (.tup [.int (x.1 : Nat), .int (x.2 : Nat)])
theorem SgV.up {G G' : Hp} {v : V} {x : Tl.Sg} (e : Ex G G') (h : SgV G v x) : SgV G' v x := h.imp fun _ z => ⟨z.1, e _ _ z.2⟩
abbrev sgD (x : Tl.Sg) : PyData := .tuple [.int (x.1 : Nat), .int (x.2 : Nat)]
theorem SgV.dp {K : PySem.W.Frag} {G : Hp} {v : V} {x : Tl.Sg} (h : SgV G v x) : Dp K G v (sgD x) := by
  obtain ⟨p, rfl, hp⟩ := h
  exact .tup (sqT hp) (.cons (.int _) (.cons (.int _) .nil))
theorem sg_shaped (x : Tl.Sg) : SeqAt.shaped (sgD x) = true := by
  rfl
theorem sg_eqv (x y : Tl.Sg) : PyData.eqv (sgD x) (sgD y) = decide (x = y) := by
  obtain ⟨a, b⟩ := x
  obtain ⟨c, d⟩ := y
  show (PyData.eqv (.int a) (.int c) && (PyData.eqv (.int b) (.int d) && true)) = _
  show (((a : Int) == c) && (((b : Int) == d) && true)) = _
  rw [Bool.eq_iff_iff]
  simp
  omega
theorem r_eqSg {K : PySem.W.Frag} {H : Hp} {Q : VK} {v w : V} {x y : Tl.Sg} (h1 : SgV H v x) (h2 : SgV H w y) (q : Q (.bl (decide (x = y))) H) : rEqU K v w H Q :=
  .inr ⟨_, _, h1.dp, h2.dp, sg_shaped x, sg_shaped y, by rw [sg_eqv]; exact q⟩
/-! ### two lists side by side -/
inductive P2 {α β : Type} (R : α → β → Prop) : List α → List β → Prop where
  | nil : P2 R [] []
  | cons {a : α} {b : β} {l : List α} {m : List β} (h : R a b) (t : P2 R l m) : P2 R (a :: l) (b :: m)
section
variable {α β : Type} {R S : α → β → Prop} {l l' : List α} {m m' : List β}
theorem P2.len (h : P2 R l m) : l.length = m.length := by
  induction h with
  | nil => rfl
  | cons h t ih => rw [List.length_cons, List.length_cons, ih]
theorem P2.get (h : P2 R l m) : ∀ {i : Nat} {a : α}, l[i]? = some a → ∃ b, m[i]? = some b ∧ R a b := by
  induction h with
  | nil => intro i a e; simp at e
  | @cons a b l m h t ih =>
    intro i x e
    cases i with
    | zero => exact ⟨b, rfl, by simp at e; exact e ▸ h⟩
    | succ i =>
      simp at e
      simpa using ih e
theorem P2.get' (h : P2 R l m) : ∀ {i : Nat} {b : β}, m[i]? = some b → ∃ a, l[i]? = some a ∧ R a b := by
  induction h with
  | nil => intro i a e; simp at e
  | @cons a b l m h t ih =>
    intro i x e
    cases i with
    | zero => exact ⟨a, rfl, by simp at e; exact e ▸ h⟩
    | succ i =>
      simp at e
      simpa using ih e
theorem P2.imp (h : P2 R l m) (k : ∀ a b, R a b → S a b) : P2 S l m := by
  induction h with
  | nil => exact .nil
  | cons h t ih => exact .cons (k _ _ h) ih
theorem P2.app (h : P2 R l m) (h' : P2 R l' m') : P2 R (l ++ l') (m ++ m') := by
  induction h with
  | nil => exact h'
  | cons h t ih => exact .cons h ih
theorem P2.snoc {a : α} {b : β} (h : P2 R l m) (k : R a b) : P2 R (l ++ [a]) (m ++ [b]) := h.app (.cons k .nil)
theorem P2.take (h : P2 R l m) : ∀ n, P2 R (l.take n) (m.take n) := by
  induction h with
  | nil => intro n; simp; exact .nil
  | cons h t ih =>
    intro n
    cases n with
    | zero => exact .nil
    | succ n => exact .cons h (ih n)
theorem P2.drop (h : P2 R l m) : ∀ n, P2 R (l.drop n) (m.drop n) := by
  induction h with
  | nil => intro n; simp; exact .nil
  | cons h t ih =>
    intro n
    cases n with
    | zero => exact .cons h t
    | succ n => exact ih n
end
theorem P2.join {α β γ : Type} {R : α → γ → Prop} {S : β → γ → Prop} {U : α → β → Prop} {l : List α} {m : List β} {n : List γ} (h : P2 R l n) (k : ∀ a b c, R a c → S b c → U a b) (g : P2 S m n) : P2 U l m := by
  induction h generalizing m with
  | nil => cases g; exact .nil
  | cons h t ih => cases g with
    | cons h' t' => exact .cons (k _ _ _ h h') (ih t')
/-- a list of signs -/
abbrev SgL (G : Hp) : List V → List Tl.Sg → Prop := P2 (SgV G)
theorem SgL.up {G G' : Hp} {l : List V} {m : List Tl.Sg} (e : Ex G G') (h : SgL G l m) : SgL G' l m := h.imp fun _ _ z => z.up e
theorem SgL.dps {K : PySem.W.Frag} {G : Hp} {l : List V} {m : List Tl.Sg} (h : SgL G l m) : DpAll K G l (m.map sgD) := by
  induction h with
  | nil => exact .nil
  | cons h t ih => exact .cons h.dp ih
theorem sgs_shaped (m : List Tl.Sg) : SeqAt.shaped (.list (m.map sgD)) = true := by
  have key : PyData.canLayAll0 (m.map sgD) = true ∧ PyData.depthAll (m.map sgD) ≤ 2 := by
    induction m with
    | nil => exact ⟨rfl, by decide⟩
    | cons x r ih =>
      refine ⟨?_, ?_⟩
      · show ((sgD x).canLay0 && PyData.canLayAll0 (r.map sgD)) = true
        rw [ih.1]
        rfl
      · show max (sgD x).depth (PyData.depthAll (r.map sgD)) ≤ 2
        have e : (sgD x).depth ≤ 2 := by simp [sgD, PyData.depth, PyData.depthAll]
        omega
  show (PyData.canLayAll0 (m.map sgD) && decide (_ ≤ 64)) = true
  rw [key.1]
  have e : (PyData.list (m.map sgD)).depth = PyData.depthAll (m.map sgD) + 1 := by first | rfl | exact Nat.add_comm _ _
  show decide (_ ≤ 64) = true
  rw [decide_eq_true_iff, e]
  omega
/-- l.index(x), l a list of signs -/
theorem r_indexSg {K : PySem.W.Frag} {H : Hp} {Q : VK} {a : Addr} {xs : List V} {v : V} {m : List Tl.Sg} {x : Tl.Sg} {j : Nat} (hl : SqL K H a xs) (hm : SgL H xs m) (hv : SgV H v x) (hj : m[j]? = some x) (hno : ∀ i, i < j → m[i]? ≠ some x) (q : Q (.int (j : Nat)) H) :
    rIndexD K (.ref a) [v] H Q := by
  refine ⟨a, v, sgD x, m.map sgD, j, sgD x, rfl, rfl, .lst hl hm.dps, hv.dp, sgs_shaped m, sg_shaped x, by rw [List.getElem?_map, hj]; rfl, by rw [sg_eqv]; simp, fun i z hi hz => ?_, q⟩
  rw [List.getElem?_map] at hz
  obtain ⟨y, hy, rfl⟩ := Option.map_eq_some_iff.mp hz
  rw [sg_eqv]
  refine decide_eq_false fun e => hno i hi ?_
  rw [hy, e]
end Dk

/-! immutable data: kept as long as tuples are kept -/
namespace Dk
open PySem PySem.Spec PyProof.Rows L2
def Tk (H H' : Hp) : Prop := ∀ p xs, H p = some (.tup xs) → H' p = some (.tup xs)
section
variable {H H' H1 H2 : Hp} {b h p l : Addr} {xs ys : List V} {o : HO}
theorem Tk.refl (H : Hp) : Tk H H := fun _ _ e => e
theorem Tk.trans (x : Tk H H1) (y : Tk H1 H2) : Tk H H2 := fun p xs e => y p xs (x p xs e)
theorem Tk.ex (e : Ex H H') : Tk H H' := fun p xs h => e _ _ h
theorem Tk.put (e : H l = some (.lst xs)) : Tk H (upd H l o) := fun p ys h => by
  have n : p ≠ l := fun z => by rw [z, e] at h; cases h
  rw [upd_ne n]
  exact h
theorem Tk.new (e : H p = none) : Tk H (upd H p o) := .ex (Same.new (Same.refl H) e)
theorem Bx.tk (s : Bx H b h) (d : Dr2 b h H H') : Tk H H' := fun p xs e => by
  obtain ⟨_, z, ns, h1, _, _, h2, _⟩ := s
  exact d.hh p _ (fun q => by rw [q, h1] at e; cases e) (fun q => by rw [q, h2] at e; cases e) e
end
/-- a relation between values and data that tuples alone bear -/
class Imm {α : Type} (R : Hp → V → α → Prop) : Prop where
  tk : ∀ {H H' : Hp} {v : V} {x : α}, Tk H H' → R H v x → R H' v x
theorem imm {α : Type} {R : Hp → V → α → Prop} [i : Imm R] {H H' : Hp} {v : V} {x : α} (t : Tk H H') (r : R H v x) : R H' v x := i.tk t r
def IntV (H : Hp) (v : V) (n : Nat) : Prop := v = .int (n : Nat)
def StrV (H : Hp) (v : V) (z : Str) : Prop := v = .str z
def PairV {α β : Type} (R : Hp → V → α → Prop) (S : Hp → V → β → Prop) (H : Hp) (v : V) (x : α × β) : Prop := ∃ (p : Addr) (a b : V), v = .ref p ∧ H p = some (.tup [a, b]) ∧ R H a x.1 ∧ S H b x.2
def TupV {α : Type} (R : Hp → V → α → Prop) (H : Hp) (v : V) (l : List α) : Prop := ∃ (p : Addr) (xs : List V), v = .ref p ∧ H p = some (.tup xs) ∧ P2 (R H) xs l
instance : Imm IntV := ⟨fun _ h => h⟩
instance : Imm StrV := ⟨fun _ h => h⟩
instance : Imm SgV := ⟨fun t h => h.imp fun p z => ⟨z.1, t _ _ z.2⟩⟩
instance {α β : Type} {R : Hp → V → α → Prop} {S : Hp → V → β → Prop} [Imm R] [Imm S] : Imm (PairV R S) := ⟨fun t h => by
  obtain ⟨p, a, b, h1, h2, h3, h4⟩ := h
  exact ⟨p, a, b, h1, t _ _ h2, imm t h3, imm t h4⟩⟩
theorem p2_imm {α : Type} {R : Hp → V → α → Prop} [Imm R] {H H' : Hp} {xs : List V} {l : List α} (t : Tk H H') (h : P2 (R H) xs l) : P2 (R H') xs l := h.imp fun _ _ z => imm t z
instance {α : Type} {R : Hp → V → α → Prop} [Imm R] : Imm (TupV R) := ⟨fun t h => by
  obtain ⟨p, xs, h1, h2, h3⟩ := h
  exact ⟨p, xs, h1, t _ _ h2, p2_imm t h3⟩⟩
section
variable {α β : Type} {R : Hp → V → α → Prop} {S : Hp → V → β → Prop} {K : PySem.W.Frag} {σ : L2.St} {H H' : Hp} {Q : VK} {v u a b : V} {x : α} {y : β} {l m : List α} {xs : List V} {N : L2.St → Hp → Prop}
theorem TupV.ref (h : TupV R H v l) : ∃ p xs, v = .ref p ∧ H p = some (.tup xs) ∧ P2 (R H) xs l := h
theorem r_ixTV {i : Nat} (h : TupV R H v l) (hx : l[i]? = some x) (q : ∀ u, R H u x → Q u H) : rIx K v (.int (i : Nat)) H Q := by
  obtain ⟨p, xs, rfl, hp, hl⟩ := h
  obtain ⟨u, hu, hr⟩ := hl.get' hx
  exact r_ixT (sqT hp) (atI_nat hu) (q u hr)
theorem r_ixTm (h : TupV R H v (l ++ [x])) (q : ∀ u, R H u x → Q u H) : rIx K v (.int (-1)) H Q := by
  obtain ⟨p, xs, rfl, hp, hl⟩ := h
  have hlen := hl.len
  obtain ⟨u, hu, hr⟩ := hl.get' (i := l.length) (b := x) (by simp)
  rw [List.length_append, List.length_singleton] at hlen
  have e : xs = xs.dropLast ++ [u] := by
    have hne : xs ≠ [] := fun z => by rw [z] at hlen; simp at hlen
    have h1 := (List.dropLast_concat_getLast hne).symm
    have h2 : xs.getLast hne = u := by
      have h3 : xs[xs.length - 1]? = some (xs.getLast hne) := by rw [← List.getLast?_eq_getElem?]; exact List.getLast?_eq_some_getLast hne
      rw [hlen, Nat.add_sub_cancel, hu] at h3
      exact (Option.some.inj h3).symm
    rw [h2] at h1
    exact h1
  rw [e] at hp
  exact r_ixT (sqT hp) (atI_last _ _) (q u hr)
theorem r_ixP0 {z : α × β} (h : PairV R S H v z) (q : ∀ u, R H u z.1 → Q u H) : rIx K v (.int 0) H Q := by
  obtain ⟨p, a, b, rfl, hp, ha, hb⟩ := h
  exact r_ixT (sqT hp) (atI_nat (j := 0) rfl) (q a ha)
theorem r_ixP1 {z : α × β} (h : PairV R S H v z) (q : ∀ u, S H u z.2 → Q u H) : rIx K v (.int 1) H Q := by
  obtain ⟨p, a, b, rfl, hp, ha, hb⟩ := h
  exact r_ixT (sqT hp) (atI_nat (j := 1) rfl) (q b hb)
theorem r_ixS0 {z : Tl.Sg} (h : SgV H v z) (q : Q (.int (z.1 : Nat)) H) : rIx K v (.int 0) H Q := by
  obtain ⟨p, rfl, hp⟩ := h
  exact r_ixT (sqT hp) (atI_nat (j := 0) rfl) q
theorem r_ixS1 {z : Tl.Sg} (h : SgV H v z) (q : Q (.int (z.2 : Nat)) H) : rIx K v (.int 1) H Q := by
  obtain ⟨p, rfl, hp⟩ := h
  exact r_ixT (sqT hp) (atI_nat (j := 1) rfl) q
theorem r_lenTV (h : TupV R H v l) (q : Q (.int (l.length : Nat)) H) : rLenU K [v] H Q := by
  obtain ⟨p, xs, rfl, hp, hl⟩ := h
  refine r_lenT (sqT hp) ?_
  rw [hl.len]
  exact q
theorem r_gP {t : TGs} {z : α × β} (h : PairV R S H v z) (k : ∀ a b, R H a z.1 → S H b z.2 → t [a, b] σ H N) : gTup K 2 t v σ H N := by
  obtain ⟨p, a, b, rfl, hp, ha, hb⟩ := h
  exact r_gtup (sqT hp) rfl (k a b ha hb)
theorem r_mkP [Imm R] [Imm S] (ha : R H a x) (hb : S H b y) (q : ∀ p H', H p = none → Ex H H' → PairV R S H' (.ref p) (x, y) → Q (.ref p) H') : [a, b].length ≤ sizeLine ∧ ∀ p, H p = none → Q (.ref p) (upd H p (.tup [a, b])) :=
  r_small nsz fun p hp => q p _ hp (Same.new (Same.refl H) hp) ⟨p, a, b, rfl, upd_same, imm (.new hp) ha, imm (.new hp) hb⟩
theorem r_mkS {i j : Nat} (q : ∀ p H', H p = none → Ex H H' → SgV H' (.ref p) (i, j) → Q (.ref p) H') : [V.int (i : Nat), V.int (j : Nat)].length ≤ sizeLine ∧ ∀ p, H p = none → Q (.ref p) (upd H p (.tup [V.int (i : Nat), V.int (j : Nat)])) :=
  r_small nsz fun p hp => q p _ hp (Same.new (Same.refl H) hp) ⟨p, rfl, upd_same⟩
theorem r_mkT [Imm R] (h : P2 (R H) xs l) (hl : l.length ≤ 1000) (q : ∀ p H', H p = none → Ex H H' → TupV R H' (.ref p) l → Q (.ref p) H') : xs.length ≤ sizeLine ∧ ∀ p, H p = none → Q (.ref p) (upd H p (.tup xs)) :=
  r_small (by rw [h.len]; exact hl) fun p hp => q p _ hp (Same.new (Same.refl H) hp) ⟨p, xs, rfl, upd_same, p2_imm (.new hp) h⟩
theorem r_catTV [Imm R] (h1 : TupV R H v l) (h2 : TupV R H u m) (hz : l.length + m.length ≤ 1000) (q : ∀ w H', Ex H H' → TupV R H' w (l ++ m) → Q w H') : rAddU K v u H Q := by
  obtain ⟨p, xs, rfl, hp, hl⟩ := h1
  obtain ⟨p2, ys, rfl, hp2, hm⟩ := h2
  refine .inr (.inr (.inr ⟨p, p2, xs, ys, rfl, rfl, sqT hp, sqT hp2, Nat.le_of_lt (small1000 (by rw [hl.len, hm.len]; exact hz)), fun z => ?_, fun _ z => ?_, fun _ _ p3 hp3 => ?_⟩))
  · subst z
    cases hl
    exact q _ H (Same.refl H) ⟨p2, ys, rfl, hp2, hm⟩
  · subst z
    cases hm
    rw [List.append_nil] at q
    exact q _ H (Same.refl H) ⟨p, xs, rfl, hp, hl⟩
  · exact q _ _ (Same.new (Same.refl H) hp3) ⟨p3, _, rfl, upd_same, p2_imm (.new hp3) (hl.app hm)⟩
theorem P2.all {l' : List V} {m' : List α} {P : V → α → Prop} (h : P2 P l' m') (lo hi : Option Int) : P2 P (cutV l' lo hi) ((m'.drop (HT.sIx m'.length 0 lo)).take (HT.sIx m'.length m'.length hi - HT.sIx m'.length 0 lo)) := by
  unfold cutV
  rw [h.len]
  exact (h.drop _).take _
theorem r_slTV [Imm R] {lo hi : Option Int} (h : TupV R H v l) (q : ∀ w H', Ex H H' → TupV R H' w ((l.drop (HT.sIx l.length 0 lo)).take (HT.sIx l.length l.length hi - HT.sIx l.length 0 lo)) → Q w H') : rSlU K v lo hi H Q := by
  obtain ⟨p, xs, rfl, hp, hl⟩ := h
  refine .inr (.inr ⟨p, xs, rfl, sqT hp, fun z => ?_, fun _ p2 hp2 => ?_⟩)
  · have e : ((l.drop (HT.sIx l.length 0 lo)).take (HT.sIx l.length l.length hi - HT.sIx l.length 0 lo)) = l := by
      rw [hl.len] at z
      rw [z.1, z.2, List.drop_zero, Nat.sub_zero, List.take_length]
    rw [e] at q
    exact q _ H (Same.refl H) ⟨p, xs, rfl, hp, hl⟩
  · exact q _ _ (Same.new (Same.refl H) hp2) ⟨p2, _, rfl, upd_same, p2_imm (.new hp2) (hl.all lo hi)⟩
theorem cut_to {l : List α} {k : Nat} : (l.drop (HT.sIx l.length 0 none)).take (HT.sIx l.length l.length (some (k : Int)) - HT.sIx l.length 0 none) = l.take k := by
  rw [HT.sIx_nat, HT.sIx_none, List.drop_zero, Nat.sub_zero]
  by_cases h : k ≤ l.length
  · rw [Nat.min_eq_left h]
  · rw [Nat.min_eq_right (by omega), List.take_length, List.take_of_length_le (by omega)]
theorem cut_from {l : List α} {k : Nat} : (l.drop (HT.sIx l.length 0 (some (k : Int)))).take (HT.sIx l.length l.length none - HT.sIx l.length 0 (some (k : Int))) = l.drop k := by
  rw [HT.sIx_nat, HT.sIx_none]
  by_cases h : k ≤ l.length
  · rw [Nat.min_eq_left h, List.take_of_length_le (by rw [List.length_drop]; omega)]
  · rw [Nat.min_eq_right (by omega), Nat.sub_self, List.take_zero, List.drop_eq_nil_of_le (by omega)]
theorem r_slTo [Imm R] {k : Nat} (h : TupV R H v l) (q : ∀ w H', Ex H H' → TupV R H' w (l.take k) → Q w H') : rSlU K v none (some (k : Int)) H Q := r_slTV h (by rw [cut_to]; exact q)
theorem r_slFrom [Imm R] {k : Nat} (h : TupV R H v l) (q : ∀ w H', Ex H H' → TupV R H' w (l.drop k) → Q w H') : rSlU K v (some (k : Int)) none H Q := r_slTV h (by rw [cut_from]; exact q)
/-- tuple(list) -/
theorem r_tupLV [Imm R] {p : Addr} (hp : H p = some (.lst xs)) (h : P2 (R H) xs l) (q : ∀ p H', H p = none → Ex H H' → TupV R H' (.ref p) l → Q (.ref p) H') : rTupU K [.ref p] H Q :=
  r_tupL (sqL hp) fun p2 hp2 => q p2 _ hp2 (Same.new (Same.refl H) hp2) ⟨p2, xs, rfl, upd_same, p2_imm (.new hp2) h⟩
/-- an item of a list -/
theorem r_ixLV {p : Addr} {i : Nat} (hp : H p = some (.lst xs)) (h : P2 (R H) xs l) (hx : l[i]? = some x) (q : ∀ u, R H u x → Q u H) : rIx K (.ref p) (.int (i : Nat)) H Q := by
  obtain ⟨u, hu, hr⟩ := h.get' hx
  exact r_ixL (sqL hp) (atI_nat hu) (q u hr)
theorem r_ixLm {p : Addr} (hp : H p = some (.lst xs)) (h : P2 (R H) xs (l ++ [x])) (q : ∀ u, R H u x → Q u H) : rIx K (.ref p) (.int (-1)) H Q := by
  have hlen := h.len
  obtain ⟨u, hu, hr⟩ := h.get' (i := l.length) (b := x) (by simp)
  rw [List.length_append, List.length_singleton] at hlen
  have e : xs = xs.dropLast ++ [u] := by
    have hne : xs ≠ [] := fun z => by rw [z] at hlen; simp at hlen
    have h1 := (List.dropLast_concat_getLast hne).symm
    have h2 : xs.getLast hne = u := by
      have h3 : xs[xs.length - 1]? = some (xs.getLast hne) := by rw [← List.getLast?_eq_getElem?]; exact List.getLast?_eq_some_getLast hne
      rw [hlen, Nat.add_sub_cancel, hu] at h3
      exact (Option.some.inj h3).symm
    rw [h2] at h1
    exact h1
  rw [e] at hp
  exact r_ixL (sqL hp) (atI_last _ _) (q u hr)
end
/-! equality of pairs of signs -/
abbrev SpV := PairV SgV SgV
abbrev spD (x : Tl.Sg × Tl.Sg) : PyData := .tuple [sgD x.1, sgD x.2]
theorem SpV.dp {K : PySem.W.Frag} {G : Hp} {v : V} {x : Tl.Sg × Tl.Sg} (h : SpV G v x) : Dp K G v (spD x) := by
  obtain ⟨p, a, b, rfl, hp, ha, hb⟩ := h
  exact .tup (sqT hp) (.cons ha.dp (.cons hb.dp .nil))
theorem sp_shaped (x : Tl.Sg × Tl.Sg) : SeqAt.shaped (spD x) = true := by rfl
theorem sp_eqv (x y : Tl.Sg × Tl.Sg) : PyData.eqv (spD x) (spD y) = decide (x = y) := by
  obtain ⟨a, b⟩ := x
  obtain ⟨c, d⟩ := y
  show (PyData.eqv (sgD a) (sgD c) && (PyData.eqv (sgD b) (sgD d) && true)) = _
  rw [sg_eqv, sg_eqv, Bool.and_true, Bool.eq_iff_iff]
  simp
theorem r_eqSp {K : PySem.W.Frag} {H : Hp} {Q : VK} {v w : V} {x y : Tl.Sg × Tl.Sg} (h1 : SpV H v x) (h2 : SpV H w y) (q : Q (.bl (decide (x = y))) H) : rEqU K v w H Q :=
  .inr ⟨_, _, h1.dp, h2.dp, sp_shaped x, sp_shaped y, by rw [sp_eqv]; exact q⟩
theorem r_neSp {K : PySem.W.Frag} {H : Hp} {Q : VK} {v w : V} {x y : Tl.Sg × Tl.Sg} (h1 : SpV H v x) (h2 : SpV H w y) (q : Q (.bl (!decide (x = y))) H) : rNeU K v w H Q :=
  .inr ⟨_, _, h1.dp, h2.dp, sp_shaped x, sp_shaped y, by rw [sp_eqv]; exact q⟩
theorem sps_shaped (m : List (Tl.Sg × Tl.Sg)) : SeqAt.shaped (.list (m.map spD)) = true := by
  have key : PyData.canLayAll0 (m.map spD) = true ∧ PyData.depthAll (m.map spD) ≤ 3 := by
    induction m with
    | nil => exact ⟨rfl, by decide⟩
    | cons x r ih =>
      refine ⟨?_, ?_⟩
      · show ((spD x).canLay0 && PyData.canLayAll0 (r.map spD)) = true
        rw [ih.1]
        rfl
      · show max (spD x).depth (PyData.depthAll (r.map spD)) ≤ 3
        have e : (spD x).depth ≤ 3 := by simp [spD, sgD, PyData.depth, PyData.depthAll]
        omega
  show (PyData.canLayAll0 (m.map spD) && decide (_ ≤ 64)) = true
  rw [key.1]
  have e : (PyData.list (m.map spD)).depth = PyData.depthAll (m.map spD) + 1 := by first | rfl | exact Nat.add_comm _ _
  show decide (_ ≤ 64) = true
  rw [decide_eq_true_iff, e]
  omega
theorem sps_dps {K : PySem.W.Frag} {H : Hp} {xs : List V} {m : List (Tl.Sg × Tl.Sg)} (h : P2 (SpV H) xs m) : DpAll K H xs (m.map spD) := by
  induction h with
  | nil => exact .nil
  | cons h t ih => exact .cons (SpV.dp h) ih
/-- pair not in a list of pairs -/
theorem r_niSp {K : PySem.W.Frag} {H : Hp} {Q : VK} {v : V} {p : Addr} {xs : List V} {x : Tl.Sg × Tl.Sg} {m : List (Tl.Sg × Tl.Sg)} (h1 : SpV H v x) (hp : H p = some (.lst xs)) (h2 : P2 (SpV H) xs m) (q : Q (.bl (!decide (x ∈ m))) H) : rNotInD K v (.ref p) H Q := by
  exact ⟨_, _, h1.dp, .lst (sqL hp) (sps_dps h2), sp_shaped x, sps_shaped m, by
    have e : ((m.map spD).any fun z => PyData.eqv z (spD x)) = decide (x ∈ m) := by
      rw [List.any_map, Bool.eq_iff_iff, List.any_eq_true, decide_eq_true_iff]
      constructor
      · rintro ⟨y, hy, e⟩
        rw [Function.comp_apply, sp_eqv, decide_eq_true_iff] at e
        rw [← e]
        exact hy
      · intro h
        exact ⟨x, h, by rw [Function.comp_apply, sp_eqv]; exact decide_eq_true rfl⟩
    rw [e]
    exact q⟩
end Dk

/-! rules of our own, further -/
namespace Dk
open PySem PySem.Spec PyProof.Rows L2
/-! text * number -/
def rRepS : R2 := fun x y H Q => ∃ (z : Str) (n : Nat), x = .str z ∧ y = .int (n : Nat) ∧ z.length ≤ 100 ∧ n ≤ 8000 ∧ Q (.str (Txt.mul z n)) H
theorem op_repS {X : Cx} : OpR X (binaryOp .Mult) rRepS := by
  intro pins s σ H x y v u Q I rx ry h
  obtain ⟨z, n, rfl, rfl, hz, hn, q⟩ := h
  obtain ⟨t, rfl⟩ := rx
  obtain ⟨t', rfl⟩ := ry
  refine SB.mul ⟨?_, fun h1 h2 => ?_, fun h1 h2 => ?_⟩ fun t' k => ⟨.str (Txt.mul z n), H, I.tok _, ⟨_, rfl⟩, q⟩
  · simp
    omega
  · have e : (z.length : Int) * n ≤ 2 ^ 63 - 1 := by
      have : (z.length : Int) * n ≤ 100 * 8000 := Int.mul_le_mul (by omega) (by omega) (by omega) (by omega)
      omega
    have p : (0 : Int) < n := by omega
    have := (Int.le_ediv_iff_mul_le p).mpr e
    omega
  · have e : z.length * n ≤ 100 * 8000 := Nat.mul_le_mul hz hn
    rw [Int.toNat_natCast]
    show decide (z.length * n > sizeLine) = false
    rw [decide_eq_false_iff_not, sizeLine_eq]
    omega
theorem r_repS {H : Hp} {Q : VK} {z : Str} {n : Nat} (hz : z.length ≤ 100) (hn : n ≤ 8000) (q : Q (.str (Txt.mul z n)) H) : rRepS (.str z) (.int (n : Nat)) H Q := ⟨z, n, rfl, rfl, hz, hn, q⟩
theorem cs_mul (z : Str) (n : Nat) : cs (Txt.mul z n) = (List.replicate n (cs z)).flatten := by
  unfold Txt.mul
  by_cases h1 : (n : Int) < 1
  · have e : n = 0 := by omega
    subst e
    rw [if_pos h1]
    rfl
  · rw [if_neg h1]
    by_cases h2 : ((n : Int) == 1 || z.length == 0) = true
    · rw [if_pos h2]
      rw [Bool.or_eq_true, beq_iff_eq, beq_iff_eq] at h2
      rcases h2 with h2 | h2
      · have e : n = 1 := by omega
        subst e
        simp
      · have e : cs z = [] := List.length_eq_zero_iff.mp (by rw [cs_len]; exact h2)
        rw [e]
        simp
    · rw [if_neg h2, Int.toNat_natCast]
      have key : ∀ (m : Nat) (a : Array Nat), ((List.replicate m z.cps).foldl (fun x y => x ++ y) a).toList = a.toList ++ (List.replicate m (cs z)).flatten := by
        intro m
        induction m with
        | zero => intro a; simp
        | succ m ih =>
          intro a
          rw [List.replicate_succ, List.foldl_cons, ih, List.replicate_succ, List.flatten_cons, Array.toList_append, List.append_assoc]
      have q := key n #[]
      simpa using q
theorem len_mul (z : Str) (n : Nat) : (Txt.mul z n).length = n * z.length := by
  rw [← cs_len, cs_mul, List.length_flatten, List.map_replicate, List.sum_replicate_nat, cs_len]
/-! reversed(a tuple) -/
theorem r_forRvo {K : PySem.W.Frag} {te : TE} {g : TG} {tb : TS} {D : Ends} {σ : L2.St} {H : Hp} (h : te σ H fun v H1 => ∃ (a : Addr) (xs : List V), v = .ref a ∧ ((SqL K H1 a xs ∧ LoopW (Itv K a xs.length) g tb D σ H1) ∨ (SqT K H1 a xs ∧ LoopW (RT.ItvT K a xs.length) g tb D σ H1))) : tFor (RT.iRevA K te) g tb D σ H := h
theorem r_mkSi {H : Hp} {Q : VK} {a b : Int} {i j : Nat} (ea : a = (i : Nat)) (eb : b = (j : Nat)) (q : ∀ p H', H p = none → Ex H H' → SgV H' (.ref p) (i, j) → Q (.ref p) H') : [V.int a, V.int b].length ≤ sizeLine ∧ ∀ p, H p = none → Q (.ref p) (upd H p (.tup [V.int a, V.int b])) := by
  subst ea eb
  exact r_mkS q
section
variable {α β : Type} {R : Hp → V → α → Prop} {S : Hp → V → β → Prop} {H : Hp} {p : Addr} {u v : V} {x : α} {y : β} {l : List α} {xs : List V}
theorem nP [Imm R] [Imm S] (hp : H p = none) (ha : R H u x) (hb : S H v y) : ∃ H', H' = upd H p (.tup [u, v]) ∧ Ex H H' ∧ PairV R S H' (.ref p) (x, y) :=
  ⟨_, rfl, Same.new (Same.refl H) hp, p, u, v, rfl, upd_same, imm (.new hp) ha, imm (.new hp) hb⟩
theorem nS {a b : Int} {i j : Nat} (hp : H p = none) (ea : a = (i : Nat)) (eb : b = (j : Nat)) : ∃ H', H' = upd H p (.tup [V.int a, V.int b]) ∧ Ex H H' ∧ SgV H' (.ref p) (i, j) := by
  subst ea eb
  exact ⟨_, rfl, Same.new (Same.refl H) hp, p, rfl, upd_same⟩
theorem nT [Imm R] (hp : H p = none) (h : P2 (R H) xs l) : ∃ H', H' = upd H p (.tup xs) ∧ Ex H H' ∧ TupV R H' (.ref p) l :=
  ⟨_, rfl, Same.new (Same.refl H) hp, p, xs, rfl, upd_same, p2_imm (.new hp) h⟩
theorem nL (o : HO) (hp : H p = none) : ∃ H', H' = upd H p o ∧ Ex H H' ∧ H' p = some o := ⟨_, rfl, Same.new (Same.refl H) hp, upd_same⟩
end
/-! within a comprehension -/
theorem k_eqU {X : Cx} {K : PySem.W.Frag} (h : X.K = K) (hu : X.A.units + 64 < cLine) : OpR X (compareOp .Eq) (rEqU K) := h ▸ op_eqU hu
theorem k_neU {X : Cx} {K : PySem.W.Frag} (h : X.K = K) (hu : X.A.units + 64 < cLine) : OpR X (compareOp .NotEq) (rNeU K) := h ▸ op_neU hu
/-! ints in lists -/
section
variable {K : PySem.W.Frag} {H : Hp} {Q : VK} {p : Addr} {ns : List Int} {i : Int}
theorem flat_ints : (ns.map V.int).all flatV = true := by
  rw [List.all_map, List.all_eq_true]
  intro x _
  rfl
theorem inV_ints : inV (.int i) (ns.map V.int) = decide (i ∈ ns) := by
  unfold inV
  rw [List.any_map, Bool.eq_iff_iff, List.any_eq_true, decide_eq_true_iff]
  constructor
  · rintro ⟨y, hy, e⟩
    have z : y = i := by
      have := e
      simp [eqV] at this
      omega
    rw [← z]
    exact hy
  · intro h
    exact ⟨i, h, by simp [eqV]⟩
theorem r_inI (hp : SqL K H p (ns.map V.int)) (q : Q (.bl (decide (i ∈ ns))) H) : rInU K (.int i) (.ref p) H Q :=
  .inr ⟨p, _, rfl, .inl hp, rfl, flat_ints, by
    show Q (.bl (inV (.int i) (ns.map V.int))) H
    rw [inV_ints]
    exact q⟩
theorem dps_ints : DpAll K H (ns.map V.int) (ns.map PyData.int) := by
  induction ns with
  | nil => exact .nil
  | cons x r ih => exact .cons (.int _) ih
theorem ints_shaped : SeqAt.shaped (.list (ns.map PyData.int)) = true := by
  have key : PyData.canLayAll0 (ns.map PyData.int) = true ∧ PyData.depthAll (ns.map PyData.int) ≤ 2 := by
    induction ns with
    | nil => exact ⟨rfl, by decide⟩
    | cons x r ih =>
      refine ⟨?_, ?_⟩
      · show ((PyData.int x).canLay0 && PyData.canLayAll0 (r.map PyData.int)) = true
        rw [ih.1]
        rfl
      · show max (PyData.int x).depth (PyData.depthAll (r.map PyData.int)) ≤ 2
        have e : (PyData.int x).depth ≤ 2 := by simp [PyData.depth]
        omega
  show (PyData.canLayAll0 (ns.map PyData.int) && decide (_ ≤ 64)) = true
  rw [key.1]
  have e : (PyData.list (ns.map PyData.int)).depth = PyData.depthAll (ns.map PyData.int) + 1 := by first | rfl | exact Nat.add_comm _ _
  show decide (_ ≤ 64) = true
  rw [decide_eq_true_iff, e]
  omega
/-- l.index(i), l a list of ints -/
theorem r_indexI {j : Nat} (hp : SqL K H p (ns.map V.int)) (hj : ns[j]? = some i) (hno : ∀ m, m < j → ns[m]? ≠ some i) (q : Q (.int (j : Nat)) H) : rIndexD K (.ref p) [.int i] H Q := by
  refine ⟨p, .int i, .int i, ns.map PyData.int, j, .int i, rfl, rfl, .lst hp dps_ints, .int i, ints_shaped, rfl, by rw [List.getElem?_map, hj]; rfl, ?_, fun m z hm hz => ?_, q⟩
  · show ((i : Int) == i) = true
    exact beq_self_eq_true i
  · rw [List.getElem?_map] at hz
    obtain ⟨y, hy, rfl⟩ := Option.map_eq_some_iff.mp hz
    show ((y : Int) == i) = false
    rw [beq_eq_false_iff_ne]
    intro e
    exact hno m hm (by rw [hy, e])
end
end Dk

/-! min(a, b), max(a, b) of two tuples of numbers; sorted of two -/
namespace Dk
open PySem PySem.Spec PyProof.Rows L2 PySem.SeqAt PySem.W
section
variable {prog : Program} {w : World} {A : Around} {E : Value → Shared → Prop} {s : Shared}
theorem call_min_twoH {a b : Value} {Q : Value → Shared → Prop}
    (h : wpAny (model prog w) A.in1 (pyIter (.ref s.heap.objs.size)) (fun it s₂ => ∃ I fp wr G n P St H bt, it = .ref I ∧ WalksS prog w A.in1 I fp wr G n P St ∧ St 0 s₂ ∧ (∀ b ∈ fp, b < s₂.heap.objs.size) ∧ 0 < n ∧
      (∀ b o, H.get? b = some o → b ∉ wr) ∧ (∀ b o, H.get? b = some o → s₂.heap.get? b = some o) ∧ CmpIn prog w A.in1 .Lt H P bt ∧ ∀ v s', P (argBest bt (n - 1)) v → Moved wr G s₂ s' → Q v s') E
      { s with heap := s.heap.push { cls := .type "tuple", data := .seq #[a, b] } }) :
    wpAny (model prog w) A (call (.builtin "min") [a, b]) Q E s := by
  have hname : (toString "min" ++ toString ".loop" : String) = "min.loop" := by decide
  refine call_function_tree F.kind_min F.plain_min F.entry_min (F.args_min2 _ _) ?_
  show wpAny _ A.in1 (Builtin.Builtins.bindParams "min" ["key", "default"] 0 ⟨[], []⟩ >>= _) _ _ s
  refine wpAny_bind (wpAny_of_eq (show Builtin.Builtins.bindParams "min" ["key", "default"] 0 ⟨[], []⟩ = pure [none, none] from rfl) ?_)
  show wpAny _ A.in1 (newTuple [a, b] >>= _) _ _ s
  refine wpAny_bind (wpAny_newObj_type ?_)
  refine wpAny_bind (wpAny_mono h (fun it s₂ h₂ => ?_) fun _ _ e => e)
  obtain ⟨I, fp, wr, G, n, P, St, H, bt, rfl, W, hst, hfp, hn, hw, hkeep, hcmp, hQ⟩ := h₂
  refine wpAny_bind (wpAny_newObj_type ?_)
  have hSf : s₂.heap.objs.size ∉ fp := fun hm => Nat.lt_irrefl _ (hfp _ hm)
  rw [hname]
  refine wpAny_pure ⟨plainId_quiet F.plain_min_loop _, codeAny_min_loop_firstH W H hw bt hcmp s₂.heap.objs.size hSf (fresh_in hkeep) _ hn (fun b o e => Heap.get?_push_of_some _ (hkeep b o e)) (W.frame 0 s₂ _ s₂.toks hst (Nat.le_refl _) fun b _ o e => Heap.get?_push_of_some _ e) (Heap.get?_push_size _ rfl) fun v s' hP hm => ?_⟩
  exact hQ v s' hP (Moved.drop_new (tk := s₂.toks) hm (Nat.le_refl _))
theorem call_max_twoH {a b : Value} {Q : Value → Shared → Prop}
    (h : wpAny (model prog w) A.in1 (pyIter (.ref s.heap.objs.size)) (fun it s₂ => ∃ I fp wr G n P St H bt, it = .ref I ∧ WalksS prog w A.in1 I fp wr G n P St ∧ St 0 s₂ ∧ (∀ b ∈ fp, b < s₂.heap.objs.size) ∧ 0 < n ∧
      (∀ b o, H.get? b = some o → b ∉ wr) ∧ (∀ b o, H.get? b = some o → s₂.heap.get? b = some o) ∧ CmpIn prog w A.in1 .Gt H P bt ∧ ∀ v s', P (argBest bt (n - 1)) v → Moved wr G s₂ s' → Q v s') E
      { s with heap := s.heap.push { cls := .type "tuple", data := .seq #[a, b] } }) :
    wpAny (model prog w) A (call (.builtin "max") [a, b]) Q E s := by
  have hname : (toString "max" ++ toString ".loop" : String) = "max.loop" := by decide
  refine call_function_tree F.kind_max F.plain_max F.entry_max (F.args_max2 _ _) ?_
  show wpAny _ A.in1 (Builtin.Builtins.bindParams "max" ["key", "default"] 0 ⟨[], []⟩ >>= _) _ _ s
  refine wpAny_bind (wpAny_of_eq (show Builtin.Builtins.bindParams "max" ["key", "default"] 0 ⟨[], []⟩ = pure [none, none] from rfl) ?_)
  show wpAny _ A.in1 (newTuple [a, b] >>= _) _ _ s
  refine wpAny_bind (wpAny_newObj_type ?_)
  refine wpAny_bind (wpAny_mono h (fun it s₂ h₂ => ?_) fun _ _ e => e)
  obtain ⟨I, fp, wr, G, n, P, St, H, bt, rfl, W, hst, hfp, hn, hw, hkeep, hcmp, hQ⟩ := h₂
  refine wpAny_bind (wpAny_newObj_type ?_)
  have hSf : s₂.heap.objs.size ∉ fp := fun hm => Nat.lt_irrefl _ (hfp _ hm)
  rw [hname]
  refine wpAny_pure ⟨plainId_quiet F.plain_max_loop _, codeAny_max_loop_firstH W H hw bt hcmp s₂.heap.objs.size hSf (fresh_in hkeep) _ hn (fun b o e => Heap.get?_push_of_some _ (hkeep b o e)) (W.frame 0 s₂ _ s₂.toks hst (Nat.le_refl _) fun b _ o e => Heap.get?_push_of_some _ e) (Heap.get?_push_size _ rfl) fun v s' hP hm => ?_⟩
  exact hQ v s' hP (Moved.drop_new (tk := s₂.toks) hm (Nat.le_refl _))
theorem min_two_data {a b : Value} {x y : PyData} {as bs : List Addr} {Q : Value → Shared → Prop} (hh : A.handled = none) (ra : Reads s.heap a x as) (rb : Reads s.heap b y bs) (ha : PySem.W.AlikeAll [x, y]) (hu : A.units + 1 + PyData.depthAll [x, y] < cLine)
    (h : ∀ h' tk, (∀ c o, s.heap.get? c = some o → h'.get? c = some o) → Q (if dataLt y x = true then b else a) { s with heap := h', toks := tk }) :
    wpAny (model prog w) A (call (.builtin "min") [a, b]) Q E s := by
  have k0 : ∀ c o, s.heap.get? c = some o → (s.heap.push { cls := .type "tuple", data := .seq #[a, b] }).get? c = some o := fun c o e => Heap.get?_push_of_some _ e
  have hl : ({ s with heap := s.heap.push { cls := .type "tuple", data := .seq #[a, b] } } : Shared).heap.IsTuple s.heap.objs.size #[a, b] := ⟨_, Heap.get?_push_size _ rfl, rfl, 0, rfl⟩
  have hr : ReadsAll (s.heap.push { cls := .type "tuple", data := .seq #[a, b] }) (#[a, b] : Array Value).toList [x, y] _ := ReadsAll.cons (Reads.keeps k0 ra) (ReadsAll.cons (Reads.keeps k0 rb) ReadsAll.nil)
  refine call_min_twoH (iter_tupleW (s := { s with heap := s.heap.push { cls := .type "tuple", data := .seq #[a, b] } }) (A := A.in1) hh hl fun s₂ e W st hfp hw hk => ?_)
  refine ⟨_, _, _, _, _, _, _, (s.heap.push { cls := .type "tuple", data := .seq #[a, b] }), _, rfl, W, st, hfp, by simp, hw, hk, PySem.W.cmpIn_lt (s := { s with heap := s.heap.push { cls := .type "tuple", data := .seq #[a, b] } }) (A := A.in1) hr ha (by show A.units + 1 + _ < _; exact hu), fun v s' hP m => ?_⟩
  obtain ⟨h', tk, rfl, hk'⟩ := moved_old e rfl m
  have hv : v = if dataLt y x = true then b else a := by
    have hP' : (#[a, b] : Array Value)[if dataLt y x = true then 1 else 0]? = some v := hP
    by_cases c : dataLt y x = true
    · rw [if_pos c] at hP' ⊢
      exact (Option.some.inj hP').symm
    · rw [if_neg c] at hP' ⊢
      exact (Option.some.inj hP').symm
  rw [hv]
  exact h h' tk fun c o e => hk' c o (k0 c o e)
theorem max_two_data {a b : Value} {x y : PyData} {as bs : List Addr} {Q : Value → Shared → Prop} (hh : A.handled = none) (ra : Reads s.heap a x as) (rb : Reads s.heap b y bs) (ha : PySem.W.AlikeAll [x, y]) (hu : A.units + 1 + PyData.depthAll [x, y] < cLine)
    (h : ∀ h' tk, (∀ c o, s.heap.get? c = some o → h'.get? c = some o) → Q (if dataLt x y = true then b else a) { s with heap := h', toks := tk }) :
    wpAny (model prog w) A (call (.builtin "max") [a, b]) Q E s := by
  have k0 : ∀ c o, s.heap.get? c = some o → (s.heap.push { cls := .type "tuple", data := .seq #[a, b] }).get? c = some o := fun c o e => Heap.get?_push_of_some _ e
  have hl : ({ s with heap := s.heap.push { cls := .type "tuple", data := .seq #[a, b] } } : Shared).heap.IsTuple s.heap.objs.size #[a, b] := ⟨_, Heap.get?_push_size _ rfl, rfl, 0, rfl⟩
  have hr : ReadsAll (s.heap.push { cls := .type "tuple", data := .seq #[a, b] }) (#[a, b] : Array Value).toList [x, y] _ := ReadsAll.cons (Reads.keeps k0 ra) (ReadsAll.cons (Reads.keeps k0 rb) ReadsAll.nil)
  refine call_max_twoH (iter_tupleW (s := { s with heap := s.heap.push { cls := .type "tuple", data := .seq #[a, b] } }) (A := A.in1) hh hl fun s₂ e W st hfp hw hk => ?_)
  refine ⟨_, _, _, _, _, _, _, (s.heap.push { cls := .type "tuple", data := .seq #[a, b] }), _, rfl, W, st, hfp, by simp, hw, hk, PySem.W.cmpIn_gt (s := { s with heap := s.heap.push { cls := .type "tuple", data := .seq #[a, b] } }) (A := A.in1) hr ha (by show A.units + 1 + _ < _; exact hu), fun v s' hP m => ?_⟩
  obtain ⟨h', tk, rfl, hk'⟩ := moved_old e rfl m
  have hv : v = if dataLt x y = true then b else a := by
    have hP' : (#[a, b] : Array Value)[if dataLt x y = true then 1 else 0]? = some v := hP
    by_cases c : dataLt x y = true
    · rw [if_pos c] at hP' ⊢
      exact (Option.some.inj hP').symm
    · rw [if_neg c] at hP' ⊢
      exact (Option.some.inj hP').symm
  rw [hv]
  exact h h' tk fun c o e => hk' c o (k0 c o e)
end
def rMinD (K : PySem.W.Frag) : List V → Hp → VK → Prop := fun xs H Q => ∃ (u v : V) (d e : PyData), xs = [u, v] ∧ Dp K H u d ∧ Dp K H v e ∧ AlikeAll [d, e] ∧ PyData.depthAll [d, e] ≤ 60 ∧ Q (if dataLt e d = true then v else u) H
def rMaxD2 (K : PySem.W.Frag) : List V → Hp → VK → Prop := fun xs H Q => ∃ (u v : V) (d e : PyData), xs = [u, v] ∧ Dp K H u d ∧ Dp K H v e ∧ AlikeAll [d, e] ∧ PyData.depthAll [d, e] ≤ 60 ∧ Q (if dataLt d e = true then v else u) H
section
variable {X : Cx}
theorem call_minD (hc : X.calm = true) (hu : X.A.units + 65 < cLine) : CallR X (.builtin "min") (rMinD X.K) := by
  intro pins s σ H xs us Q I r h
  obtain ⟨u, v, d, e, rfl, hd, he, ha, hz, q⟩ := h
  obtain ⟨u', v', rfl, ru, rv⟩ := vals2 r
  obtain ⟨as, r1⟩ := Dp.reads I d u u' hd ru
  obtain ⟨bs, r2⟩ := Dp.reads I e v v' he rv
  refine min_two_data (I.ok.hd hc) r1 r2 ha (by omega) fun h' tk k => ⟨_, H, I.kept k, ?_, q⟩
  split
  · exact rv
  · exact ru
theorem call_maxD (hc : X.calm = true) (hu : X.A.units + 65 < cLine) : CallR X (.builtin "max") (rMaxD2 X.K) := by
  intro pins s σ H xs us Q I r h
  obtain ⟨u, v, d, e, rfl, hd, he, ha, hz, q⟩ := h
  obtain ⟨u', v', rfl, ru, rv⟩ := vals2 r
  obtain ⟨as, r1⟩ := Dp.reads I d u u' hd ru
  obtain ⟨bs, r2⟩ := Dp.reads I e v v' he rv
  refine max_two_data (I.ok.hd hc) r1 r2 ha (by omega) fun h' tk k => ⟨_, H, I.kept k, ?_, q⟩
  split
  · exact rv
  · exact ru
end
def kf (p : Addr) (x y : Tl.Sg) (z : V) : Int × Int := if z = V.ref p then ((x.1 : Int), (x.2 : Int)) else ((y.1 : Int), (y.2 : Int))
theorem kf_1 {p : Addr} {x y : Tl.Sg} : kf p x y (.ref p) = ((x.1 : Int), (x.2 : Int)) := if_pos rfl
theorem kf_2 {p q : Addr} {x y : Tl.Sg} (h : V.ref q ≠ V.ref p) : kf p x y (.ref q) = ((y.1 : Int), (y.2 : Int)) := if_neg h
theorem perm2 {α : Type} {l : List α} {a b : α} (h : l.Perm [a, b]) : l = [a, b] ∨ l = [b, a] := by
  have hl := h.length_eq
  match l, hl with
  | [c, d], _ =>
    have hc : c ∈ [a, b] := h.mem_iff.mp (List.mem_cons_self ..)
    rcases List.mem_cons.mp hc with rfl | hc
    · have z := (List.perm_cons c).mp h
      have e := List.perm_singleton.mp z
      rw [e]
      exact .inl rfl
    · have e1 := List.mem_singleton.mp hc
      subst e1
      have z := (List.perm_cons c).mp (h.trans (List.Perm.swap c a []))
      have e := List.perm_singleton.mp z
      rw [e]
      exact .inr rfl
theorem sg_alike (x y : Tl.Sg) : AlikeAll [sgD x, sgD y] := by
  refine ⟨fun a ha b hb => ?_, fun a ha => ?_⟩
  · rcases List.mem_cons.mp ha with rfl | ha <;> rcases List.mem_cons.mp hb with rfl | hb
    · rfl
    · rw [List.mem_singleton.mp hb]; rfl
    · rw [List.mem_singleton.mp ha]; rfl
    · rw [List.mem_singleton.mp ha, List.mem_singleton.mp hb]; rfl
  · rcases List.mem_cons.mp ha with rfl | ha
    · exact fun z => nomatch z
    · rw [List.mem_singleton.mp ha]; exact fun z => nomatch z
theorem sg_lt (x y : Tl.Sg) : dataLt (sgD x) (sgD y) = decide (x.1 < y.1 ∨ (x.1 = y.1 ∧ x.2 < y.2)) := by
  rw [show dataLt (sgD x) (sgD y) = _ from dataLt_ii _ _ _ _, Bool.eq_iff_iff, decide_eq_true_iff, decide_eq_true_iff]
  omega
theorem sg_depth (x y : Tl.Sg) : PyData.depthAll [sgD x, sgD y] ≤ 60 := by simp [sgD, PyData.depth, PyData.depthAll]
section
variable {K : PySem.W.Frag} {H : Hp} {Q : VK} {u v : V} {x y : Tl.Sg}
theorem r_par {i j : Nat} {ta : TA} {σ : L2.St} {H : Hp} {D : Ends} (h : ta σ H fun vs H1 => ∃ v w, vs = [v, w] ∧ D.nx ((σ.set i (some v)).set j (some w)) H1) : tPar i j ta D σ H := h
/-- min of two signs of one chunk -/
theorem r_minSg (h : x.1 = y.1) (su : SgV H u x) (sv : SgV H v y) (q : Q (if y.2 < x.2 then v else u) H) : rMinD K [u, v] H Q := by
  refine ⟨u, v, _, _, rfl, su.dp, sv.dp, sg_alike x y, sg_depth x y, ?_⟩
  have e : (if dataLt (sgD y) (sgD x) = true then v else u) = if y.2 < x.2 then v else u := by
    by_cases c : y.2 < x.2
    · rw [if_pos c, if_pos (by rw [sg_lt, decide_eq_true_iff]; exact .inr ⟨h.symm, c⟩)]
    · rw [if_neg c, if_neg (by rw [sg_lt, decide_eq_true_iff]; omega)]
  rw [e]
  exact q
theorem r_maxSg (h : x.1 = y.1) (su : SgV H u x) (sv : SgV H v y) (q : Q (if x.2 < y.2 then v else u) H) : rMaxD2 K [u, v] H Q := by
  refine ⟨u, v, _, _, rfl, su.dp, sv.dp, sg_alike x y, sg_depth x y, ?_⟩
  have e : (if dataLt (sgD x) (sgD y) = true then v else u) = if x.2 < y.2 then v else u := by
    by_cases c : x.2 < y.2
    · rw [if_pos c, if_pos (by rw [sg_lt, decide_eq_true_iff]; exact .inr ⟨h, c⟩)]
    · rw [if_neg c, if_neg (by rw [sg_lt, decide_eq_true_iff]; omega)]
  rw [e]
  exact q
/-- sorted([one, other]), the chunks differ -/
theorem r_sortSg {p : Addr} (h : x.1 ≠ y.1) (hp : SqL K H p [u, v]) (su : SgV H u x) (sv : SgV H v y) (q : ∀ l, H l = none → Q (.ref l) (upd H l (.lst (if x.1 < y.1 then [u, v] else [v, u])))) : rSortedPO K [.ref p] H Q := by
  obtain ⟨p1, rfl, h1⟩ := su
  obtain ⟨p2, rfl, h2⟩ := sv
  have ne : V.ref p2 ≠ V.ref p1 := fun z => by
    rw [V.ref.inj z, h1] at h2
    injection h2 with h2
    injection h2 with h2
    injection h2 with h3
    have := V.int.inj h3
    omega
  refine ⟨p, _, kf p1 x y, rfl, hp, fun z hz => ?_, fun ys l hs hb hl => ?_⟩
  · rcases List.mem_cons.mp hz with rfl | hz
    · exact ⟨p1, rfl, by rw [kf_1]; exact h1⟩
    · rw [List.mem_singleton.mp hz]
      exact ⟨p2, rfl, by rw [kf_2 ne]; exact h2⟩
  · rcases perm2 hb.perm with rfl | rfl
    · have z := (List.pairwise_cons.mp hs).1 _ (List.mem_singleton.mpr rfl)
      have z' : SrtO.lexB (kf p1 x y (.ref p2)) (kf p1 x y (.ref p1)) = false := z
      rw [kf_1, kf_2 ne] at z'
      have z2 := SrtO.lexB_no.mp z'
      have c : x.1 < y.1 := by
        have : ¬ ((y.1 : Int) < x.1) := fun k => by
          have := (SrtO.lexB_iff (p := ((y.1 : Int), (y.2 : Int))) (q := ((x.1 : Int), (x.2 : Int)))).mpr (.inl k)
          rw [this] at z'
          cases z'
        omega
      have k := q l hl
      rw [if_pos c] at k
      exact k
    · have z := (List.pairwise_cons.mp hs).1 _ (List.mem_singleton.mpr rfl)
      have z' : SrtO.lexB (kf p1 x y (.ref p1)) (kf p1 x y (.ref p2)) = false := z
      rw [kf_1, kf_2 ne] at z'
      have c : ¬ x.1 < y.1 := fun k => by
        have := (SrtO.lexB_iff (p := ((x.1 : Int), (x.2 : Int))) (q := ((y.1 : Int), (y.2 : Int)))).mpr (.inl (by show (x.1 : Int) < y.1; omega))
        rw [this] at z'
        cases z'
      have k := q l hl
      rw [if_neg c] at k
      exact k
end
end Dk

/-! zip of two things, each a list, a tuple or a text -/
namespace Zp
open PySem PySem.Spec PyProof.Rows L2 Dk
inductive Kd where
  | l (a : Addr)
  | t (a : Addr)
  | s (z : Str)
abbrev sgs (z : Str) : List V := (cs z).map fun c => V.str ⟨#[c]⟩
def Kd.v : Kd → V
  | .l a => .ref a
  | .t a => .ref a
  | .s z => .str z
def Kd.has (K : PySem.W.Frag) : Kd → Hp → List V → Prop
  | .l a, H, xs => SqL K H a xs
  | .t a, H, xs => SqT K H a xs
  | .s z, _, xs => xs = sgs z
def Kd.st (tk : Tok) : Kd → Addr → Nat → Heap → Prop
  | .l a, it, i, h => h.IsListIter it a i
  | .t a, it, i, h => h.IsTupleIter it a i
  | .s z, it, i, h => h.IsStrIter it (strIterType z) z tk i
def Kd.ap : Kd → Addr → Prop
  | .l a, q => a ≠ q
  | .t a, q => a ≠ q
  | .s _, _ => True
section
variable {tk : Tok} {k : Kd} {it : Addr} {i : Nat} {h h' : Heap}
theorem Kd.st_obj (st : k.st tk it i h) : ∃ o, h.get? it = some o ∧ ∀ v, o.data ≠ .cell v := by
  cases k with
  | l a => obtain ⟨o, e, _, d⟩ := st; exact ⟨o, e, fun v q => by rw [d] at q; cases q⟩
  | t a => obtain ⟨o, e, _, d⟩ := st; exact ⟨o, e, fun v q => by rw [d] at q; cases q⟩
  | s z => obtain ⟨o, e, _, d⟩ := st; exact ⟨o, e, fun v q => by rw [d] at q; cases q⟩
theorem Kd.st_keep (st : k.st tk it i h) (q : ∀ o, h.get? it = some o → h'.get? it = some o) : k.st tk it i h' := by
  cases k with
  | l a => exact Heap.IsListIter.at st q
  | t a => exact Heap.IsTupleIter.at st q
  | s z => obtain ⟨o, ho, r⟩ := st; exact ⟨o, q o ho, r⟩
end
theorem vals_at {xs : List V} {its : List Value} (rv : Vals xs its) {j : Nat} {v : Value} (h : its[j]? = some v) : ∃ x, xs[j]? = some x ∧ RelV x v := by
  have hl := rv.length
  have hj := (List.getElem?_eq_some_iff.mp h).1
  obtain ⟨x, hx⟩ : ∃ x, xs[j]? = some x := ⟨_, List.getElem?_eq_getElem (by omega)⟩
  obtain ⟨u, hu, ru⟩ := rv.get hx
  rw [h] at hu
  cases hu
  exact ⟨x, hx, ru⟩
section
variable {X : Cx} {pins : List (Addr × Obj)} {σ : L2.St} {H : Hp} {s : Shared}
theorem Kd.draws (I : Inv X pins σ H s) (hh : X.A.in1.handled = none) {k : Kd} {xs : List V} (hq : k.has X.K H xs) {it : Addr} (hne : k.ap it) {tk : Tok} {i : Nat} (st : k.st tk it i s.heap) :
    ∃ (fp : List Addr) (P : Nat → Value → Prop) (St : Nat → Heap → Prop), Draws X.prog X.w X.A.in1 it fp xs.length P St ∧ St i s.heap ∧ (∀ j v, P j v → ∃ x, xs[j]? = some x ∧ RelV x v) ∧ (∀ j h, St j h → k.st tk it j h) ∧ it ∈ fp ∧ ∀ q ∈ fp, q = it ∨ ¬ k.ap q := by
  cases k with
  | l a =>
    obtain ⟨its, rv, p, _⟩ := I.list hq
    have e : its.toArray.size = xs.length := by rw [List.size_toArray]; exact rv.length.symm
    have D := Draws.list (prog := X.prog) (w := X.w) hh it a hne its.toArray
    rw [e] at D
    refine ⟨_, _, _, D, ⟨st, p.isList⟩, fun j v hv => vals_at rv (by simpa using hv), fun j h z => z.1, by simp, fun q hq => ?_⟩
    rcases List.mem_cons.mp hq with z | z
    · exact .inl z
    · exact .inr fun c => c (List.mem_singleton.mp z).symm
  | t a =>
    obtain ⟨its, rv, p, _⟩ := I.tuple hq
    have e : its.toArray.size = xs.length := by rw [List.size_toArray]; exact rv.length.symm
    have D := Draws.tuple (prog := X.prog) (w := X.w) hh it a hne its.toArray
    rw [e] at D
    refine ⟨_, _, _, D, ⟨st, p⟩, fun j v hv => vals_at rv (by simpa using hv), fun j h z => z.1, by simp, fun q hq => ?_⟩
    rcases List.mem_cons.mp hq with z | z
    · exact .inl z
    · exact .inr fun c => c (List.mem_singleton.mp z).symm
  | s z =>
    obtain rfl : xs = sgs z := hq
    have e : z.cps.size = (sgs z).length := by simp [sgs, cs]
    have D := Draws.text (prog := X.prog) (w := X.w) hh it z tk
    rw [e] at D
    refine ⟨_, _, _, D, st, fun j v hv => ?_, fun j h q => q, by simp, fun q hq => .inl (List.mem_singleton.mp hq)⟩
    obtain ⟨c, u, hc, rfl⟩ := hv
    refine ⟨.str ⟨#[c]⟩, ?_, u, rfl⟩
    show ((cs z).map _)[j]? = _
    rw [List.getElem?_map, show (cs z)[j]? = some c by rw [Array.getElem?_toList]; exact hc]
    rfl
theorem Kd.inj (I : Inv X pins σ H s) {k : Kd} {xs ys : List V} (h1 : k.has X.K H xs) (h2 : k.has X.K H ys) : xs = ys := by
  cases k with
  | l a => exact I.list_inj h1 h2
  | t a => exact I.tuple_inj h1 h2
  | s z => exact Eq.trans h1 (Eq.symm h2)
end
structure Ap (z TI TO i1 i2 : Addr) (k1 k2 : Kd) : Prop where
  TIz : TI ≠ z
  TOz : TO ≠ z
  i1z : i1 ≠ z
  i2z : i2 ≠ z
  TITO : TI ≠ TO
  TIi1 : TI ≠ i1
  TIi2 : TI ≠ i2
  TOi1 : TO ≠ i1
  TOi2 : TO ≠ i2
  i12 : i1 ≠ i2
  a1 : k1.ap z ∧ k1.ap TO ∧ k1.ap i1 ∧ k1.ap i2
  a2 : k2.ap z ∧ k2.ap TO ∧ k2.ap i1 ∧ k2.ap i2
theorem Ap.sep {z TI TO i1 i2 : Addr} {k1 k2 : Kd} (D : Ap z TI TO i1 i2 k1 k2) {fp1 fp2 : List Addr} (m1 : i1 ∈ fp1) (f1 : ∀ q ∈ fp1, q = i1 ∨ ¬ k1.ap q) (m2 : i2 ∈ fp2) (f2 : ∀ q ∈ fp2, q = i2 ∨ ¬ k2.ap q) : ZipSep2 z TI TO i1 i2 fp1 fp2 where
  TIz := D.TIz
  TOz := D.TOz
  TITO := D.TITO
  TIi1 := D.TIi1
  mem1 := m1
  zf1 := fun h => (f1 z h).elim (fun e => D.i1z e.symm) fun n => n D.a1.1
  Tf1 := fun h => (f1 TO h).elim D.TOi1 fun n => n D.a1.2.1
  TIi2 := D.TIi2
  mem2 := m2
  zf2 := fun h => (f2 z h).elim (fun e => D.i2z e.symm) fun n => n D.a2.1
  Tf2 := fun h => (f2 TO h).elim D.TOi2 fun n => n D.a2.2.1
  sep1_2 := fun h => (f2 i1 h).elim D.i12 fun n => n D.a2.2.2.1
  sep2_1 := fun h => (f1 i2 h).elim (fun e => D.i12 e.symm) fun n => n D.a1.2.2.2
def ItzK (K : PySem.W.Frag) (k1 k2 : Kd) : It :=
  ⟨fun i H => ∃ xs ys : List V, k1.has K H xs ∧ k2.has K H ys ∧ i < xs.length ∧ i < ys.length,
    fun i H v H' => ∃ T x y, v = .ref T ∧ H T = none ∧ H' = upd H T (.tup [x, y]) ∧ (∀ xs, k1.has K H xs → xs[i]? = some x) ∧ ∀ ys, k2.has K H ys → ys[i]? = some y,
    fun i H => ∃ xs ys : List V, k1.has K H xs ∧ k2.has K H ys ∧ i ≤ xs.length ∧ i ≤ ys.length ∧ (i = xs.length ∨ i = ys.length)⟩
theorem turn_zipK {P : Program} {w : World} {K : PySem.W.Frag} {elts : List Expr} {kk : Nat} {tpos : Pos} {k1 k2 : Kd} {tk1 tk2 : Tok} {z TI TO i1 i2 : Addr} (D : Ap z TI TO i1 i2 k1 k2) :
    Turn P w K (.Tuple elts kk tpos) (ItzK K k1 k2) [z, TI, TO, i1, i2] z (fun i h => IsZip h z TI TO .none ∧ IsTupOf2 h TI (.ref i1) (.ref i2) ∧ (∃ x y, IsTupOf2 h TO x y) ∧ k1.st tk1 i1 i h ∧ k2.st tk2 i2 i h) where
  mem := by simp
  obj := fun i h st c hc => by
    obtain ⟨hz, hTI, ⟨x, y, hTO⟩, s1, s2⟩ := st
    have e' : c = z ∨ c = TI ∨ c = TO ∨ c = i1 ∨ c = i2 := by simpa using hc
    rcases e' with q | q | q | q | q
    · rw [q]; exact ⟨_, hz, fun v q => nomatch q⟩
    · rw [q]; exact ⟨_, hTI, fun v q => nomatch q⟩
    · rw [q]; exact ⟨_, hTO, fun v q => nomatch q⟩
    · rw [q]; exact Kd.st_obj s1
    · rw [q]; exact Kd.st_obj s2
  keep := fun i h h' st k => by
    obtain ⟨hz, hTI, ⟨x, y, hTO⟩, h1, h2⟩ := st
    exact ⟨k z (by simp) _ hz, k TI (by simp) _ hTI, ⟨x, y, k TO (by simp) _ hTO⟩, Kd.st_keep h1 fun o q => k i1 (by simp) o q, Kd.st_keep h2 fun o q => k i2 (by simp) o q⟩
  item := by
    intro X hP hw hK hc i pins s σ H E I hf st hg
    subst hP hw hK
    obtain ⟨hz, hTI, ⟨x0, y0, hTO⟩, h1, h2⟩ := st
    obtain ⟨xs, ys, hqx, hqy, hx, hy⟩ := hg
    have hh : X.A.in1.handled = none := I.ok.hd hc
    obtain ⟨fp1, P1, St1, D1, st1, g1, b1, m1, f1⟩ := Kd.draws I hh hqx D.a1.2.2.1 h1
    obtain ⟨fp2, P2, St2, D2, st2, g2, b2, m2, f2⟩ := Kd.draws I hh hqy D.a2.2.2.2 h2
    have S := D.sep m1 f1 m2 f2
    have hzl : z < s.heap.objs.size := Heap.lt_size hz
    refine wpAny_pyNext_zipD2_item S D1 D2 hz hTI hTO st1 st2 hx hy fun u u2 h' tk p1 p2 z' TO' s1' s2' hT hsz hk => ?_
    obtain ⟨x, hxx, ru⟩ := g1 _ _ p1
    obtain ⟨y, hyy, ru2⟩ := g2 _ _ p2
    refine ⟨_, rfl, wpAny_letOwnedTupleGo_zip (s := { s with heap := h', toks := tk }) z' fun h'' z'' sb => ?_⟩
    have hT2 : h''.get? s.heap.objs.size = some { cls := .type "tuple", data := .seq #[u, u2] } := (sb.2 _ (Nat.ne_of_gt hzl)).trans hT
    have new : ObjOk X.prog X.w (upd H s.heap.objs.size (.tup [x, y])) h'' s.heap.objs.size (.tup [x, y]) :=
      ⟨by show 2 ≤ sizeLine; decide, [u, u2], .cons ru (.cons ru2 .nil), ⟨_, hT2, rfl, _, rfl⟩⟩
    have I1 : Inv X pins σ (upd H s.heap.objs.size (.tup [x, y])) { s with heap := h'', toks := tk } :=
      I.turnedNew (t' := tk) (ch := [z, TI, TO, i1, i2]) (fun c o hb q => (sb.2 c (fun q' => hb (by simp [q']))).trans (hk c o (fun q' => hb (by simp [q'])) (fun q' => hb (by simp [q'])) (fun q' => hb (by simp [q'])) (fun q' => hb (by simp [q'])) q)) hf (Nat.le_refl _) new
    refine ⟨.ref s.heap.objs.size, _, I1, rfl, ⟨_, x, y, rfl, I.hok.fresh (Nat.le_refl _), rfl, fun l hl => by rw [Kd.inj I hl hqx]; exact hxx, fun l hl => by rw [Kd.inj I hl hqy]; exact hyy⟩, ⟨z'', ?_, ⟨u, u2, ?_⟩, ?_, ?_⟩, fun c hcm => ?_⟩
    · exact (sb.2 _ D.TIz).trans (hk _ _ D.TIz D.TITO D.TIi1 D.TIi2 hTI)
    · exact (sb.2 _ D.TOz).trans TO'
    · exact Kd.st_keep (b1 _ _ s1') fun o q => (sb.2 _ D.i1z).trans q
    · exact Kd.st_keep (b2 _ _ s2') fun o q => (sb.2 _ D.i2z).trans q
    · have hlt : c < s.heap.objs.size := by
        have e' : c = z ∨ c = TI ∨ c = TO ∨ c = i1 ∨ c = i2 := by simpa using hcm
        rcases e' with q | q | q | q | q
        · rw [q]; exact hzl
        · rw [q]; exact Heap.lt_size hTI
        · rw [q]; exact Heap.lt_size hTO
        · rw [q]; obtain ⟨_, e1, _⟩ := Kd.st_obj h1; exact Heap.lt_size e1
        · rw [q]; obtain ⟨_, e2, _⟩ := Kd.st_obj h2; exact Heap.lt_size e2
      rw [upd_ne (Nat.ne_of_lt hlt)]
      exact (hf c hcm).1
  done := by
    intro X hP hw hK hc i pins s σ H E I hf st hg
    subst hP hw hK
    obtain ⟨hz, hTI, ⟨x0, y0, hTO⟩, h1, h2⟩ := st
    obtain ⟨xs, ys, hqx, hqy, l1, l2, hend⟩ := hg
    have hh : X.A.in1.handled = none := I.ok.hd hc
    obtain ⟨fp1, P1, St1, D1, st1, g1, b1, m1, f1⟩ := Kd.draws I hh hqx D.a1.2.2.1 h1
    obtain ⟨fp2, P2, St2, D2, st2, g2, b2, m2, f2⟩ := Kd.draws I hh hqy D.a2.2.2.2 h2
    have S := D.sep m1 f1 m2 f2
    exact wpAny_pyNext_zipD2_end S D1 D2 hz hTI hTO st1 st2 l1 l2 hend fun h' tk hk => ⟨rfl, I.turnedL (t' := tk) (ch := [z, TI, TO, i1, i2]) (fun c o hb q =>
      hk c o (fun q' => hb (by simp [q'])) (fun q' => hb (by simp [q'])) (fun q' => hb (by simp [q'])) (fun q' => hb (by simp [q'])) q) hf⟩
  self := fun A i s Q E st h => wpAny_pyIter_zip st.1 h
/-- how it begins -/
theorem Kd.begins {X : Cx} {pins : List (Addr × Obj)} {σ : L2.St} {H : Hp} {s : Shared} (I : Inv X pins σ H s) {k : Kd} {xs : List V} (hq : k.has X.K H xs) {u : Value} (r : RelV k.v u) :
    ∃ (o : Obj) (HH : Heap → Prop) (tk : Tok), Begins u o HH ∧ HH s.heap ∧ (∀ it h', h'.get? it = some o → k.st tk it 0 h') ∧ ∀ q, s.heap.objs.size ≤ q → k.ap q := by
  cases k with
  | l a =>
    obtain rfl : u = Value.ref a := r
    obtain ⟨its, rv, p, _⟩ := I.list hq
    exact ⟨_, _, 0, begins_list a its.toArray, p.isList, fun it h' e => ⟨_, e, rfl, rfl⟩, fun q hq e => by rw [← e] at hq; exact absurd p.lt (Nat.not_lt.mpr hq)⟩
  | t a =>
    obtain rfl : u = Value.ref a := r
    obtain ⟨its, rv, p, _⟩ := I.tuple hq
    obtain ⟨o1, ho1, _⟩ := id p
    exact ⟨_, _, 0, begins_tuple a its.toArray, p, fun it h' e => ⟨_, e, rfl, rfl⟩, fun q hq e => by rw [← e] at hq; exact absurd (Heap.lt_size ho1) (Nat.not_lt.mpr hq)⟩
  | s z =>
    obtain ⟨t, rfl⟩ := r
    exact ⟨_, _, t, begins_text z t, trivial, fun it h' e => ⟨_, e, rfl, rfl⟩, fun _ _ => trivial⟩
theorem ne_nat {a b : Nat} (h : a ≠ b) : @Ne Addr a b := h
def iZipK (K : PySem.W.Frag) (ta : TA) : TI := fun σ H R => ta σ H fun vs H1 => ∃ k1 k2 : Kd, vs = [k1.v, k2.v] ∧ (∃ xs, k1.has K H1 xs) ∧ (∃ ys, k2.has K H1 ys) ∧ R (ItzK K k1 k2) H1
theorem pi_zipK {X : Cx} {e e2 : Expr} {ta : TA} {p pos tpos : Pos} {elts : List Expr} {kk : Nat} (hg : Gl X "zip") (hm : X.mg "zip" = none) (ha : PA X [e, e2] ta)
    (hs : starEach [e, e2] X.env = (false, eval e X.env) :: starEach [e2] X.env := by rfl) (hpl : (backTo pos (starEach [e2] X.env)).any (·.1) = false := by rfl) :
    PI X (.Tuple elts kk tpos) (.Call (.Name "zip" p) [e, e2] [] pos) (iZipK X.K ta) := by
  refine ⟨fun pins s σ H R I h => ?_⟩
  refine Call_ (ld_blt I hg hm PyProof.Rows.boot_zip (PyProof.Rows.callWith_type1 (thn (ha.run pos pins s σ H _ I h) fun us s1 ⟨vs, H1, I1, r1, q1⟩ => ?_) hs hpl))
  obtain ⟨k1, k2, ex, ⟨xs, hx⟩, ⟨ys, hy⟩, q⟩ := q1
  subst ex
  cases r1 with
  | cons r rr =>
    cases rr with
    | cons r' rr =>
      cases rr
      obtain ⟨o1, HH1, tk1, B1, g1, st1, ap1⟩ := Kd.begins I1 hx r
      obtain ⟨o2, HH2, tk2, B2, g2, st2, ap2⟩ := Kd.begins I1 hy r'
      refine zip_begins2 B1 B2 g1 g2 fun h' hz hTI hTO h1 h2 hsz hk => wpAny_pyIter_zip hz ?_
      have I2 : Inv X pins σ H1 { s1 with heap := h' } := I1.kept (t' := s1.toks) hk
      have fresh5 : ∀ c, c ∈ [s1.heap.objs.size + 4, s1.heap.objs.size + 2, s1.heap.objs.size + 3, s1.heap.objs.size, s1.heap.objs.size + 1] → FpOk X pins H1 c := fun c hcm => by
        have hle : s1.heap.objs.size ≤ c := by
          have e' : c = s1.heap.objs.size + 4 ∨ c = s1.heap.objs.size + 2 ∨ c = s1.heap.objs.size + 3 ∨ c = s1.heap.objs.size ∨ c = s1.heap.objs.size + 1 := by simpa using hcm
          omega
        exact I1.fpOk hle (I1.hok.fresh hle)
      have ap : Ap (s1.heap.objs.size + 4) (s1.heap.objs.size + 2) (s1.heap.objs.size + 3) s1.heap.objs.size (s1.heap.objs.size + 1) k1 k2 :=
        ⟨ne_nat (by omega), ne_nat (by omega), ne_nat (by omega), ne_nat (by omega), ne_nat (by omega), ne_nat (by omega), ne_nat (by omega), ne_nat (by omega), ne_nat (by omega), ne_nat (by omega), ⟨ap1 _ (by omega), ap1 _ (by omega), ap1 _ (by omega), ap1 _ (by omega)⟩, ⟨ap2 _ (by omega), ap2 _ (by omega), ap2 _ (by omega), ap2 _ (by omega)⟩⟩
      exact ⟨s1.heap.objs.size + 4, [s1.heap.objs.size + 4, s1.heap.objs.size + 2, s1.heap.objs.size + 3, s1.heap.objs.size, s1.heap.objs.size + 1], _, _, H1, rfl, I2, turn_zipK (tk1 := tk1) (tk2 := tk2) ap, ⟨hz, hTI, ⟨_, _, hTO⟩, st1 _ _ h1, st2 _ _ h2⟩, fresh5, q⟩
/-! as walks -/
theorem walk_zipK {K : PySem.W.Frag} {k1 k2 : Kd} {xs ys : List V} {n : Nat} (hn : n = min xs.length ys.length) :
    Walk (ItzK K k1 k2) n (fun H => k1.has K H xs ∧ k2.has K H ys) (fun i H v H' => ∃ T x y, v = .ref T ∧ H T = none ∧ H' = upd H T (.tup [x, y]) ∧ xs[i]? = some x ∧ ys[i]? = some y) :=
  ⟨fun i H hi g => ⟨xs, ys, g.1, g.2, by omega, by omega⟩, fun H g => ⟨xs, ys, g.1, g.2, by omega, by omega, by omega⟩, fun i H v H' hi g y => by
    obtain ⟨T, x, y, h1, h2, h3, h4, h5⟩ := y
    exact ⟨T, x, y, h1, h2, h3, h4 xs g.1, h5 ys g.2⟩⟩
end Zp

/-! rules of our own: text[::-1], min of a list of tuples of numbers -/
namespace Dk
open PySem PySem.Spec PyProof.Rows L2 PySem.SeqAt PySem.W
/-! text[::-1] -/
def revS (z : Str) : Str := ⟨(cs z).reverse.toArray⟩
theorem cs_rev (z : Str) : cs (revS z) = (cs z).reverse := List.toList_toArray
theorem rev_len (z : Str) : (revS z).length = z.length := by rw [← cs_len, cs_rev, List.length_reverse, cs_len]
theorem rev_made (z : Str) (t u : Tok) : sliceMade z t none none (some (-1, u)) = Made.str (revS z) := by
  have e : slicePicked z none none (some (-1, u)) = (List.range z.length).reverse := by
    show sliceRange ((z.length : Int) - 1) (-1) (-1) = _
    rw [krv_sliceRange, krv_range]
  unfold sliceMade
  rw [e]
  have e2 : ((Option.map (fun x => x.1) (some ((-1 : Int), u))).getD 1 == 1 && ((List.range z.length).reverse.length == z.length)) = false := by
    have : ((-1 : Int) == 1) = false := by decide
    show (((-1 : Int) == 1) && _) = false
    rw [this, Bool.false_and]
  rw [if_neg (by rw [e2]; exact Bool.false_ne_true)]
  congr 1
  unfold revS
  congr 1
  have e3 : ((List.range z.length).reverse.filterMap (z.cps[·]?)) = (cs z).reverse := by
    rw [List.filterMap_reverse]
    congr 1
    exact krv_all z.cps
  rw [e3]
def tRevS (te : TE) : TE := fun σ H Q => te σ H fun x H1 => ∃ z, x = .str z ∧ z.length ≤ sizeLine ∧ Q (.str (revS z)) H1
theorem pe_revS {X : Cx} {e st : Expr} {te ts : TE} {pos p2 : Pos} (he : PE X e te) (hst : PE X st ts) (hv : ∀ σ H (Q : VK), Q (.int (-1)) H → ts σ H Q) : PE X (.Subscript e (.Slice none none (some st) p2) pos) (tRevS te) := by
  refine ⟨fun pins s σ H Q I h => ?_⟩
  refine Subscript_ (thn (he.run pins s σ H _ I h) fun v s1 ⟨x, H1, I1, r1, q1⟩ => ?_)
  obtain ⟨z, rfl, hz, q⟩ := q1
  obtain ⟨t, rfl⟩ := r1
  refine wpAny_Slice ?_
  rw [evalPart_none]
  refine wpAny_pure ?_
  refine wpAny_pure ?_
  rw [evalPart_some]
  refine thn (hst.run pins s1 σ H1 _ I1 (hv σ H1 (fun y H2 => y = .int (-1) ∧ H2 = H1) ⟨rfl, rfl⟩)) fun u s2 ⟨y, H2, I2, ry, qy, eH⟩ => ?_
  subst qy eH
  obtain ⟨tk, rfl⟩ := ry
  have I3 : Inv X pins σ H2 { s2 with heap := s2.heap.push { cls := .type "slice", data := .fields #[.none, .none, .int (-1) tk] } } := I2.kept (t' := s2.toks) fun b ob q => Heap.get?_push_of_some _ q
  show wpAny (model X.prog X.w) X.A (subscriptTail e (.Slice none none (some st) p2) (.str z t) (.ref s2.heap.objs.size)) (EP X pins σ Q) X.xe { s2 with heap := s2.heap.push { cls := .type "slice", data := .fields #[.none, .none, .int (-1) tk] } }
  refine tail_any (ops := [.ref s2.heap.objs.size, .str z t]) (typeIs_str _ z t) F.slot_str_getitem.lookup ?_ (by with_unfolding_all rfl)
  refine wpAny_getItem_str_slice (l := none) (u := none) (st := some (-1, tk)) ⟨_, Heap.get?_push_size _ rfl, rfl, rfl⟩ rfl ?_
  rw [rev_made]
  exact ⟨by rw [rev_len]; exact hz, .str _, H2, I3.tok _, ⟨_, rfl⟩, q⟩
theorem r_revS {te : TE} {σ : L2.St} {H : Hp} {Q : VK} (h : te σ H fun x H1 => ∃ z, x = .str z ∧ z.length ≤ sizeLine ∧ Q (.str (revS z)) H1) : tRevS te σ H Q := h
theorem r_revZ {z : Str} {H : Hp} {Q : VK} (hz : z.length ≤ 8000) (q : Q (.str (revS z)) H) : ∃ y, V.str z = .str y ∧ y.length ≤ sizeLine ∧ Q (.str (revS y)) H := ⟨z, rfl, by rw [sizeLine_eq]; omega, q⟩
/-! zip -/
theorem r_forZo {K : PySem.W.Frag} {ta : TA} {g : TG} {tb : TS} {D : Ends} {σ : L2.St} {H : Hp} (h : ta σ H fun vs H1 => ∃ k1 k2 : Zp.Kd, vs = [k1.v, k2.v] ∧ (∃ xs, k1.has K H1 xs) ∧ (∃ ys, k2.has K H1 ys) ∧ LoopW (Zp.ItzK K k1 k2) g tb D σ H1) : tFor (Zp.iZipK K ta) g tb D σ H := h
theorem sgs_at {z : Str} {i : Nat} {x : V} (h : (Zp.sgs z)[i]? = some x) : ∃ c, (cs z)[i]? = some c ∧ x = .str ⟨#[c]⟩ := by
  rw [List.getElem?_map] at h
  obtain ⟨c, hc, rfl⟩ := Option.map_eq_some_iff.mp h
  exact ⟨c, hc, rfl⟩
/-- over zip(text, text) -/
theorem l_ZS {K : PySem.W.Frag} {x y : Str} {g : TG} {tb : TS} {D : Ends} {σ : L2.St} {H : Hp} (Pv : Nat → L2.St → Hp → Prop) (p0 : Pv 0 σ H)
    (ht : ∀ i c d σ H p, (cs x)[i]? = some c → (cs y)[i]? = some d → Pv i σ H → H p = none → g (.ref p) σ (upd H p (.tup [.str ⟨#[c]⟩, .str ⟨#[d]⟩])) fun σ2 H2 => tb { D with nx := Pv (i + 1), ct := Pv (i + 1), bk := D.nx } σ2 H2)
    (hd : ∀ σ H, Pv (min x.length y.length) σ H → D.nx σ H) :
    ∃ k1 k2 : Zp.Kd, [V.str x, V.str y] = [k1.v, k2.v] ∧ (∃ xs, k1.has K H xs) ∧ (∃ ys, k2.has K H ys) ∧ LoopW (Zp.ItzK K k1 k2) g tb D σ H := by
  refine ⟨.s x, .s y, rfl, ⟨_, rfl⟩, ⟨_, rfl⟩, for_it (Zp.walk_zipK (xs := Zp.sgs x) (ys := Zp.sgs y) rfl) Pv p0 (fun _ _ _ _ _ => ⟨rfl, rfl⟩) (fun i v σ H H' hi p yy => ?_) fun σ H p => hd σ H ?_⟩
  · obtain ⟨T, a, b, rfl, hT, rfl, ha, hb⟩ := yy
    obtain ⟨c, hc, rfl⟩ := sgs_at ha
    obtain ⟨d, hd', rfl⟩ := sgs_at hb
    exact ht i c d σ H T hc hd' p hT
  · rw [List.length_map, List.length_map, cs_len, cs_len] at p
    exact p
/-! min of a list of data -/
section
variable {prog : Program} {w : World} {A : Around} {E : Value → Shared → Prop} {s : Shared}
theorem min_list_at {l : Addr} {vs : Array Value} {xs : List PyData} {as : List Addr} {Q : Value → Shared → Prop} (hh : A.handled = none) (hl : s.heap.IsList l vs) (hr : ReadsAll s.heap vs.toList xs as) (h0 : 0 < xs.length) (ha : AlikeAll xs) (hu : A.units + 1 + PyData.depthAll xs < cLine)
    (h : ∀ v h' tk, vs[argBest (fun i j => dataLt (xs.getD i .none) (xs.getD j .none)) (xs.length - 1)]? = some v → (∀ b o, s.heap.get? b = some o → h'.get? b = some o) → Q v { s with heap := h', toks := tk }) :
    wpAny (model prog w) A (call (.builtin "min") [.ref l]) Q E s := by
  have hn : vs.size = xs.length := readsAll_len hr
  refine call_min_walkH (iter_listW (A := A.in1) hh hl fun s₂ e W st hfp hw hk => ?_)
  refine ⟨_, _, _, _, _, _, _, s.heap, _, rfl, W, st, hfp, by omega, hw, hk, cmpIn_lt (A := A.in1) hr ha (by show A.units + 1 + _ < _; exact hu), fun v s' hP m => ?_⟩
  obtain ⟨h', tk, rfl, hk'⟩ := moved_old e rfl m
  rw [hn] at hP
  exact h v h' tk hP hk'
end
theorem dpall_reads {X : Cx} {pins : List (Addr × Obj)} {σ : L2.St} {H : Hp} {s : Shared} (I : Inv X pins σ H s) : ∀ {xs : List V} {ds : List PyData} {its : List Value}, DpAll X.K H xs ds → Vals xs its → ∃ as, ReadsAll s.heap its ds as
  | _, _, _, .nil, .nil => ⟨_, .nil⟩
  | _, _, _, .cons h t, .cons r q => by
    obtain ⟨as, r1⟩ := Dp.reads I _ _ _ h r
    obtain ⟨bs, r2⟩ := dpall_reads I t q
    exact ⟨_, .cons r1 r2⟩
def rMinLs (K : PySem.W.Frag) : List V → Hp → VK → Prop := fun vs H Q => ∃ (p : Addr) (xs : List V) (ds : List PyData), vs = [.ref p] ∧ SqL K H p xs ∧ DpAll K H xs ds ∧ 0 < ds.length ∧ AlikeAll ds ∧ PyData.depthAll ds ≤ 60 ∧
  ∀ v, xs[argBest (fun i j => dataLt (ds.getD i .none) (ds.getD j .none)) (ds.length - 1)]? = some v → Q v H
theorem call_minLs {X : Cx} (hc : X.calm = true) (hu : X.A.units + 65 < cLine) : CallR X (.builtin "min") (rMinLs X.K) := by
  intro pins s σ H vs us Q I r h
  obtain ⟨p, xs, ds, rfl, hp, hd, h0, ha, hz, q⟩ := h
  rw [Vals.ref1 r]
  obtain ⟨its, rv, hl, _⟩ := I.list hp
  obtain ⟨as, hr⟩ : ∃ as, ReadsAll s.heap its ds as := dpall_reads I hd rv
  refine min_list_at (I.ok.hd hc) hl.isList (by simpa using hr) h0 ha (by omega) fun v h' tk hv k => ?_
  obtain ⟨x, hx, rx⟩ := Zp.vals_at rv (by simpa using hv)
  exact ⟨x, H, I.kept k, rx, q x hx⟩
/-- the best by a transitive relation: none is less -/
theorem best_least {bt : Nat → Nat → Bool} (tr : ∀ i j k, bt i j = true → bt j k = true → bt i k = true) (irr : ∀ i, bt i i = false) : ∀ n, argBest bt n ≤ n ∧ ∀ j, j ≤ n → bt j (argBest bt n) = false
  | 0 => ⟨Nat.le_refl _, fun j hj => by
    have e : j = 0 := by omega
    subst e
    exact irr 0⟩
  | n + 1 => by
    obtain ⟨h1, h2⟩ := best_least tr irr n
    show (if bt (n + 1) (argBest bt n) = true then n + 1 else argBest bt n) ≤ n + 1 ∧ ∀ j, j ≤ n + 1 → bt j (if bt (n + 1) (argBest bt n) = true then n + 1 else argBest bt n) = false
    by_cases c : bt (n + 1) (argBest bt n) = true
    · rw [if_pos c]
      refine ⟨Nat.le_refl _, fun j hj => ?_⟩
      by_cases e : j = n + 1
      · subst e
        exact irr _
      · cases d : bt j (n + 1) with
        | false => rfl
        | true =>
          have z := tr j (n + 1) _ d c
          rw [h2 j (by omega)] at z
          cases z
    · rw [if_neg c]
      refine ⟨by omega, fun j hj => ?_⟩
      by_cases e : j = n + 1
      · subst e
        simpa using c
      · exact h2 j (by omega)
theorem lt_ints (a b : Int) (xs ys : List PyData) : dataLt (.tuple (.int a :: xs)) (.tuple (.int b :: ys)) = if a = b then dataLt (.tuple xs) (.tuple ys) else decide (a < b) := by
  rw [dataLt_tuple]
  show PyProof.Rows.lexLt itemOrd ([.inl 1] ++ (keyToks (.int a) ++ keyToksAll xs)) ([.inl 1] ++ (keyToks (.int b) ++ keyToksAll ys)) = _
  rw [lex_pre]
  by_cases h : a = b
  · subst h
    rw [lex_pre, if_pos rfl, dataLt_tuple]
  · rw [if_neg h]
    show PyProof.Rows.lexLt itemOrd (.inl a :: keyToksAll xs) (.inl b :: keyToksAll ys) = _
    rw [lex_atom (by intro z; exact h (Sum.inl.inj z))]
    exact dataLt_int a b
/-! four numbers -/
abbrev Q4 := Int × Int × Int × Int
abbrev q4D (x : Q4) : PyData := .tuple [.int x.1, .int x.2.1, .int x.2.2.1, .int x.2.2.2]
def q4Lt (x y : Q4) : Prop := x.1 < y.1 ∨ (x.1 = y.1 ∧ (x.2.1 < y.2.1 ∨ (x.2.1 = y.2.1 ∧ (x.2.2.1 < y.2.2.1 ∨ (x.2.2.1 = y.2.2.1 ∧ x.2.2.2 < y.2.2.2)))))
theorem q4_lt (x y : Q4) : dataLt (q4D x) (q4D y) = true ↔ q4Lt x y := by
  unfold q4Lt
  show dataLt (.tuple (.int x.1 :: _)) (.tuple (.int y.1 :: _)) = true ↔ _
  rw [lt_ints]
  by_cases h1 : x.1 = y.1
  · rw [if_pos h1, lt_ints]
    by_cases h2 : x.2.1 = y.2.1
    · rw [if_pos h2, lt_ints]
      by_cases h3 : x.2.2.1 = y.2.2.1
      · rw [if_pos h3, lt_ints]
        by_cases h4 : x.2.2.2 = y.2.2.2
        · rw [if_pos h4]
          have e : dataLt (.tuple []) (.tuple []) = false := by decide +kernel
          rw [e]
          constructor
          · intro z
            cases z
          · intro z
            omega
        · rw [if_neg h4, decide_eq_true_iff]
          omega
      · rw [if_neg h3, decide_eq_true_iff]
        omega
    · rw [if_neg h2, decide_eq_true_iff]
      omega
  · rw [if_neg h1, decide_eq_true_iff]
    omega
def Q4V (H : Hp) (v : V) (x : Q4) : Prop := ∃ p, v = .ref p ∧ H p = some (.tup [.int x.1, .int x.2.1, .int x.2.2.1, .int x.2.2.2])
instance : Imm Q4V := ⟨fun t h => h.imp fun p z => ⟨z.1, t _ _ z.2⟩⟩
theorem Q4V.dp {K : PySem.W.Frag} {H : Hp} {v : V} {x : Q4} (h : Q4V H v x) : Dp K H v (q4D x) := by
  obtain ⟨p, rfl, hp⟩ := h
  exact .tup (sqT hp) (.cons (.int _) (.cons (.int _) (.cons (.int _) (.cons (.int _) .nil))))
theorem q4_dps {K : PySem.W.Frag} {H : Hp} {xs : List V} {l : List Q4} (h : P2 (Q4V H) xs l) : DpAll K H xs (l.map q4D) := by
  induction h with
  | nil => exact .nil
  | cons h t ih => exact .cons (Q4V.dp h) ih
/-- min(l), l a list of tuples of four numbers -/
theorem r_minQ4 {K : PySem.W.Frag} {H : Hp} {Q : VK} {p : Addr} {xs : List V} {l : List Q4} (hp : H p = some (.lst xs)) (h : P2 (Q4V H) xs l) (h0 : 0 < l.length) (q : ∀ v x, Q4V H v x → x ∈ l → (∀ y ∈ l, ¬ q4Lt y x) → Q v H) : rMinLs K [.ref p] H Q := by
  have dep : PyData.depthAll (l.map q4D) ≤ 60 := by
    clear h0 q h
    induction l with
    | nil => decide
    | cons x r ih =>
      show max (q4D x).depth (PyData.depthAll (r.map q4D)) ≤ 60
      have e : (q4D x).depth ≤ 2 := by simp [q4D, PyData.depth, PyData.depthAll]
      omega
  refine ⟨p, xs, l.map q4D, rfl, sqL hp, q4_dps h, by rw [List.length_map]; exact h0, ⟨fun a ha b hb => ?_, fun a ha z => ?_⟩, dep, fun v hv => ?_⟩
  · obtain ⟨x, _, rfl⟩ := List.mem_map.mp ha
    obtain ⟨y, _, rfl⟩ := List.mem_map.mp hb
    rfl
  · obtain ⟨x, _, rfl⟩ := List.mem_map.mp ha
    cases z
  · rw [List.length_map] at hv
    obtain ⟨x, hx, sx⟩ := h.get hv
    have gd : ∀ {i : Nat} {y : Q4}, l[i]? = some y → (l.map q4D).getD i .none = q4D y := fun {i y} e => by
      rw [List.getD_eq_getElem?_getD, List.getElem?_map, e]; rfl
    have at_ : ∀ i, i < l.length → ∃ y, l[i]? = some y := fun i hi => ⟨_, List.getElem?_eq_getElem hi⟩
    have lt0 : ∀ i, l.length ≤ i → (l.map q4D).getD i .none = PyData.none := fun i hi => by
      rw [List.getD_eq_getElem?_getD, List.getElem?_eq_none (by rw [List.length_map]; exact hi)]; rfl
    refine q v x sx (List.mem_of_getElem? hx) fun y hy hlt => ?_
    obtain ⟨j, hj⟩ := List.getElem?_of_mem hy
    have hjl := (List.getElem?_eq_some_iff.mp hj).1
    -- the best is least: by walking along
    have key : ∀ n, n < l.length → ∃ b, l[argBest (fun i j => dataLt ((l.map q4D).getD i .none) ((l.map q4D).getD j .none)) n]? = some b ∧ ∀ j y, j ≤ n → l[j]? = some y → ¬ q4Lt y b := by
      intro n
      induction n with
      | zero =>
        intro hn
        obtain ⟨b, hb⟩ := at_ 0 hn
        refine ⟨b, hb, fun j y hj hy => ?_⟩
        have e : j = 0 := by omega
        subst e
        rw [hb] at hy
        rw [Option.some.inj hy]
        unfold q4Lt
        omega
      | succ n ih =>
        intro hn
        obtain ⟨b, hb, hmin⟩ := ih (by omega)
        obtain ⟨c, hc⟩ := at_ (n + 1) hn
        show ∃ b, l[if dataLt ((l.map q4D).getD (n + 1) .none) ((l.map q4D).getD (argBest _ n) .none) = true then n + 1 else argBest _ n]? = some b ∧ _
        rw [gd hc, gd hb]
        by_cases e : dataLt (q4D c) (q4D b) = true
        · rw [if_pos e]
          have e' := (q4_lt c b).mp e
          refine ⟨c, hc, fun j y hj hy h => ?_⟩
          by_cases ej : j = n + 1
          · subst ej
            rw [hc] at hy
            cases hy
            unfold q4Lt at h
            omega
          · refine hmin j y (by omega) hy ?_
            unfold q4Lt at h e' ⊢
            omega
        · rw [if_neg e]
          refine ⟨b, hb, fun j y hj hy h => ?_⟩
          by_cases ej : j = n + 1
          · subst ej
            rw [hc] at hy
            cases hy
            exact e ((q4_lt _ _).mpr h)
          · exact hmin j y (by omega) hy h
    obtain ⟨b, hb, hmin⟩ := key (l.length - 1) (by omega)
    rw [hx] at hb
    cases hb
    exact hmin j y (by omega) hj hlt
end Dk

/-! more rules: keywords of two, all of a list, list(zip), zips in comprehensions, tuple[::-1] -/
namespace Dk
open PySem PySem.Spec PyProof.Rows L2 PySem.SeqAt PySem.W
def q10 {α : Type} : List α → List α → List α
  | [], [a, b] => [b, a]
  | _, _ => []
theorem q10_rel {vs zs : List V} {us ws : List Value} (r : Vals vs us) (q : Vals zs ws) : Vals (q10 vs zs) (q10 us ws) := by
  cases r with
  | cons => exact .nil
  | nil => rcases q with _ | ⟨a, _ | ⟨b, _ | _⟩⟩
           · exact .nil
           · exact .nil
           · exact .cons b (.cons a .nil)
           · exact .nil
end Dk

namespace Tl
/-! ### hops -/
inductive Hps (L R : Nat → Sg) : Sg → Sg → List (Sg × Sg) → Prop where
  | stop {x y : Sg} (h : x.1 = y.1) : Hps L R x y [(x, y)]
  | rgo {x y : Sg} {hs : List (Sg × Sg)} (h : y.1 < x.1) (t : Hps L R (R x.1) y hs) : Hps L R x y ((x, y) :: hs)
  | lgo {x y : Sg} {hs : List (Sg × Sg)} (h : x.1 < y.1) (t : Hps L R x (L y.1) hs) : Hps L R x y ((x, y) :: hs)
section
variable {L R : Nat → Sg} {x y : Sg} {hs hs' : List (Sg × Sg)}
theorem Hps.det (h : Hps L R x y hs) : ∀ {hs'}, Hps L R x y hs' → hs = hs' := by
  induction h with
  | stop h => intro hs' g; cases g with
    | stop _ => rfl
    | rgo k _ => omega
    | lgo k _ => omega
  | rgo h t ih => intro hs' g; cases g with
    | stop k => omega
    | rgo _ t' => rw [ih t']
    | lgo k _ => omega
  | lgo h t ih => intro hs' g; cases g with
    | stop k => omega
    | rgo k _ => omega
    | lgo _ t' => rw [ih t']
theorem E.iff_le {x y : Sg} (h : x.1 = y.1) : E L R x y ↔ x.2 ≤ y.2 := by
  unfold E
  rw [A.same_iff h]
  constructor
  · rintro (rfl | h) <;> omega
  · intro h2
    by_cases e : x.2 = y.2
    · exact .inl (Prod.ext h e)
    · exact .inr (by omega)
theorem E.iff_A {x y : Sg} (h : x.1 ≠ y.1) : E L R x y ↔ A L R x y := ⟨fun e => e.elim (fun z => absurd (congrArg Prod.fst z) h) id, .inr⟩
theorem Hps.last (h : Hps L R x y hs) : ∃ l r pre, hs = pre ++ [(l, r)] ∧ (E L R x y ↔ l.2 ≤ r.2) ∧ (A L R x y ↔ l.2 < r.2 ∨ (l.2 = r.2 ∧ 1 < hs.length)) := by
  induction h with
  | @stop x y h =>
    refine ⟨x, y, [], rfl, E.iff_le h, ?_⟩
    rw [A.same_iff h]
    simp
  | @rgo x y hs h t ih =>
    obtain ⟨l, r, pre, rfl, h1, h2⟩ := ih
    have e : E L R x y ↔ l.2 ≤ r.2 := by rw [E.iff_A (by omega), A.r_iff h]; exact h1
    refine ⟨l, r, (x, y) :: pre, rfl, e, ?_⟩
    rw [A.r_iff h, h1]
    simp
    omega
  | @lgo x y hs h t ih =>
    obtain ⟨l, r, pre, rfl, h1, h2⟩ := ih
    have e : E L R x y ↔ l.2 ≤ r.2 := by rw [E.iff_A (by omega), A.l_iff h]; exact h1
    refine ⟨l, r, (x, y) :: pre, rfl, e, ?_⟩
    rw [A.l_iff h, h1]
    simp
    omega
end
end Tl

namespace K26
open PySem PySem.Spec PyProof.Rows L2 Dk Tl
/-- one step of a reading -/
local macro_rules | `(tactic| walk_at "rd1") => `(tactic| first
  | ((with_reducible refine r_var (v := ?rv) ?rh ?_); (case rh => rfl))
  | with_reducible refine r_c ?_
  | with_reducible refine r_seq ?_
  | with_reducible refine r_asg ?_
  | with_reducible refine r_par ?_
  | with_reducible refine r_gname ?_
  | with_reducible refine r_op ?_
  | with_reducible refine r_forLo ?_
  | with_reducible refine r_forTo ?_
  | with_reducible refine r_forSo ?_
  | with_reducible refine r_forRo ?_
  | with_reducible refine r_lcRo ?_
  | with_reducible refine r_lcLo ?_
  | with_reducible refine r_yes ?_
  | with_reducible refine r_callK0 ?_
  | with_reducible refine r_break ?_
  | with_reducible refine r_forR2o ?_
  | with_reducible refine r_forEo ?_
  | with_reducible refine r_forESo ?_
  | with_reducible refine r_xfo ?_
  | with_reducible refine r_noP ?_
  | with_reducible refine r_part ?_
  | with_reducible refine r_pI ?_
  | with_reducible refine r_gcons ?_
  | with_reducible refine r_gnil ?_
  | with_reducible refine r_mkO ?_
  | with_reducible refine r_un ?_
  | with_reducible refine r_addI ?_
  | with_reducible refine r_I0 ?_
  | with_reducible refine r_U ?_
  | with_reducible refine r_cons ?_
  | with_reducible refine r_nil ?_
  | with_reducible refine r_CB ?_
  | with_reducible refine r_call ?_
  | with_reducible refine r_callS ?_
  | with_reducible refine r_int ?_
  | with_reducible refine r_max ?_
  | with_reducible refine r_min ?_
  | with_reducible refine r_test ?_
  | with_reducible refine r_B ?_
  | with_reducible refine r_blv ?_
  | with_reducible refine r_and ?_
  | with_reducible refine r_or ?_
  | with_reducible refine r_not ?_
  | with_reducible refine r_andV ?_
  | with_reducible refine r_orV ?_
  | with_reducible refine r_notV ?_
  | with_reducible refine r_ifE ?_
  | with_reducible refine r_ifS ?_
  | with_reducible refine r_ret ?_
  | with_reducible refine r_retN ?_
  | with_reducible refine r_drop ?_
  | with_reducible refine r_next ?_
  | with_reducible refine r_sl ?_
  | with_reducible refine r_gsub ?_
  | with_reducible refine r_bm ?_
  | with_reducible refine r_tup ?_
  | with_reducible refine r_lst ?_
  | with_reducible refine r_isN ?_
  | with_reducible refine r_notN ?_
  | with_reducible refine r_itt ?_
  | with_reducible refine r_iff ?_
  | with_reducible refine r_ittN ?_
  | with_reducible refine r_iffN ?_
  | ((with_reducible refine r_ittD ?rh ?_); (case rh => rfl))
  | ((with_reducible refine r_iffD ?rh ?_); (case rh => rfl))
  | ((with_reducible refine r_modP ?rh ?_); (case rh => decide))
  | ((with_reducible refine r_eq ?rh ?_); (case rh => rfl))
  | ((with_reducible refine r_eqP ?rh ?_); (case rh => rfl))
  | ((with_reducible refine r_ne ?rh ?_); (case rh => rfl)))
local macro_rules | `(tactic| walk_at "rd") => `(tactic| repeat walk_at "rd1")
local macro_rules | `(tactic| walk_at "isi") => `(tactic| first | refine r_isi (b := true) (by assumption) (by decide +kernel) ?_ | refine r_isi (b := false) (by assumption) (by decide +kernel) ?_)
local macro_rules | `(tactic| walk_at "rs1") => `(tactic| first
  | with_reducible refine r_seq ?_
  | with_reducible refine r_asg ?_
  | with_reducible refine r_gname ?_
  | with_reducible refine r_ret ?_)
local macro_rules | `(tactic| walk_at "rs") => `(tactic| repeat walk_at "rs1")

def topS (i : Nat) : Stmt := PySem.Challenge.pw_deedstand_k26_whole_chain_papers.main.body.getD i (.Pass ⟨0, 0, 0, 0⟩)
abbrev s_hops_of : Stmt := topS 1
abbrev N_hops_of : List Str := ["births", "one", "other", "hops"]
theorem sc_hops_of : FnScope ["births", "one", "other", "hops"] ["births", "one", "other"] (defScope s_hops_of) := ⟨rfl, rfl, rfl, by decide +kernel, rfl, by decide +kernel, by decide +kernel⟩
abbrev s_chain_paper : Stmt := topS 3
abbrev N_chain_paper : List Str := ["births", "row", "one", "other"]
theorem sc_chain_paper : FnScope ["births", "row", "one", "other"] ["births", "row"] (defScope s_chain_paper) := ⟨rfl, rfl, rfl, by decide +kernel, rfl, by decide +kernel, by decide +kernel⟩
abbrev s_is_hop : Stmt := topS 4
abbrev N_is_hop : List Str := ["births", "before", "after", "one", "other"]
theorem sc_is_hop : FnScope ["births", "before", "after", "one", "other"] ["births", "before", "after"] (defScope s_is_hop) := ⟨rfl, rfl, rfl, by decide +kernel, rfl, by decide +kernel, by decide +kernel⟩
abbrev s_entry_fits : Stmt := topS 5
abbrev N_entry_fits : List Str := ["births", "pair", "entry", "before", "after", "one", "other"]
theorem sc_entry_fits : FnScope ["births", "pair", "entry", "before", "after", "one", "other"] ["births", "pair", "entry"] (defScope s_entry_fits) := ⟨rfl, rfl, rfl, by decide +kernel, rfl, by decide +kernel, by decide +kernel⟩
abbrev s_chain_fits : Stmt := topS 6
abbrev N_chain_fits : List Str := ["births", "row", "paper", "pairs", "pair", "entry"]
theorem sc_chain_fits : FnScope ["births", "row", "paper", "pairs", "pair", "entry"] ["births", "row", "paper"] (defScope s_chain_fits) := ⟨rfl, rfl, rfl, by decide +kernel, rfl, by decide +kernel, by decide +kernel⟩
abbrev s_law_draws : Stmt := topS 8
abbrev N_law_draws : List Str := ["_law_script", "_law_state", "_law_heaps", "_law_cell", "_law_size"]
theorem sc_law_draws : FnScope ["_law_script", "_law_state", "_law_heaps", "_law_cell", "_law_size"] ["_law_script"] (defScope s_law_draws) := ⟨rfl, rfl, rfl, by decide +kernel, rfl, by decide +kernel, by decide +kernel⟩
abbrev s_law_pick : Stmt := topS 9
abbrev N_law_pick : List Str := ["_law_box", "_law_many", "_law_heaps", "_law_cell", "_law_mixed"]
theorem sc_law_pick : FnScope ["_law_box", "_law_many", "_law_heaps", "_law_cell", "_law_mixed"] ["_law_box", "_law_many"] (defScope s_law_pick) := ⟨rfl, rfl, rfl, by decide +kernel, rfl, by decide +kernel, by decide +kernel⟩
abbrev s_law_say : Stmt := topS 10
abbrev N_law_say : List Str := ["_law_box", "_law_most", "_law_every", "_law_size", "_law_k"]
theorem sc_law_say : FnScope ["_law_box", "_law_most", "_law_every", "_law_size", "_law_k"] ["_law_box", "_law_most"] (defScope s_law_say) := ⟨rfl, rfl, rfl, by decide +kernel, rfl, by decide +kernel, by decide +kernel⟩
abbrev s_law_all : Stmt := topS 11
abbrev N_law_all : List Str := ["_law_world_here", "_law_rows", "_law_c", "_law_i"]
theorem sc_law_all : FnScope ["_law_world_here", "_law_rows", "_law_c", "_law_i"] ["_law_world_here"] (defScope s_law_all) := ⟨rfl, rfl, rfl, by decide +kernel, rfl, by decide +kernel, by decide +kernel⟩
abbrev s_law_closed : Stmt := topS 12
abbrev N_law_closed : List Str := ["_law_world_here", "_law_marks", "_law_steps", "_law_c", "_law_size", "_law_first", "_law_i", "_law_table", "_law_turn", "_law_still", "_law_a", "_law_b", "_law_wide", "_law_k"]
theorem sc_law_closed : FnScope ["_law_world_here", "_law_marks", "_law_steps", "_law_c", "_law_size", "_law_first", "_law_i", "_law_table", "_law_turn", "_law_still", "_law_a", "_law_b", "_law_wide", "_law_k"] ["_law_world_here"] (defScope s_law_closed) := ⟨rfl, rfl, rfl, by decide +kernel, rfl, by decide +kernel, by decide +kernel⟩
abbrev s_law_behind : Stmt := topS 13
abbrev N_law_behind : List Str := ["_law_table", "_law_j", "_law_k"]
theorem sc_law_behind : FnScope ["_law_table", "_law_j", "_law_k"] ["_law_table", "_law_j"] (defScope s_law_behind) := ⟨rfl, rfl, rfl, by decide +kernel, rfl, by decide +kernel, by decide +kernel⟩
abbrev s_law_ahead : Stmt := topS 14
abbrev N_law_ahead : List Str := ["_law_table", "_law_j", "_law_k"]
theorem sc_law_ahead : FnScope ["_law_table", "_law_j", "_law_k"] ["_law_table", "_law_j"] (defScope s_law_ahead) := ⟨rfl, rfl, rfl, by decide +kernel, rfl, by decide +kernel, by decide +kernel⟩
abbrev s_law_close : Stmt := topS 15
abbrev N_law_close : List Str := ["_law_table", "_law_j", "_law_behind_here", "_law_found", "_law_k", "_law_m"]
theorem sc_law_close : FnScope ["_law_table", "_law_j", "_law_behind_here", "_law_found", "_law_k", "_law_m"] ["_law_table", "_law_j"] (defScope s_law_close) := ⟨rfl, rfl, rfl, by decide +kernel, rfl, by decide +kernel, by decide +kernel⟩
abbrev s_law_pair : Stmt := topS 16
abbrev N_law_pair : List Str := ["_law_box", "_law_table", "_law_mode", "_law_many", "_law_newest", "_law_ahead_here", "_law_behind_here", "_law_late", "_law_j"]
theorem sc_law_pair : FnScope ["_law_box", "_law_table", "_law_mode", "_law_many", "_law_newest", "_law_ahead_here", "_law_behind_here", "_law_late", "_law_j"] ["_law_box", "_law_table", "_law_mode"] (defScope s_law_pair) := ⟨rfl, rfl, rfl, by decide +kernel, rfl, by decide +kernel, by decide +kernel⟩
abbrev s_law_same : Stmt := topS 17
abbrev N_law_same : List Str := ["_law_a", "_law_b", "_law_k"]
theorem sc_law_same : FnScope ["_law_a", "_law_b", "_law_k"] ["_law_a", "_law_b"] (defScope s_law_same) := ⟨rfl, rfl, rfl, by decide +kernel, rfl, by decide +kernel, by decide +kernel⟩
abbrev s_law_world : Stmt := topS 18
abbrev N_law_world : List Str := ["_law_box", "_law_mode", "_law_world_here", "_law_many", "_law_most", "_law_c", "_law_marks", "_law_a", "_law_b", "_law_who"]
theorem sc_law_world : FnScope ["_law_box", "_law_mode", "_law_world_here", "_law_many", "_law_most", "_law_c", "_law_marks", "_law_a", "_law_b", "_law_who"] ["_law_box"] (defScope s_law_world) := ⟨rfl, rfl, rfl, by decide +kernel, rfl, by decide +kernel, by decide +kernel⟩
abbrev s_law_hops : Stmt := topS 19
abbrev N_law_hops : List Str := ["_law_world_here", "_law_a", "_law_b", "_law_rows", "_law_turn"]
theorem sc_law_hops : FnScope ["_law_world_here", "_law_a", "_law_b", "_law_rows", "_law_turn"] ["_law_world_here", "_law_a", "_law_b"] (defScope s_law_hops) := ⟨rfl, rfl, rfl, by decide +kernel, rfl, by decide +kernel, by decide +kernel⟩
abbrev s_law_paper : Stmt := topS 20
abbrev N_law_paper : List Str := ["_law_world_here", "_law_line", "_law_k"]
theorem sc_law_paper : FnScope ["_law_world_here", "_law_line", "_law_k"] ["_law_world_here", "_law_line"] (defScope s_law_paper) := ⟨rfl, rfl, rfl, by decide +kernel, rfl, by decide +kernel, by decide +kernel⟩
abbrev s_law_next : Stmt := topS 21
abbrev N_law_next : List Str := ["_law_world_here", "_law_pair_here", "_law_rows"]
theorem sc_law_next : FnScope ["_law_world_here", "_law_pair_here", "_law_rows"] ["_law_world_here", "_law_pair_here"] (defScope s_law_next) := ⟨rfl, rfl, rfl, by decide +kernel, rfl, by decide +kernel, by decide +kernel⟩
abbrev s_law_ends : Stmt := topS 22
abbrev N_law_ends : List Str := ["_law_pair_here", "_law_many"]
theorem sc_law_ends : FnScope ["_law_pair_here", "_law_many"] ["_law_pair_here", "_law_many"] (defScope s_law_ends) := ⟨rfl, rfl, rfl, by decide +kernel, rfl, by decide +kernel, by decide +kernel⟩
abbrev s_law_entry_fits : Stmt := topS 23
abbrev N_law_entry_fits : List Str := ["_law_world_here", "_law_a", "_law_b", "_law_entry", "_law_k"]
theorem sc_law_entry_fits : FnScope ["_law_world_here", "_law_a", "_law_b", "_law_entry", "_law_k"] ["_law_world_here", "_law_a", "_law_b", "_law_entry"] (defScope s_law_entry_fits) := ⟨rfl, rfl, rfl, by decide +kernel, rfl, by decide +kernel, by decide +kernel⟩
abbrev s_law_fits : Stmt := topS 24
abbrev N_law_fits : List Str := ["_law_world_here", "_law_line", "_law_leaf", "_law_k"]
theorem sc_law_fits : FnScope ["_law_world_here", "_law_line", "_law_leaf", "_law_k"] ["_law_world_here", "_law_line", "_law_leaf"] (defScope s_law_fits) := ⟨rfl, rfl, rfl, by decide +kernel, rfl, by decide +kernel, by decide +kernel⟩
abbrev s_law_told : Stmt := topS 25
abbrev N_law_told : List Str := ["_law_marks", "_law_table", "_law_a", "_law_b"]
theorem sc_law_told : FnScope ["_law_marks", "_law_table", "_law_a", "_law_b"] ["_law_marks", "_law_table", "_law_a", "_law_b"] (defScope s_law_told) := ⟨rfl, rfl, rfl, by decide +kernel, rfl, by decide +kernel, by decide +kernel⟩
abbrev s_law_chained : Stmt := topS 26
abbrev N_law_chained : List Str := ["_law_marks", "_law_table", "_law_line", "_law_k"]
theorem sc_law_chained : FnScope ["_law_marks", "_law_table", "_law_line", "_law_k"] ["_law_marks", "_law_table", "_law_line"] (defScope s_law_chained) := ⟨rfl, rfl, rfl, by decide +kernel, rfl, by decide +kernel, by decide +kernel⟩
abbrev s_law_row : Stmt := topS 27
abbrev N_law_row : List Str := ["_law_box", "_law_marks", "_law_table", "_law_line", "_law_at", "_law_turn", "_law_behind_here", "_law_k"]
theorem sc_law_row : FnScope ["_law_box", "_law_marks", "_law_table", "_law_line", "_law_at", "_law_turn", "_law_behind_here", "_law_k"] ["_law_box", "_law_marks", "_law_table"] (defScope s_law_row) := ⟨rfl, rfl, rfl, by decide +kernel, rfl, by decide +kernel, by decide +kernel⟩
abbrev s_law_rich : Stmt := topS 28
abbrev N_law_rich : List Str := ["_law_world_here", "_law_marks", "_law_table", "_law_rows", "_law_a", "_law_b", "_law_last", "_law_first"]
theorem sc_law_rich : FnScope ["_law_world_here", "_law_marks", "_law_table", "_law_rows", "_law_a", "_law_b", "_law_last", "_law_first"] ["_law_world_here", "_law_marks", "_law_table"] (defScope s_law_rich) := ⟨rfl, rfl, rfl, by decide +kernel, rfl, by decide +kernel, by decide +kernel⟩
abbrev s_law_walk : Stmt := topS 29
abbrev N_law_walk : List Str := ["_law_box", "_law_world_here", "_law_marks", "_law_table", "_law_a", "_law_b", "_law_rows", "_law_turn", "_law_good", "_law_v", "_law_w"]
theorem sc_law_walk : FnScope ["_law_box", "_law_world_here", "_law_marks", "_law_table", "_law_a", "_law_b", "_law_rows", "_law_turn", "_law_good", "_law_v", "_law_w"] ["_law_box", "_law_world_here", "_law_marks", "_law_table", "_law_a", "_law_b"] (defScope s_law_walk) := ⟨rfl, rfl, rfl, by decide +kernel, rfl, by decide +kernel, by decide +kernel⟩
abbrev s_law_walks : Stmt := topS 30
abbrev N_law_walks : List Str := ["_law_world_here", "_law_a", "_law_b", "_law_rows", "_law_done", "_law_turn", "_law_pair_here"]
theorem sc_law_walks : FnScope ["_law_world_here", "_law_a", "_law_b", "_law_rows", "_law_done", "_law_turn", "_law_pair_here"] ["_law_world_here", "_law_a", "_law_b"] (defScope s_law_walks) := ⟨rfl, rfl, rfl, by decide +kernel, rfl, by decide +kernel, by decide +kernel⟩
abbrev s_law_bent : Stmt := topS 31
abbrev N_law_bent : List Str := ["_law_box", "_law_world_here", "_law_marks", "_law_leaf", "_law_at", "_law_entry", "_law_k", "_law_v", "_law_w", "_law_odd", "_law_far", "_law_wide", "_law_entries", "_law_pair_here", "_law_rows", "_law_bent_here"]
theorem sc_law_bent : FnScope ["_law_box", "_law_world_here", "_law_marks", "_law_leaf", "_law_at", "_law_entry", "_law_k", "_law_v", "_law_w", "_law_odd", "_law_far", "_law_wide", "_law_entries", "_law_pair_here", "_law_rows", "_law_bent_here"] ["_law_box", "_law_world_here", "_law_marks", "_law_leaf"] (defScope s_law_bent) := ⟨rfl, rfl, rfl, by decide +kernel, rfl, by decide +kernel, by decide +kernel⟩
abbrev s_law_holds : Stmt := topS 32
abbrev N_law_holds : List Str := ["_law_box", "_law_world_here", "_law_marks", "_law_table", "_law_line", "_law_made", "_law_plain", "_law_chained_here", "_law_walked", "_law_papers", "_law_leaf", "_law_due", "_law_k"]
theorem sc_law_holds : FnScope ["_law_box", "_law_world_here", "_law_marks", "_law_table", "_law_line", "_law_made", "_law_plain", "_law_chained_here", "_law_walked", "_law_papers", "_law_leaf", "_law_due", "_law_k"] ["_law_box", "_law_world_here", "_law_marks", "_law_table", "_law_line"] (defScope s_law_holds) := ⟨rfl, rfl, rfl, by decide +kernel, rfl, by decide +kernel, by decide +kernel⟩
abbrev s_law_pair_holds : Stmt := topS 33
abbrev N_law_pair_holds : List Str := ["_law_world_here", "_law_marks", "_law_table", "_law_a", "_law_b", "_law_found", "_law_entry", "_law_due"]
theorem sc_law_pair_holds : FnScope ["_law_world_here", "_law_marks", "_law_table", "_law_a", "_law_b", "_law_found", "_law_entry", "_law_due"] ["_law_world_here", "_law_marks", "_law_table", "_law_a", "_law_b"] (defScope s_law_pair_holds) := ⟨rfl, rfl, rfl, by decide +kernel, rfl, by decide +kernel, by decide +kernel⟩
abbrev s_law : Stmt := topS 34
abbrev N_law : List Str := ["_law_script", "_law_box", "_law_world_here", "_law_marks", "_law_table", "_law_turn", "_law_a", "_law_b", "_law_ends_here", "_law_rich_here"]
theorem sc_law : FnScope ["_law_script", "_law_box", "_law_world_here", "_law_marks", "_law_table", "_law_turn", "_law_a", "_law_b", "_law_ends_here", "_law_rich_here"] ["_law_script"] (defScope s_law) := ⟨rfl, rfl, rfl, by decide +kernel, rfl, by decide +kernel, by decide +kernel⟩
structure Txt (K : PySem.W.Frag) (mg : Str → Option Value) where
  a_hops_of : Addr
  d_hops_of : FuncData
  F_hops_of : Fun K "hops_of" "hops_of" s_hops_of a_hops_of d_hops_of
  b_hops_of : Binds K d_hops_of ["births", "one", "other"] []
  g_hops_of : mg "hops_of" = some (.ref a_hops_of)
  a_chain_paper : Addr
  d_chain_paper : FuncData
  F_chain_paper : Fun K "chain_paper" "chain_paper" s_chain_paper a_chain_paper d_chain_paper
  b_chain_paper : Binds K d_chain_paper ["births", "row"] []
  g_chain_paper : mg "chain_paper" = some (.ref a_chain_paper)
  a_is_hop : Addr
  d_is_hop : FuncData
  F_is_hop : Fun K "is_hop" "is_hop" s_is_hop a_is_hop d_is_hop
  b_is_hop : Binds K d_is_hop ["births", "before", "after"] []
  g_is_hop : mg "is_hop" = some (.ref a_is_hop)
  a_entry_fits : Addr
  d_entry_fits : FuncData
  F_entry_fits : Fun K "entry_fits" "entry_fits" s_entry_fits a_entry_fits d_entry_fits
  b_entry_fits : Binds K d_entry_fits ["births", "pair", "entry"] []
  g_entry_fits : mg "entry_fits" = some (.ref a_entry_fits)
  a_chain_fits : Addr
  d_chain_fits : FuncData
  F_chain_fits : Fun K "chain_fits" "chain_fits" s_chain_fits a_chain_fits d_chain_fits
  b_chain_fits : Binds K d_chain_fits ["births", "row", "paper"] []
  g_chain_fits : mg "chain_fits" = some (.ref a_chain_fits)
  a_law_draws : Addr
  d_law_draws : FuncData
  F_law_draws : Fun K "_law_draws" "_law_draws" s_law_draws a_law_draws d_law_draws
  b_law_draws : Binds K d_law_draws ["_law_script"] []
  g_law_draws : mg "_law_draws" = some (.ref a_law_draws)
  a_law_pick : Addr
  d_law_pick : FuncData
  F_law_pick : Fun K "_law_pick" "_law_pick" s_law_pick a_law_pick d_law_pick
  b_law_pick : Binds K d_law_pick ["_law_box", "_law_many"] []
  g_law_pick : mg "_law_pick" = some (.ref a_law_pick)
  a_law_say : Addr
  d_law_say : FuncData
  F_law_say : Fun K "_law_say" "_law_say" s_law_say a_law_say d_law_say
  b_law_say : Binds K d_law_say ["_law_box", "_law_most"] []
  g_law_say : mg "_law_say" = some (.ref a_law_say)
  a_law_all : Addr
  d_law_all : FuncData
  F_law_all : Fun K "_law_all" "_law_all" s_law_all a_law_all d_law_all
  b_law_all : Binds K d_law_all ["_law_world_here"] []
  g_law_all : mg "_law_all" = some (.ref a_law_all)
  a_law_closed : Addr
  d_law_closed : FuncData
  F_law_closed : Fun K "_law_closed" "_law_closed" s_law_closed a_law_closed d_law_closed
  b_law_closed : Binds K d_law_closed ["_law_world_here"] []
  g_law_closed : mg "_law_closed" = some (.ref a_law_closed)
  a_law_behind : Addr
  d_law_behind : FuncData
  F_law_behind : Fun K "_law_behind" "_law_behind" s_law_behind a_law_behind d_law_behind
  b_law_behind : Binds K d_law_behind ["_law_table", "_law_j"] []
  g_law_behind : mg "_law_behind" = some (.ref a_law_behind)
  a_law_ahead : Addr
  d_law_ahead : FuncData
  F_law_ahead : Fun K "_law_ahead" "_law_ahead" s_law_ahead a_law_ahead d_law_ahead
  b_law_ahead : Binds K d_law_ahead ["_law_table", "_law_j"] []
  g_law_ahead : mg "_law_ahead" = some (.ref a_law_ahead)
  a_law_close : Addr
  d_law_close : FuncData
  F_law_close : Fun K "_law_close" "_law_close" s_law_close a_law_close d_law_close
  b_law_close : Binds K d_law_close ["_law_table", "_law_j"] []
  g_law_close : mg "_law_close" = some (.ref a_law_close)
  a_law_pair : Addr
  d_law_pair : FuncData
  F_law_pair : Fun K "_law_pair" "_law_pair" s_law_pair a_law_pair d_law_pair
  b_law_pair : Binds K d_law_pair ["_law_box", "_law_table", "_law_mode"] []
  g_law_pair : mg "_law_pair" = some (.ref a_law_pair)
  a_law_same : Addr
  d_law_same : FuncData
  F_law_same : Fun K "_law_same" "_law_same" s_law_same a_law_same d_law_same
  b_law_same : Binds K d_law_same ["_law_a", "_law_b"] []
  g_law_same : mg "_law_same" = some (.ref a_law_same)
  a_law_world : Addr
  d_law_world : FuncData
  F_law_world : Fun K "_law_world" "_law_world" s_law_world a_law_world d_law_world
  b_law_world : Binds K d_law_world ["_law_box"] []
  g_law_world : mg "_law_world" = some (.ref a_law_world)
  a_law_hops : Addr
  d_law_hops : FuncData
  F_law_hops : Fun K "_law_hops" "_law_hops" s_law_hops a_law_hops d_law_hops
  b_law_hops : Binds K d_law_hops ["_law_world_here", "_law_a", "_law_b"] []
  g_law_hops : mg "_law_hops" = some (.ref a_law_hops)
  a_law_paper : Addr
  d_law_paper : FuncData
  F_law_paper : Fun K "_law_paper" "_law_paper" s_law_paper a_law_paper d_law_paper
  b_law_paper : Binds K d_law_paper ["_law_world_here", "_law_line"] []
  g_law_paper : mg "_law_paper" = some (.ref a_law_paper)
  a_law_next : Addr
  d_law_next : FuncData
  F_law_next : Fun K "_law_next" "_law_next" s_law_next a_law_next d_law_next
  b_law_next : Binds K d_law_next ["_law_world_here", "_law_pair_here"] []
  g_law_next : mg "_law_next" = some (.ref a_law_next)
  a_law_ends : Addr
  d_law_ends : FuncData
  F_law_ends : Fun K "_law_ends" "_law_ends" s_law_ends a_law_ends d_law_ends
  b_law_ends : Binds K d_law_ends ["_law_pair_here", "_law_many"] []
  g_law_ends : mg "_law_ends" = some (.ref a_law_ends)
  a_law_entry_fits : Addr
  d_law_entry_fits : FuncData
  F_law_entry_fits : Fun K "_law_entry_fits" "_law_entry_fits" s_law_entry_fits a_law_entry_fits d_law_entry_fits
  b_law_entry_fits : Binds K d_law_entry_fits ["_law_world_here", "_law_a", "_law_b", "_law_entry"] []
  g_law_entry_fits : mg "_law_entry_fits" = some (.ref a_law_entry_fits)
  a_law_fits : Addr
  d_law_fits : FuncData
  F_law_fits : Fun K "_law_fits" "_law_fits" s_law_fits a_law_fits d_law_fits
  b_law_fits : Binds K d_law_fits ["_law_world_here", "_law_line", "_law_leaf"] []
  g_law_fits : mg "_law_fits" = some (.ref a_law_fits)
  a_law_told : Addr
  d_law_told : FuncData
  F_law_told : Fun K "_law_told" "_law_told" s_law_told a_law_told d_law_told
  b_law_told : Binds K d_law_told ["_law_marks", "_law_table", "_law_a", "_law_b"] []
  g_law_told : mg "_law_told" = some (.ref a_law_told)
  a_law_chained : Addr
  d_law_chained : FuncData
  F_law_chained : Fun K "_law_chained" "_law_chained" s_law_chained a_law_chained d_law_chained
  b_law_chained : Binds K d_law_chained ["_law_marks", "_law_table", "_law_line"] []
  g_law_chained : mg "_law_chained" = some (.ref a_law_chained)
  a_law_row : Addr
  d_law_row : FuncData
  F_law_row : Fun K "_law_row" "_law_row" s_law_row a_law_row d_law_row
  b_law_row : Binds K d_law_row ["_law_box", "_law_marks", "_law_table"] []
  g_law_row : mg "_law_row" = some (.ref a_law_row)
  a_law_rich : Addr
  d_law_rich : FuncData
  F_law_rich : Fun K "_law_rich" "_law_rich" s_law_rich a_law_rich d_law_rich
  b_law_rich : Binds K d_law_rich ["_law_world_here", "_law_marks", "_law_table"] []
  g_law_rich : mg "_law_rich" = some (.ref a_law_rich)
  a_law_walk : Addr
  d_law_walk : FuncData
  F_law_walk : Fun K "_law_walk" "_law_walk" s_law_walk a_law_walk d_law_walk
  b_law_walk : Binds K d_law_walk ["_law_box", "_law_world_here", "_law_marks", "_law_table", "_law_a", "_law_b"] []
  g_law_walk : mg "_law_walk" = some (.ref a_law_walk)
  a_law_walks : Addr
  d_law_walks : FuncData
  F_law_walks : Fun K "_law_walks" "_law_walks" s_law_walks a_law_walks d_law_walks
  b_law_walks : Binds K d_law_walks ["_law_world_here", "_law_a", "_law_b"] []
  g_law_walks : mg "_law_walks" = some (.ref a_law_walks)
  a_law_bent : Addr
  d_law_bent : FuncData
  F_law_bent : Fun K "_law_bent" "_law_bent" s_law_bent a_law_bent d_law_bent
  b_law_bent : Binds K d_law_bent ["_law_box", "_law_world_here", "_law_marks", "_law_leaf"] []
  g_law_bent : mg "_law_bent" = some (.ref a_law_bent)
  a_law_holds : Addr
  d_law_holds : FuncData
  F_law_holds : Fun K "_law_holds" "_law_holds" s_law_holds a_law_holds d_law_holds
  b_law_holds : Binds K d_law_holds ["_law_box", "_law_world_here", "_law_marks", "_law_table", "_law_line"] []
  g_law_holds : mg "_law_holds" = some (.ref a_law_holds)
  a_law_pair_holds : Addr
  d_law_pair_holds : FuncData
  F_law_pair_holds : Fun K "_law_pair_holds" "_law_pair_holds" s_law_pair_holds a_law_pair_holds d_law_pair_holds
  b_law_pair_holds : Binds K d_law_pair_holds ["_law_world_here", "_law_marks", "_law_table", "_law_a", "_law_b"] []
  g_law_pair_holds : mg "_law_pair_holds" = some (.ref a_law_pair_holds)
  a_law : Addr
  d_law : FuncData
  F_law : Fun K "law" "law" s_law a_law d_law
  b_law : Binds K d_law ["_law_script"] []
  g_law : mg "law" = some (.ref a_law)
  kb_chain_fits : KBinds K d_chain_fits ["births", "row", "paper"] ["paper", "row", "births"] p210 p210
  kb_chain_paper : KBinds K d_chain_paper ["births", "row"] ["row", "births"] q10 q10
  n_abs : mg "abs" = none
  n_all : mg "all" = none
  n_bool : mg "bool" = none
  n_dict : mg "dict" = none
  n_int : mg "int" = none
  n_isinstance : mg "isinstance" = none
  n_len : mg "len" = none
  n_list : mg "list" = none
  n_max : mg "max" = none
  n_min : mg "min" = none
  n_range : mg "range" = none
  n_str : mg "str" = none
  n_tuple : mg "tuple" = none
  n_zip : mg "zip" = none
/-! ### births -/
/-- a birth: its left, its right, its size -/
def BtV (G : Hp) (v : V) (L R : Sg) (big : Bool) (sz : Nat) : Prop := ∃ (q : Addr) (who : Int) (l r : V) (t : Str), v = .ref q ∧ G q = some (.tup [.int who, l, r, .str t]) ∧ SgV G l L ∧ SgV G r R ∧ (big = true → t.length = sz) ∧ t.length ≤ 3
theorem BtV.up {G G' : Hp} {v : V} {L R : Sg} {big : Bool} {sz : Nat} (e : Ex G G') (h : BtV G v L R big sz) : BtV G' v L R big sz := by
  obtain ⟨q, who, l, r, t, h1, h2, h3, h4, h5, h6⟩ := h
  exact ⟨q, who, l, r, t, h1, e _ _ h2, h3.up e, h4.up e, h5, h6⟩
structure Brs (G : Hp) (xs : List V) (L R : Nat → Sg) (sz : Nat → Nat) (n : Nat) : Prop where
  len : xs.length = n
  at_ : ∀ c x, xs[c]? = some x → BtV G x (L c) (R c) (decide (0 < c)) (sz c)
  wv : Wv L R sz n
  small : n ≤ 250
theorem Brs.up {G G' : Hp} {xs : List V} {L R : Nat → Sg} {sz : Nat → Nat} {n : Nat} (e : Ex G G') (h : Brs G xs L R sz n) : Brs G' xs L R sz n := ⟨h.len, fun c x hx => (h.at_ c x hx).up e, h.wv, h.small⟩
def Wr (G : Hp) (b : Addr) (L R : Nat → Sg) (sz : Nat → Nat) (n : Nat) : Prop := ∃ xs, G b = some (.tup xs) ∧ Brs G xs L R sz n
theorem Wr.up {G G' : Hp} {b : Addr} {L R : Nat → Sg} {sz : Nat → Nat} {n : Nat} (e : Ex G G') (h : Wr G b L R sz n) : Wr G' b L R sz n := h.imp fun _ z => ⟨e _ _ z.1, z.2.up e⟩
/-- a pair of signs -/
def HpV (G : Hp) (v : V) (z : Sg × Sg) : Prop := ∃ (p : Addr) (a b : V), v = .ref p ∧ G p = some (.tup [a, b]) ∧ SgV G a z.1 ∧ SgV G b z.2
theorem HpV.up {G G' : Hp} {v : V} {z : Sg × Sg} (e : Ex G G') (h : HpV G v z) : HpV G' v z := by
  obtain ⟨p, a, b, h1, h2, h3, h4⟩ := h
  exact ⟨p, a, b, h1, e _ _ h2, h3.up e, h4.up e⟩
/-- a list of our own under way -/
structure Ls (A : Addr → Prop) (G H : Hp) (l : Addr) (G1 H1 : Hp) (xs : List V) : Prop where
  t : Gr A G H G1 H1
  own : H1 l = some (.lst xs)
  gp : G1 l = none
  hp : H l = none
section
variable {A : Addr → Prop} {G H G1 H1 G2 H2 : Hp} {l : Addr} {xs ys : List V}
theorem Ls.step (b : Ls A G H l G1 H1 xs) (t : Gr A G1 H1 G2 H2) (na : ¬ A l) : Ls A G H l G2 H2 xs := ⟨b.t.trans t, t.hh _ _ na b.own, t.nw _ _ b.own b.gp, b.hp⟩
theorem Ls.put (b : Ls A G H l G1 H1 xs) (ys : List V) : Ls A G H l G1 (upd H1 l (.lst ys)) ys := ⟨b.t.mut (.inr b.hp) b.gp, upd_same, b.gp, b.hp⟩
theorem Ls.start (t : Gr A G H G1 H1) (n : H1 l = none) : Ls A G H l G1 (upd H1 l (.lst xs)) xs := ⟨t.trans (Gr.own t.gh n), upd_same, t.gh.free n, t.fresh n⟩
theorem Ls.give (b : Ls A G H l G1 H1 xs) : Gr A G H (upd G1 l (.lst xs)) H1 := b.t.give b.hp b.own b.gp
end
section
variable {P : Program} {w : World} {K : PySem.W.Frag} {mg : Str → Option Value} {base : Heap}
def spHops : Sp := fun vs H Q _ => ∃ (b : Addr) (v u : V) (L R : Nat → Sg) (sz : Nat → Nat) (n : Nat) (x y : Sg), vs = [.ref b, v, u] ∧ Wr H b L R sz n ∧ SgV H v x ∧ SgV H u y ∧ Ok sz n x ∧ Ok sz n y ∧
  ∀ p H' xs hs, Ex H H' → H' p = some (.tup xs) → P2 (HpV H') xs hs → Hps L R x y hs → hs.length ≤ n → Q (.ref p) H'
theorem ok_hops_of (T : Txt K mg) : FnOk P w K mg base CX0 1 T.a_hops_of T.d_hops_of ["births", "one", "other"] spHops := by
  refine T.F_hops_of.ok sc_hops_of (fun vs H Q E h => ?_) (fun cdv A outer s H vs Q E hr h => ?_)
  · obtain ⟨b, v, u, L, R, sz, n, x, y, rfl, _⟩ := h
    rfl
  · obtain ⟨b, v, u, L, R, sz, n, x, y, rfl, ⟨ws, hb, br⟩, hv, hu, okx, oky, q⟩ := h
    refine ⟨_, (pss_cons (ps_set (i := 3) sc_hops_of.nd rfl (Or.inl rfl) (pe_lst (pa_cons (pe_tup (pa_cons (pv 1) (pa_cons (pv 2) pa_nil))) pa_nil)))
        (pss_cons (ps_while PassesOwn.never (pt_cmpR (op_neU hr.units) (pe_ix ix_seq (pv 1) pe_int (fun _ _ => rfl)) (pe_ix ix_seq (pv 2) pe_int (fun _ _ => rfl)) (nomark _)) (Evl.pss_cut (ps_if (pt_cmpR op_gt (pe_ix ix_seq (pv 1) pe_int (fun _ _ => rfl)) (pe_ix ix_seq (pv 2) pe_int (fun _ _ => rfl)) (nomark _)) (pss_one (ps_set (i := 1) sc_hops_of.nd rfl (Or.inl rfl) (pe_ix ix_seq (pe_ix ix_seq (pv 0) (pe_ix ix_seq (pv 1) pe_int (fun _ _ => rfl)) (fun _ _ => rfl)) pe_int (fun _ _ => rfl)))) (pss_one (ps_set (i := 2) sc_hops_of.nd rfl (Or.inl rfl) (pe_ix ix_seq (pe_ix ix_seq (pv 0) (pe_ix ix_seq (pv 2) pe_int (fun _ _ => rfl)) (fun _ _ => rfl)) pe_int (fun _ _ => rfl)))))
        (pss_one (ps_expr (pe_bm PySem.F.plainAttrs_list PySem.F.slot_list_append PySem.F.type_list_append mt_append (pv 3) (pa_cons (pe_tup (pa_cons (pv 1) (pa_cons (pv 2) pa_nil))) pa_nil))))))
        (pss_one (ps_ret (pe_callTy call_tupU (by rfl) T.n_tuple (by decide +kernel) (pa_cons (pv 3) pa_nil)))))), ?_⟩
    have e0 := Same.refl H
    walk_at "rd"
    refine r_small nsz fun p1 n1 => ?_
    obtain ⟨G1, H1, k1, s1, h1⟩ := new_ex e0 n1 (.tup [v, u])
    rw [← k1]
    walk_at "rd"
    refine r_small nsz fun l n2 => ?_
    have B : Ls A0 H H l G1 (upd H1 l (.lst [.ref p1])) [.ref p1] := Ls.start s1 n2
    walk_at "rd"
    refine ⟨fun m σ H' => ∃ v u x2 y2 pre xs G', σ = [some (.ref b), some v, some u, some (.ref l)] ∧ Ls A0 H H l G' H' xs ∧ P2 (HpV G') xs (pre ++ [(x2, y2)]) ∧ SgV G' v x2 ∧ SgV G' u y2 ∧ Ok sz n x2 ∧ Ok sz n y2 ∧
      m = x2.1 + y2.1 ∧ pre.length + max x2.1 y2.1 < n ∧ ∀ t, Hps L R x2 y2 t → Hps L R x y (pre ++ t), ⟨_, v, u, x, y, [], _, G1, rfl, B, .cons ⟨p1, v, u, rfl, h1, hv.up s1.gg, hu.up s1.gg⟩ .nil, hv.up s1.gg, hu.up s1.gg, okx, oky, rfl, ?_, fun t h => h⟩, fun m σ H' hW => ?_⟩
    · have a1 := okx.1
      have a2 := oky.1
      show 0 + _ < _
      omega
    obtain ⟨v', u', x', y', pre, xs, G', rfl, B', hP, hv', hu', okx', oky', rfl, hlen, hH⟩ := hW
    obtain ⟨p2, rfl, hp2⟩ := id hv'
    obtain ⟨p3, rfl, hp3⟩ := id hu'
    have hp2' := B'.t.gh _ _ hp2
    have hp3' := B'.t.gh _ _ hp3
    have b3' := B'.t.gh _ _ (B'.t.gg _ _ hb)
    have pl : xs.length ≤ 260 := by
      have z := hP.len
      rw [List.length_append] at z
      have z2 := br.small
      simp at z
      omega
    walk_at "rd"
    refine r_ixT (sqT hp2') (atI_nat (j := 0) rfl) ?_
    walk_at "rd"
    refine r_ixT (sqT hp3') (atI_nat (j := 0) rfl) ?_
    walk_at "rd"
    refine r_iteN (fun hne => ?_) (fun heq => ?_)
    · have hne' : x'.1 ≠ y'.1 := fun z => hne (by rw [z])
      refine ⟨fun σ H' => ∃ v u x2 y2 pre xs G', σ = [some (.ref b), some v, some u, some (.ref l)] ∧ Ls A0 H H l G' H' xs ∧ P2 (HpV G') xs (pre ++ [(x2, y2)]) ∧ SgV G' v x2 ∧ SgV G' u y2 ∧ Ok sz n x2 ∧ Ok sz n y2 ∧
        x2.1 + y2.1 < x'.1 + y'.1 ∧ pre.length + max x2.1 y2.1 < n ∧ ∀ t, Hps L R x2 y2 t → Hps L R x y (pre ++ t), fun σ' H2 ⟨v, u, x2, y2, pre, xs, G', h1, h2, h3, h4, h5, h6, h7, h8, h9⟩ => ⟨_, h8, v, u, x2, y2, pre, xs, G', h1, h2, h3, h4, h5, h6, h7, rfl, h9⟩, ?_⟩
      walk_at "rs"
      refine ⟨fun σ H2 => H2 = H' ∧ ∃ v u x2 y2, σ = [some (.ref b), some v, some u, some (.ref l)] ∧ SgV G' v x2 ∧ SgV G' u y2 ∧ Ok sz n x2 ∧ Ok sz n y2 ∧ x2.1 + y2.1 < x'.1 + y'.1 ∧ pre.length + 1 + max x2.1 y2.1 < n ∧ ∀ t, Hps L R x2 y2 t → Hps L R x' y' ((x', y') :: t), ?_, ?_⟩
      · walk_at "rd"
        refine r_ixT (sqT hp2') (atI_nat (j := 0) rfl) ?_
        walk_at "rd"
        refine r_ixT (sqT hp3') (atI_nat (j := 0) rfl) ?_
        walk_at "rd"
        refine r_ite (fun hgt => ?_) (fun hle => ?_)
        · have hg : y'.1 < x'.1 := by omega
          obtain ⟨bv, hbv⟩ : ∃ bv, ws[x'.1]? = some bv := ⟨_, List.getElem?_eq_getElem (by rw [br.len]; exact okx'.1)⟩
          obtain ⟨q4, who, lv, rv, tx, rfl, hq4, hL, hR, _⟩ := br.at_ _ _ hbv
          have hq4' := B'.t.gh _ _ (B'.t.gg _ _ hq4)
          walk_at "rd"
          refine r_ixT (sqT hp2') (atI_nat (j := 0) rfl) ?_
          walk_at "rd"
          refine r_ixT (sqT b3') (atI_nat hbv) ?_
          walk_at "rd"
          refine r_ixT (sqT hq4') (atI_nat (j := 2) rfl) ?_
          walk_at "rd"
          have w1 := br.wv.okR (show 0 < x'.1 by omega) okx'.1
          have w2 := br.wv.r x'.1 (by omega) okx'.1
          exact ⟨rfl, rv, .ref p3, R x'.1, y', rfl, hR.up B'.t.gg, hu', w1, oky', by omega, by omega, fun t ht => .rgo hg ht⟩
        · have hl : x'.1 < y'.1 := by omega
          obtain ⟨bv, hbv⟩ : ∃ bv, ws[y'.1]? = some bv := ⟨_, List.getElem?_eq_getElem (by rw [br.len]; exact oky'.1)⟩
          obtain ⟨q4, who, lv, rv, tx, rfl, hq4, hL, hR, _⟩ := br.at_ _ _ hbv
          have hq4' := B'.t.gh _ _ (B'.t.gg _ _ hq4)
          walk_at "rd"
          refine r_ixT (sqT hp3') (atI_nat (j := 0) rfl) ?_
          walk_at "rd"
          refine r_ixT (sqT b3') (atI_nat hbv) ?_
          walk_at "rd"
          refine r_ixT (sqT hq4') (atI_nat (j := 1) rfl) ?_
          walk_at "rd"
          have w1 := br.wv.okL (show 0 < y'.1 by omega) oky'.1
          have w2 := br.wv.l y'.1 (by omega) oky'.1
          exact ⟨rfl, .ref p2, lv, x', L y'.1, rfl, hv', hL.up B'.t.gg, okx', w1, by omega, by omega, fun t ht => .lgo hl ht⟩
      · rintro σ H2 ⟨rfl, v2, u2, x2, y2, rfl, sv2, su2, ok2, ok3, hm, hl2, hh⟩
        walk_at "rd"
        refine r_tyL (sqL B'.own) ?_
        walk_at "rd"
        refine r_small nsz fun p5 n5 => ?_
        obtain ⟨G5, H5, k5, s5, h5⟩ := new_ex B'.t.gh n5 (.tup [v2, u2])
        rw [← k5]
        have B5 := B'.step s5 id
        walk_at "rd"
        refine r_app B5.own (Nat.lt_of_le_of_lt pl (by decide)) ?_
        walk_at "rd"
        have B6 := B5.put (xs ++ [.ref p5])
        refine ⟨v2, u2, x2, y2, pre ++ [(x', y')], _, G5, rfl, B6, ?_, sv2.up s5.gg, su2.up s5.gg, ok2, ok3, hm, ?_, fun t ht => ?_⟩
        · exact (hP.imp fun _ _ z => z.up s5.gg).snoc ⟨p5, v2, u2, rfl, h5, sv2.up s5.gg, su2.up s5.gg⟩
        · rw [List.length_append]
          exact hl2
        · rw [List.append_assoc]
          exact hH _ (hh t ht)
    · have heq' : x'.1 = y'.1 := Int.ofNat.inj (V.int.inj heq)
      walk_at "rd"
      refine r_tupL (sqL B'.own) fun p6 n6 => ?_
      have hf := Same.new (o := .tup xs) (Same.refl H') n6
      refine q p6 _ xs _ (B'.t.g0.trans hf) upd_same (hP.imp fun _ _ z => (z.up B'.t.gh).up hf) (hH _ (.stop heq')) ?_
      rw [List.length_append]
      show _ + 1 ≤ _
      omega
end
end K26

namespace K26
open PySem PySem.Spec PyProof.Rows L2 Dk Tl
/-- one step of a reading -/
local macro_rules | `(tactic| walk_at "rd1") => `(tactic| first
  | ((with_reducible refine r_var (v := ?rv) ?rh ?_); (case rh => rfl))
  | with_reducible refine r_c ?_
  | with_reducible refine r_seq ?_
  | with_reducible refine r_asg ?_
  | with_reducible refine r_par ?_
  | with_reducible refine r_gname ?_
  | with_reducible refine r_op ?_
  | with_reducible refine r_forLo ?_
  | with_reducible refine r_forTo ?_
  | with_reducible refine r_forSo ?_
  | with_reducible refine r_forRo ?_
  | with_reducible refine r_lcRo ?_
  | with_reducible refine r_lcLo ?_
  | with_reducible refine r_yes ?_
  | with_reducible refine r_callK0 ?_
  | with_reducible refine r_break ?_
  | with_reducible refine r_forR2o ?_
  | with_reducible refine r_forEo ?_
  | with_reducible refine r_forESo ?_
  | with_reducible refine r_xfo ?_
  | with_reducible refine r_noP ?_
  | with_reducible refine r_part ?_
  | with_reducible refine r_pI ?_
  | with_reducible refine r_gcons ?_
  | with_reducible refine r_gnil ?_
  | with_reducible refine r_mkO ?_
  | with_reducible refine r_un ?_
  | with_reducible refine r_addI ?_
  | with_reducible refine r_I0 ?_
  | with_reducible refine r_U ?_
  | with_reducible refine r_cons ?_
  | with_reducible refine r_nil ?_
  | with_reducible refine r_CB ?_
  | with_reducible refine r_call ?_
  | with_reducible refine r_callS ?_
  | with_reducible refine r_int ?_
  | with_reducible refine r_max ?_
  | with_reducible refine r_min ?_
  | with_reducible refine r_test ?_
  | with_reducible refine r_B ?_
  | with_reducible refine r_blv ?_
  | with_reducible refine r_and ?_
  | with_reducible refine r_or ?_
  | with_reducible refine r_not ?_
  | with_reducible refine r_andV ?_
  | with_reducible refine r_orV ?_
  | with_reducible refine r_notV ?_
  | with_reducible refine r_ifE ?_
  | with_reducible refine r_ifS ?_
  | with_reducible refine r_ret ?_
  | with_reducible refine r_retN ?_
  | with_reducible refine r_drop ?_
  | with_reducible refine r_next ?_
  | with_reducible refine r_sl ?_
  | with_reducible refine r_gsub ?_
  | with_reducible refine r_bm ?_
  | with_reducible refine r_tup ?_
  | with_reducible refine r_lst ?_
  | with_reducible refine r_isN ?_
  | with_reducible refine r_notN ?_
  | with_reducible refine r_itt ?_
  | with_reducible refine r_iff ?_
  | with_reducible refine r_ittN ?_
  | with_reducible refine r_iffN ?_
  | ((with_reducible refine r_ittD ?rh ?_); (case rh => rfl))
  | ((with_reducible refine r_iffD ?rh ?_); (case rh => rfl))
  | ((with_reducible refine r_modP ?rh ?_); (case rh => decide))
  | ((with_reducible refine r_eq ?rh ?_); (case rh => rfl))
  | ((with_reducible refine r_eqP ?rh ?_); (case rh => rfl))
  | ((with_reducible refine r_ne ?rh ?_); (case rh => rfl)))
local macro_rules | `(tactic| walk_at "rd") => `(tactic| repeat walk_at "rd1")
local macro_rules | `(tactic| walk_at "isi") => `(tactic| first | refine r_isi (b := true) (by assumption) (by decide +kernel) ?_ | refine r_isi (b := false) (by assumption) (by decide +kernel) ?_)
local macro_rules | `(tactic| walk_at "rs1") => `(tactic| first
  | with_reducible refine r_seq ?_
  | with_reducible refine r_asg ?_
  | with_reducible refine r_gname ?_
  | with_reducible refine r_ret ?_)
local macro_rules | `(tactic| walk_at "rs") => `(tactic| repeat walk_at "rs1")

section
variable {P : Program} {w : World} {K : PySem.W.Frag} {mg : Str → Option Value} {base : Heap}
/-! ### the law's own hops -/
theorem ok_law_hops (T : Txt K mg) : FnOk P w K mg base CX0 1 T.a_law_hops T.d_law_hops ["_law_world_here", "_law_a", "_law_b"] spHops := by
  refine T.F_law_hops.ok sc_law_hops (fun vs H Q E h => ?_) (fun cdv A outer s H vs Q E hr h => ?_)
  · obtain ⟨b, v, u, L, R, sz, n, x, y, rfl, _⟩ := h
    rfl
  · obtain ⟨b, v, u, L, R, sz, n, x, y, rfl, ⟨ws, hb, br⟩, hv, hu, okx, oky, q⟩ := h
    refine ⟨_, (pss_cons (ps_set (i := 3) sc_law_hops.nd rfl (Or.inl rfl) (pe_lst (pa_cons (pe_tup (pa_cons (pv 1) (pa_cons (pv 2) pa_nil))) pa_nil)))
        (pss_cons (ps_for PassesOwn.never rfl (pi_range1 (by rfl) T.n_range (pa_cons (pe_op op_addU (pe_callB call_lenU (by rfl) T.n_len (by decide +kernel) (pa_cons (pv 0) pa_nil)) pe_int) pa_nil)) (pg_name (i := 4) sc_law_hops.nd rfl (Or.inl rfl)) (pss_cons (ps_if (pt_cmpR (op_eqU hr.units) (pe_ix ix_seq (pv 1) pe_int (fun _ _ => rfl)) (pe_ix ix_seq (pv 2) pe_int (fun _ _ => rfl)) (nomark _)) (pss_one ps_break) pss_nil)
        (Evl.pss_cut (ps_if (pt_cmpR op_lt (pe_ix ix_seq (pv 1) pe_int (fun _ _ => rfl)) (pe_ix ix_seq (pv 2) pe_int (fun _ _ => rfl)) (nomark _)) (pss_one (ps_set (i := 2) sc_law_hops.nd rfl (Or.inl rfl) (pe_ix ix_seq (pe_ix ix_seq (pv 0) (pe_ix ix_seq (pv 2) pe_int (fun _ _ => rfl)) (fun _ _ => rfl)) pe_int (fun _ _ => rfl)))) (pss_one (ps_set (i := 1) sc_law_hops.nd rfl (Or.inl rfl) (pe_ix ix_seq (pe_ix ix_seq (pv 0) (pe_ix ix_seq (pv 1) pe_int (fun _ _ => rfl)) (fun _ _ => rfl)) pe_int (fun _ _ => rfl)))))
        (pss_one (ps_expr (pe_bm PySem.F.plainAttrs_list PySem.F.slot_list_append PySem.F.type_list_append mt_append (pv 3) (pa_cons (pe_tup (pa_cons (pv 1) (pa_cons (pv 2) pa_nil))) pa_nil)))))))
        (pss_one (ps_ret (pe_callTy call_tupU (by rfl) T.n_tuple (by decide +kernel) (pa_cons (pv 3) pa_nil)))))), ?_⟩
    have e0 := Same.refl H
    have bn := br.small
    have bl := br.len
    walk_at "rd"
    refine r_small nsz fun p1 n1 => ?_
    obtain ⟨G1, H1, k1, s1, h1⟩ := new_ex e0 n1 (.tup [v, u])
    rw [← k1]
    walk_at "rd"
    refine r_small nsz fun l n2 => ?_
    have B : Ls A0 H H l G1 (upd H1 l (.lst [.ref p1])) [.ref p1] := Ls.start s1 n2
    walk_at "rd"
    refine r_lenT (sqT (B.t.gh _ _ (B.t.gg _ _ hb))) ?_
    walk_at "rd"
    refine l_R (by omega) (by omega) (fun i σ H' => ∃ v u x2 y2 pre xs G' z, σ = [some (.ref b), some v, some u, some (.ref l), z] ∧ Ls A0 H H l G' H' xs ∧ P2 (HpV G') xs (pre ++ [(x2, y2)]) ∧ SgV G' v x2 ∧ SgV G' u y2 ∧ Ok sz n x2 ∧ Ok sz n y2 ∧
      pre.length = i ∧ pre.length + max x2.1 y2.1 < n ∧ ∀ t, Hps L R x2 y2 t → Hps L R x y (pre ++ t)) ⟨v, u, x, y, [], _, G1, none, rfl, B, .cons ⟨p1, v, u, rfl, h1, hv.up s1.gg, hu.up s1.gg⟩ .nil, hv.up s1.gg, hu.up s1.gg, okx, oky, rfl, ?_, fun t h => h⟩ (fun i σ H' hi hW => ?_) (fun σ H' hW => ?_)
    · have a1 := okx.1
      have a2 := oky.1
      show 0 + _ < _
      omega
    · obtain ⟨v', u', x', y', pre, xs, G', z, rfl, B', hP, hv', hu', okx', oky', hpi, hlen, hH⟩ := hW
      obtain ⟨p2, rfl, hp2⟩ := id hv'
      obtain ⟨p3, rfl, hp3⟩ := id hu'
      have hp2' := B'.t.gh _ _ hp2
      have hp3' := B'.t.gh _ _ hp3
      have b3' := B'.t.gh _ _ (B'.t.gg _ _ hb)
      have pl : xs.length ≤ 260 := by
        have z := hP.len
        rw [List.length_append] at z
        simp at z
        omega
      walk_at "rd"
      refine r_ixT (sqT hp2') (atI_nat (j := 0) rfl) ?_
      walk_at "rd"
      refine r_ixT (sqT hp3') (atI_nat (j := 0) rfl) ?_
      walk_at "rd"
      refine r_ite (fun heq => ?_) (fun hne => ?_)
      · have heq' : x'.1 = y'.1 := Int.ofNat.inj (V.int.inj heq)
        refine r_break ?_
        walk_at "rd"
        refine r_tupL (sqL B'.own) fun p6 n6 => ?_
        have hf := Same.new (o := .tup xs) (Same.refl H') n6
        refine q p6 _ xs _ (B'.t.g0.trans hf) upd_same (hP.imp fun _ _ z => (z.up B'.t.gh).up hf) (hH _ (.stop heq')) ?_
        rw [List.length_append]
        show _ + 1 ≤ _
        omega
      have hne' : x'.1 ≠ y'.1 := fun z => hne (by rw [z])
      refine r_next ?_
      walk_at "rs"
      refine ⟨fun σ H2 => H2 = H' ∧ ∃ v u x2 y2 z, σ = [some (.ref b), some v, some u, some (.ref l), z] ∧ SgV G' v x2 ∧ SgV G' u y2 ∧ Ok sz n x2 ∧ Ok sz n y2 ∧ pre.length + 1 + max x2.1 y2.1 < n ∧ ∀ t, Hps L R x2 y2 t → Hps L R x' y' ((x', y') :: t), ?_, ?_⟩
      · walk_at "rd"
        refine r_ixT (sqT hp2') (atI_nat (j := 0) rfl) ?_
        walk_at "rd"
        refine r_ixT (sqT hp3') (atI_nat (j := 0) rfl) ?_
        walk_at "rd"
        refine r_ite (fun hgt => ?_) (fun hle => ?_)
        · have hl : x'.1 < y'.1 := by omega
          obtain ⟨bv, hbv⟩ : ∃ bv, ws[y'.1]? = some bv := ⟨_, List.getElem?_eq_getElem (by rw [br.len]; exact oky'.1)⟩
          obtain ⟨q4, who, lv, rv, tx, rfl, hq4, hL, hR, _⟩ := br.at_ _ _ hbv
          have hq4' := B'.t.gh _ _ (B'.t.gg _ _ hq4)
          walk_at "rd"
          refine r_ixT (sqT hp3') (atI_nat (j := 0) rfl) ?_
          walk_at "rd"
          refine r_ixT (sqT b3') (atI_nat hbv) ?_
          walk_at "rd"
          refine r_ixT (sqT hq4') (atI_nat (j := 1) rfl) ?_
          walk_at "rd"
          have w1 := br.wv.okL (show 0 < y'.1 by omega) oky'.1
          have w2 := br.wv.l y'.1 (by omega) oky'.1
          exact ⟨rfl, .ref p2, lv, x', L y'.1, _, rfl, hv', hL.up B'.t.gg, okx', w1, by omega, fun t ht => .lgo hl ht⟩
        · have hg : y'.1 < x'.1 := by omega
          obtain ⟨bv, hbv⟩ : ∃ bv, ws[x'.1]? = some bv := ⟨_, List.getElem?_eq_getElem (by rw [br.len]; exact okx'.1)⟩
          obtain ⟨q4, who, lv, rv, tx, rfl, hq4, hL, hR, _⟩ := br.at_ _ _ hbv
          have hq4' := B'.t.gh _ _ (B'.t.gg _ _ hq4)
          walk_at "rd"
          refine r_ixT (sqT hp2') (atI_nat (j := 0) rfl) ?_
          walk_at "rd"
          refine r_ixT (sqT b3') (atI_nat hbv) ?_
          walk_at "rd"
          refine r_ixT (sqT hq4') (atI_nat (j := 2) rfl) ?_
          walk_at "rd"
          have w1 := br.wv.okR (show 0 < x'.1 by omega) okx'.1
          have w2 := br.wv.r x'.1 (by omega) okx'.1
          exact ⟨rfl, rv, .ref p3, R x'.1, y', _, rfl, hR.up B'.t.gg, hu', w1, oky', by omega, fun t ht => .rgo hg ht⟩
      · rintro σ H2 ⟨rfl, v2, u2, x2, y2, z2, rfl, sv2, su2, ok2, ok3, hl2, hh⟩
        walk_at "rd"
        refine r_tyL (sqL B'.own) ?_
        walk_at "rd"
        refine r_small nsz fun p5 n5 => ?_
        obtain ⟨G5, H5, k5, s5, h5⟩ := new_ex B'.t.gh n5 (.tup [v2, u2])
        rw [← k5]
        have B5 := B'.step s5 id
        walk_at "rd"
        refine r_app B5.own (Nat.lt_of_le_of_lt pl (by decide)) ?_
        walk_at "rd"
        have B6 := B5.put (xs ++ [.ref p5])
        refine ⟨v2, u2, x2, y2, pre ++ [(x', y')], _, G5, _, rfl, B6, ?_, sv2.up s5.gg, su2.up s5.gg, ok2, ok3, by rw [List.length_append, hpi]; rfl, ?_, fun t ht => ?_⟩
        · exact (hP.imp fun _ _ z => z.up s5.gg).snoc ⟨p5, v2, u2, rfl, h5, sv2.up s5.gg, su2.up s5.gg⟩
        · rw [List.length_append]
          exact hl2
        · rw [List.append_assoc]
          exact hH _ (hh t ht)
    · exfalso
      obtain ⟨v', u', x', y', pre, xs, G', z, rfl, B', hP, hv', hu', okx', oky', hpi, hlen, hH⟩ := hW
      omega
/-! ### the same data -/
def Sm (H : Hp) : Nat → V → V → Prop
  | 0, _, _ => False
  | d + 1, v, u => (∃ b, v = .bl b ∧ u = .bl b) ∨ (∃ i, v = .int i ∧ u = .int i) ∨ ∃ p q xs ys, v = .ref p ∧ u = .ref q ∧ H p = some (.tup xs) ∧ H q = some (.tup ys) ∧ xs.length ≤ 1000 ∧ P2 (Sm H d) xs ys
theorem Sm.up {H H' : Hp} (e : Ex H H') : ∀ {d : Nat} {v u : V}, Sm H d v u → Sm H' d v u
  | 0, _, _, h => h
  | d + 1, v, u, h => by
    rcases h with h | h | ⟨p, q, xs, ys, h1, h2, h3, h4, h5, h6⟩
    · exact .inl h
    · exact .inr (.inl h)
    · exact .inr (.inr ⟨p, q, xs, ys, h1, h2, e _ _ h3, e _ _ h4, h5, h6.imp fun _ _ z => Sm.up e z⟩)
def spSame (d : Nat) : Sp := fun vs H Q _ => ∃ v u, vs = [v, u] ∧ Sm H d v u ∧ ∀ H', Ex H H' → Q (.bl true) H'
theorem ok_same (T : Txt K mg) : ∀ d, FnOk P w K mg base CX0 d T.a_law_same T.d_law_same ["_law_a", "_law_b"] (spSame d) := by
  intro d
  induction d with
  | zero => exact ⟨fun vs H Q E h => by
      obtain ⟨_, _, _, h, _⟩ := h
      exact h.elim, fun A outer s H args us vs Q E _ _ _ _ h => by
      obtain ⟨_, _, _, h, _⟩ := h
      exact h.elim⟩
  | succ d ih =>
    have ok_law_same : Txt K mg → FnOk P w K mg base CX0 d T.a_law_same T.d_law_same ["_law_a", "_law_b"] (spSame d) := fun _ => ih
    refine T.F_law_same.ok sc_law_same (fun vs H Q E h => ?_) (fun cdv A outer s H vs Q E hr h => ?_)
    · obtain ⟨v, u, rfl, _⟩ := h
      rfl
    · obtain ⟨v, u, rfl, h, q⟩ := h
      have hr1 := hr
      refine ⟨_, (pss_cons (ps_if (PW.pt (pw_or (pt_cmpR op_isU (pv 0) pe_non (nomark _)) (pw_or1 (pt_cmpR op_isU (pv 1) pe_non (nomark _))))) (pss_one (ps_ret (pe_and (pe_cmpR op_isU (pv 0) pe_non (nomark _)) (pe_one (pe_cmpR op_isU (pv 1) pe_non (nomark _)))))) pss_nil)
        (pss_cons (ps_if (PW.pt (pw_or (pt_val (pe_callB call_isi (by rfl) T.n_isinstance (by decide +kernel) (pa_cons (pv 0) (pa_cons (pe_bltn (v := .ty "bool") (by rfl) T.n_bool (by decide +kernel) rfl) pa_nil)))) (pw_or1 (pt_val (pe_callB call_isi (by rfl) T.n_isinstance (by decide +kernel) (pa_cons (pv 1) (pa_cons (pe_bltn (v := .ty "bool") (by rfl) T.n_bool (by decide +kernel) rfl) pa_nil))))))) (pss_one (ps_ret (pe_and (pe_callB call_isi (by rfl) T.n_isinstance (by decide +kernel) (pa_cons (pv 0) (pa_cons (pe_bltn (v := .ty "bool") (by rfl) T.n_bool (by decide +kernel) rfl) pa_nil))) (pe_and (pe_callB call_isi (by rfl) T.n_isinstance (by decide +kernel) (pa_cons (pv 1) (pa_cons (pe_bltn (v := .ty "bool") (by rfl) T.n_bool (by decide +kernel) rfl) pa_nil))) (pe_one (pe_cmpR (op_eqU hr.units) (pv 0) (pv 1) (nomark _))))))) pss_nil)
        (pss_cons (ps_if (PW.pt (pw_or (pt_val (pe_callB call_isi (by rfl) T.n_isinstance (by decide +kernel) (pa_cons (pv 0) (pa_cons (pe_bltn (v := .ty "int") (by rfl) T.n_int (by decide +kernel) rfl) pa_nil)))) (pw_or1 (pt_val (pe_callB call_isi (by rfl) T.n_isinstance (by decide +kernel) (pa_cons (pv 1) (pa_cons (pe_bltn (v := .ty "int") (by rfl) T.n_int (by decide +kernel) rfl) pa_nil))))))) (pss_one (ps_ret (pe_and (pe_callB call_isi (by rfl) T.n_isinstance (by decide +kernel) (pa_cons (pv 0) (pa_cons (pe_bltn (v := .ty "int") (by rfl) T.n_int (by decide +kernel) rfl) pa_nil))) (pe_and (pe_callB call_isi (by rfl) T.n_isinstance (by decide +kernel) (pa_cons (pv 1) (pa_cons (pe_bltn (v := .ty "int") (by rfl) T.n_int (by decide +kernel) rfl) pa_nil))) (pe_one (pe_cmpR (op_eqU hr.units) (pv 0) (pv 1) (nomark _))))))) pss_nil)
        (pss_cons (ps_if (PW.pt (pw_or (pt_val (pe_callB call_isi (by rfl) T.n_isinstance (by decide +kernel) (pa_cons (pv 0) (pa_cons (pe_bltn (v := .ty "str") (by rfl) T.n_str (by decide +kernel) rfl) pa_nil)))) (pw_or1 (pt_val (pe_callB call_isi (by rfl) T.n_isinstance (by decide +kernel) (pa_cons (pv 1) (pa_cons (pe_bltn (v := .ty "str") (by rfl) T.n_str (by decide +kernel) rfl) pa_nil))))))) (pss_one (ps_ret (pe_and (pe_callB call_isi (by rfl) T.n_isinstance (by decide +kernel) (pa_cons (pv 0) (pa_cons (pe_bltn (v := .ty "str") (by rfl) T.n_str (by decide +kernel) rfl) pa_nil))) (pe_and (pe_callB call_isi (by rfl) T.n_isinstance (by decide +kernel) (pa_cons (pv 1) (pa_cons (pe_bltn (v := .ty "str") (by rfl) T.n_str (by decide +kernel) rfl) pa_nil))) (pe_one (pe_cmpR (op_eqU hr.units) (pv 0) (pv 1) (nomark _))))))) pss_nil)
        (pss_cons (ps_if (PW.pt (pw_or (pt_val (pe_callB call_isi (by rfl) T.n_isinstance (by decide +kernel) (pa_cons (pv 0) (pa_cons (pe_bltn (v := .ty "dict") (by rfl) T.n_dict (by decide +kernel) rfl) pa_nil)))) (pw_or1 (pt_val (pe_callB call_isi (by rfl) T.n_isinstance (by decide +kernel) (pa_cons (pv 1) (pa_cons (pe_bltn (v := .ty "dict") (by rfl) T.n_dict (by decide +kernel) rfl) pa_nil))))))) (pss_cons (ps_if (pt_not (PW.pt (pw_and (pt_val (pe_callB call_isi (by rfl) T.n_isinstance (by decide +kernel) (pa_cons (pv 0) (pa_cons (pe_bltn (v := .ty "dict") (by rfl) T.n_dict (by decide +kernel) rfl) pa_nil)))) (pw_and1 (pt_val (pe_callB call_isi (by rfl) T.n_isinstance (by decide +kernel) (pa_cons (pv 1) (pa_cons (pe_bltn (v := .ty "dict") (by rfl) T.n_dict (by decide +kernel) rfl) pa_nil)))))))) (pss_one (ps_ret pe_bl)) pss_nil)
        (pss_one (ps_ret pe_never))) pss_nil)
        (pss_cons (ps_if (PW.pt (pw_or (pt_cmpR (op_neU hr.units) (pe_callB call_isi (by rfl) T.n_isinstance (by decide +kernel) (pa_cons (pv 0) (pa_cons (pe_bltn (v := .ty "tuple") (by rfl) T.n_tuple (by decide +kernel) rfl) pa_nil))) (pe_callB call_isi (by rfl) T.n_isinstance (by decide +kernel) (pa_cons (pv 1) (pa_cons (pe_bltn (v := .ty "tuple") (by rfl) T.n_tuple (by decide +kernel) rfl) pa_nil))) (nomark _)) (pw_or1 (pt_cmpR (op_neU hr.units) (pe_callB call_isi (by rfl) T.n_isinstance (by decide +kernel) (pa_cons (pv 0) (pa_cons (pe_bltn (v := .ty "list") (by rfl) T.n_list (by decide +kernel) rfl) pa_nil))) (pe_callB call_isi (by rfl) T.n_isinstance (by decide +kernel) (pa_cons (pv 1) (pa_cons (pe_bltn (v := .ty "list") (by rfl) T.n_list (by decide +kernel) rfl) pa_nil))) (nomark _))))) (pss_one (ps_ret pe_bl)) pss_nil)
        (pss_cons (ps_if (PW.pt (pw_or (pt_not (pt_val (pe_callB call_isiT (by rfl) T.n_isinstance (by decide +kernel) (pa_cons (pv 0) (pa_cons (pe_tup (pa_cons (pe_bltn (v := .ty "tuple") (by rfl) T.n_tuple (by decide +kernel) rfl) (pa_cons (pe_bltn (v := .ty "list") (by rfl) T.n_list (by decide +kernel) rfl) pa_nil))) pa_nil))))) (pw_or1 (pt_cmpR (op_neU hr.units) (pe_callB call_lenU (by rfl) T.n_len (by decide +kernel) (pa_cons (pv 0) pa_nil)) (pe_callB call_lenU (by rfl) T.n_len (by decide +kernel) (pa_cons (pv 1) pa_nil)) (nomark _))))) (pss_one (ps_ret pe_bl)) pss_nil)
        (pss_cons (ps_for PassesOwn.never rfl (pi_range1 (by rfl) T.n_range (pa_cons (pe_callB call_lenU (by rfl) T.n_len (by decide +kernel) (pa_cons (pv 0) pa_nil)) pa_nil)) (pg_name (i := 2) sc_law_same.nd rfl (Or.inl rfl)) (pss_one (ps_if (pt_not (pt_val (pe_call (ok_law_same T) hr1 (by rfl) T.g_law_same T.F_law_same.kp T.b_law_same .nil pass0 (pa_cons (pe_ix ix_seq (pv 0) (pv 2) (fun _ _ => rfl)) (pa_cons (pe_ix ix_seq (pv 1) (pv 2) (fun _ _ => rfl)) pa_nil))))) (pss_one (ps_ret pe_bl)) pss_nil)))
        (pss_one (ps_ret pe_bl)))))))))), ?_⟩
      rcases h with ⟨b, rfl, rfl⟩ | ⟨i, rfl, rfl⟩ | ⟨p, p2, xs, ys, rfl, rfl, hp, hp2, hl, hP⟩
      · have ty : TyX K H (.bl b) (.type "bool") := .base (.bl b)
        walk_at "rd"
        walk_at "isi"
        walk_at "rd"
        walk_at "isi"
        walk_at "rd"
        walk_at "isi"
        walk_at "rd"
        have e : decide (V.bl b = V.bl b) = true := decide_eq_true rfl
        rw [e]
        exact q _ (Same.refl H)
      · have ty : TyX K H (.int i) (.type "int") := .base (.int i)
        walk_at "rd"
        walk_at "isi"
        walk_at "rd"
        walk_at "isi"
        walk_at "rd"
        walk_at "isi"
        walk_at "rd"
        walk_at "isi"
        walk_at "rd"
        walk_at "isi"
        walk_at "rd"
        have e : decide (V.int i = V.int i) = true := decide_eq_true rfl
        rw [e]
        exact q _ (Same.refl H)
      · have ty : TyX K H (.ref p) (.type "tuple") := .base (.tup hp)
        have ty2 : TyX K H (.ref p2) (.type "tuple") := .base (.tup hp2)
        walk_at "rd"
        iterate 12 (walk_at "isi"; walk_at "rd")
        refine r_small nsz fun f n1 => ?_
        have e1 : Ex H (upd H f (.tup [.ty "tuple", .ty "list"])) := Same.new (Same.refl H) n1
        walk_at "rd"
        refine r_isiT2 upd_same (.base (.tup (e1 _ _ hp))) (b := true) (c := false) (by decide +kernel) (by decide +kernel) ?_
        walk_at "rd"
        refine r_lenT (sqT (e1 _ _ hp)) ?_
        walk_at "rd"
        refine r_lenT (sqT (e1 _ _ hp2)) ?_
        walk_at "rd"
        have el : xs.length = ys.length := hP.len
        refine r_iteN (fun hn => absurd (by rw [el]) hn) (fun _ => ?_)
        walk_at "rd"
        refine r_lenT (sqT (e1 _ _ hp)) ?_
        walk_at "rd"
        refine l_R (by omega) (by omega) (fun i σ H' => ∃ z, σ = [some (.ref p), some (.ref p2), z] ∧ Ex H H') ⟨none, rfl, e1⟩ (fun i σ H' hi hW => ?_) (fun σ H' hW => ?_)
        · obtain ⟨z, rfl, e⟩ := hW
          obtain ⟨x, hx⟩ : ∃ x, xs[i]? = some x := ⟨_, List.getElem?_eq_getElem (by omega)⟩
          obtain ⟨y, hy, hxy⟩ := hP.get hx
          walk_at "rd"
          refine r_ixT (sqT (e _ _ hp)) (atI_nat hx) ?_
          walk_at "rd"
          refine r_ixT (sqT (e _ _ hp2)) (atI_nat hy) ?_
          walk_at "rd"
          refine ⟨x, y, rfl, hxy.up e, fun H2 e2 => ?_⟩
          walk_at "rd"
          exact ⟨_, rfl, e.trans e2⟩
        · obtain ⟨z, rfl, e⟩ := hW
          walk_at "rd"
          exact q _ e
theorem ok_law_same (T : Txt K mg) : FnOk P w K mg base CX0 5 T.a_law_same T.d_law_same ["_law_a", "_law_b"] (spSame 5) := ok_same T 5
end
end K26

namespace K26
open PySem PySem.Spec PyProof.Rows L2 Dk Tl
/-- one step of a reading -/
local macro_rules | `(tactic| walk_at "rd1") => `(tactic| first
  | ((with_reducible refine r_var (v := ?rv) ?rh ?_); (case rh => rfl))
  | with_reducible refine r_c ?_
  | with_reducible refine r_seq ?_
  | with_reducible refine r_asg ?_
  | with_reducible refine r_par ?_
  | with_reducible refine r_gname ?_
  | with_reducible refine r_op ?_
  | with_reducible refine r_forLo ?_
  | with_reducible refine r_forTo ?_
  | with_reducible refine r_forSo ?_
  | with_reducible refine r_forRo ?_
  | with_reducible refine r_lcRo ?_
  | with_reducible refine r_lcLo ?_
  | with_reducible refine r_yes ?_
  | with_reducible refine r_callK0 ?_
  | with_reducible refine r_break ?_
  | with_reducible refine r_forR2o ?_
  | with_reducible refine r_forEo ?_
  | with_reducible refine r_forESo ?_
  | with_reducible refine r_xfo ?_
  | with_reducible refine r_noP ?_
  | with_reducible refine r_part ?_
  | with_reducible refine r_pI ?_
  | with_reducible refine r_gcons ?_
  | with_reducible refine r_gnil ?_
  | with_reducible refine r_mkO ?_
  | with_reducible refine r_un ?_
  | with_reducible refine r_addI ?_
  | with_reducible refine r_I0 ?_
  | with_reducible refine r_U ?_
  | with_reducible refine r_cons ?_
  | with_reducible refine r_nil ?_
  | with_reducible refine r_CB ?_
  | with_reducible refine r_call ?_
  | with_reducible refine r_callS ?_
  | with_reducible refine r_int ?_
  | with_reducible refine r_max ?_
  | with_reducible refine r_min ?_
  | with_reducible refine r_test ?_
  | with_reducible refine r_B ?_
  | with_reducible refine r_blv ?_
  | with_reducible refine r_and ?_
  | with_reducible refine r_or ?_
  | with_reducible refine r_not ?_
  | with_reducible refine r_andV ?_
  | with_reducible refine r_orV ?_
  | with_reducible refine r_notV ?_
  | with_reducible refine r_ifE ?_
  | with_reducible refine r_ifS ?_
  | with_reducible refine r_ret ?_
  | with_reducible refine r_retN ?_
  | with_reducible refine r_drop ?_
  | with_reducible refine r_next ?_
  | with_reducible refine r_sl ?_
  | with_reducible refine r_gsub ?_
  | with_reducible refine r_bm ?_
  | with_reducible refine r_tup ?_
  | with_reducible refine r_lst ?_
  | with_reducible refine r_isN ?_
  | with_reducible refine r_notN ?_
  | with_reducible refine r_itt ?_
  | with_reducible refine r_iff ?_
  | with_reducible refine r_ittN ?_
  | with_reducible refine r_iffN ?_
  | ((with_reducible refine r_ittD ?rh ?_); (case rh => rfl))
  | ((with_reducible refine r_iffD ?rh ?_); (case rh => rfl))
  | ((with_reducible refine r_modP ?rh ?_); (case rh => decide))
  | ((with_reducible refine r_eq ?rh ?_); (case rh => rfl))
  | ((with_reducible refine r_eqP ?rh ?_); (case rh => rfl))
  | ((with_reducible refine r_ne ?rh ?_); (case rh => rfl)))
local macro_rules | `(tactic| walk_at "rd") => `(tactic| repeat walk_at "rd1")
local macro_rules | `(tactic| walk_at "isi") => `(tactic| first | refine r_isi (b := true) (by assumption) (by decide +kernel) ?_ | refine r_isi (b := false) (by assumption) (by decide +kernel) ?_)
local macro_rules | `(tactic| walk_at "rs1") => `(tactic| first
  | with_reducible refine r_seq ?_
  | with_reducible refine r_asg ?_
  | with_reducible refine r_gname ?_
  | with_reducible refine r_ret ?_)
local macro_rules | `(tactic| walk_at "rs") => `(tactic| repeat walk_at "rs1")

section
variable {P : Program} {w : World} {K : PySem.W.Frag} {mg : Str → Option Value} {base : Heap}
theorem ok_law_draws (T : Txt K mg) : FnOk P w K mg base CX0 1 T.a_law_draws T.d_law_draws ["_law_script"] (spDraws K) := by
  refine T.F_law_draws.ok sc_law_draws (fun vs H Q E h => ?_) (fun cdv A outer s H vs Q E hr h => ?_)
  · obtain ⟨a, ns, rfl, _⟩ := h
    rfl
  · obtain ⟨a, ns, rfl, hS, hlen, q⟩ := h
    refine ⟨_, (pss_cons (ps_set (i := 1) sc_law_draws.nd rfl (Or.inl rfl) pe_int)
        (pss_cons (ps_set (i := 2) sc_law_draws.nd rfl (Or.inl rfl) (pe_lst pa_nil))
        (pss_cons (ps_for PassesOwn.never rfl (pi_list (pv 0)) (pg_name (i := 3) sc_law_draws.nd rfl (Or.inl rfl)) (pss_cons (ps_set (i := 4) sc_law_draws.nd rfl (Or.inl rfl) (pe_callB call_absU (by rfl) T.n_abs (by decide +kernel) (pa_cons (pv 3) pa_nil)))
        (pss_cons (ps_set (i := 1) sc_law_draws.nd rfl (Or.inl rfl) (pe_op op_modP (pe_callTy call_intU (by rfl) T.n_int (by decide +kernel) (pa_cons (pe_op op_addU (pe_op op_addU (pe_op op_addU (pe_op op_mulWW (pv 1) pe_int) (pe_op op_modP (pe_callTy call_intU (by rfl) T.n_int (by decide +kernel) (pa_cons (pv 4) pa_nil)) pe_int)) (pe_op op_mulWW pe_int (pe_callTy call_intU (by rfl) T.n_int (by decide +kernel) (pa_cons (pe_cmpR op_lt (pv 3) pe_int (nomark _)) pa_nil)))) pe_int) pa_nil)) pe_int))
        (pss_one (ps_if (pt_cmpR op_ge (pv 4) pe_int (nomark _)) (pss_one (ps_expr (pe_bm PySem.F.plainAttrs_list PySem.F.slot_list_append PySem.F.type_list_append mt_append (pv 2) (pa_cons (pv 4) pa_nil)))) pss_nil)))))
        (pss_one (ps_ret (pe_lst (pa_cons (pv 1) (pa_cons (pv 2) pa_nil)))))))), ?_⟩
    walk_at "rd"
    refine r_small nsz fun h hh => ?_
    have e0 : Ex H (upd H h (.lst [])) := Same.new (Same.refl H) hh
    walk_at "rd"
    refine l_L (SqL.up e0 hS) (fun i σ H' => ∃ z y1 y2 hs, σ = [some (.ref a), some (.int z), some (.ref h), y1, y2] ∧ 0 ≤ z ∧ z < M31 ∧ Ex H H' ∧ H' h = some (.lst (hs.map V.int)) ∧ hs.length ≤ i) ⟨_, none, none, [], rfl, by decide, by decide, e0, upd_same, Nat.le_refl _⟩ (fun i σ H' h => ?_) (fun i x σ H' hx hP => ?_) (fun σ H' hP => ?_)
    · obtain ⟨_, _, _, _, _, _, _, e, _⟩ := h
      exact SqL.up e hS
    · obtain ⟨z, y1, y2, hs, rfl, z0, z1, e, hh', hl⟩ := hP
      obtain ⟨c, hc, rfl⟩ : ∃ c, ns[i]? = some c ∧ x = V.int c := by
        rw [List.getElem?_map] at hx
        cases e : ns[i]? with
        | none => rw [e] at hx; cases hx
        | some c => rw [e] at hx; exact ⟨c, rfl, (Option.some.inj hx).symm⟩
      have hi : i < ns.length := (List.getElem?_eq_some_iff.mp hc).1
      walk_at "rd"
      refine r_abs ?_
      walk_at "rd"
      refine r_mulW (wide_mul (a := 31) (b := 33) (nat31 z0 z1) (by decide) (by decide) (by decide) (by decide)) ?_
      walk_at "rd"
      refine r_bool ?_
      refine r_mulW (wide_mul (a := 31) (b := 33) (by decide) (by split <;> decide) (by decide) (by decide) (by decide)) ?_
      walk_at "rd"
      refine r_ite (fun hb => ?_) (fun hb => ?_)
      · walk_at "rd"
        refine r_tyL (sqL hh') ?_
        walk_at "rd"
        refine r_app hh' (by rw [List.length_map]; exact Nat.lt_of_le_of_lt (show hs.length ≤ 100 by omega) (by decide)) ?_
        walk_at "rd"
        exact ⟨_, _, _, hs ++ [_], rfl, (mix31 _).1, (mix31 _).2, Same.mut e hh, by rw [upd_same, List.map_append]; rfl, by rw [List.length_append]; simp; exact hl⟩
      · walk_at "rd"
        exact ⟨_, _, _, hs, rfl, (mix31 _).1, (mix31 _).2, e, hh', by omega⟩
    · obtain ⟨z, y1, y2, hs, rfl, z0, z1, e, hh', hl⟩ := hP
      rw [List.length_map] at hl
      walk_at "rd"
      refine r_small nsz fun b hb => ?_
      have hne : b ≠ h := fun z => by rw [z, hh'] at hb; cases hb
      refine q b h _ (e.trans (Same.new (Same.refl _) hb)) (e.free hb) hh ⟨hne, z, hs, upd_same, z0, z1, by rw [upd_ne (Ne.symm hne)]; exact hh', by omega⟩
theorem ok_law_pick (T : Txt K mg) : FnOk P w K mg base CX0 1 T.a_law_pick T.d_law_pick ["_law_box", "_law_many"] spPick := by
  refine T.F_law_pick.ok sc_law_pick (fun vs H Q E h => ?_) (fun cdv A outer s H vs Q E hr h => ?_)
  · obtain ⟨b, h, n, rfl, _⟩ := h
    rfl
  · obtain ⟨b, h, n, rfl, ⟨ne, z, ns, hb, z0, z1, hh, hl⟩, n0, n1, q⟩ := h
    refine ⟨_, (pss_cons (ps_set (i := 2) sc_law_pick.nd rfl (Or.inl rfl) (pe_ix ix_seq (pv 0) pe_int (fun _ _ => rfl)))
        (pss_cons (ps_if (pt_cmpR op_gt (pe_callB call_lenU (by rfl) T.n_len (by decide +kernel) (pa_cons (pv 2) pa_nil)) pe_int (nomark _)) (pss_cons (ps_set (i := 3) sc_law_pick.nd rfl (Or.inl rfl) (pe_ix ix_seq (pv 2) pe_int (fun _ _ => rfl)))
        (pss_cons (ps_asg (pe_op op_divW (pv 3) (pv 1)) (pg_sub (pv 2) pe_int set_list))
        (Evl.pss_cut (ps_if (pt_cmpR (op_eqU hr.units) (pe_ix ix_seq (pv 2) pe_int (fun _ _ => rfl)) pe_int (nomark _)) (pss_one (ps_expr (pe_bm PySem.F.plainAttrs_list PySem.F.slot_list_pop PySem.F.type_list_pop mt_popAt (pv 2) (pa_cons pe_int pa_nil)))) pss_nil)
        (pss_one (ps_ret (pe_op op_modP (pe_callTy call_intU (by rfl) T.n_int (by decide +kernel) (pa_cons (pv 3) pa_nil)) (pv 1))))))) pss_nil)
        (pss_cons (ps_asg (pe_op op_modP (pe_callTy call_intU (by rfl) T.n_int (by decide +kernel) (pa_cons (pe_op op_addU (pe_op op_mulWW (pe_ix ix_seq (pv 0) pe_int (fun _ _ => rfl)) pe_int) pe_int) pa_nil)) pe_int) (pg_sub (pv 0) pe_int set_list))
        (pss_cons (ps_set (i := 4) sc_law_pick.nd rfl (Or.inl rfl) (pe_op op_modP (pe_callTy call_intU (by rfl) T.n_int (by decide +kernel) (pa_cons (pe_op op_mulWW (pe_ix ix_seq (pv 0) pe_int (fun _ _ => rfl)) pe_int) pa_nil)) pe_int))
        (pss_one (ps_ret (pe_op op_modP (pe_callTy call_intU (by rfl) T.n_int (by decide +kernel) (pa_cons (pe_op op_divW (pv 4) pe_int) pa_nil)) (pv 1)))))))), ?_⟩
    walk_at "rd"
    refine r_ixL (sqL hb) (atI_nat (j := 1) rfl) ?_
    walk_at "rd"
    refine r_lenL (sqL hh) ?_
    walk_at "rd"
    have w11 : n.natAbs < 2 ^ 11 := by
      have e : (2 : Nat) ^ 11 = 2048 := by decide
      omega
    have wd : CDivW (0 : Int) n := wide_div (b := 11) n0 w11 (by decide) (by decide)
    cases ns with
    | cons c ns =>
      refine r_ite (fun _ => ?_) (fun hn => absurd (by simp) hn)
      walk_at "rd"
      refine r_ixL (sqL hh) (atI_nat (j := 0) rfl) ?_
      walk_at "rd"
      refine r_divW ⟨n0, wd.2⟩ ?_
      walk_at "rd"
      refine r_setL hh (n := 0) (ixN_nat (Int.le_refl 0) (by rw [List.length_map, List.length_cons]; omega)) ?_
      walk_at "rs"
      have D1 : ∀ (ms : List Int), ms.length ≤ 63 → ∀ H1, H1 b = some (.lst [.int z, .ref h]) → H1 h = some (.lst (ms.map V.int)) → (∀ x o, x ≠ b → x ≠ h → H x = some o → H1 x = some o) → Dr2 b h H H1 := fun ms hm H1 e1 e2 e3 => ⟨e3, ne, z, ms, e1, z0, z1, e2, hm⟩
      refine ⟨fun σ H1 => σ = [some (.ref b), some (.int n), some (.ref h), some (.int c), none] ∧ Dr2 b h H H1, ?_, ?_⟩
      · walk_at "rd"
        refine r_ixL (sqL upd_same) (atI_nat (j := 0) rfl) ?_
        walk_at "rd"
        refine r_ite (fun h0 => ?_) (fun h0 => ?_)
        · walk_at "rd"
          refine r_tyL (sqL upd_same) ?_
          walk_at "rd"
          refine r_pop0 upd_same ?_
          walk_at "rd"
          refine ⟨rfl, D1 ns (by simp at hl; omega) _ ?_ ?_ ?_⟩
          · rw [upd_ne ne, upd_ne ne]; exact hb
          · rw [upd_same]
          · intro x o h1 h2 e
            rw [upd_ne h2, upd_ne h2]
            exact e
        · walk_at "rd"
          refine ⟨rfl, D1 (c / n :: ns) (by simpa using hl) _ ?_ ?_ ?_⟩
          · rw [upd_ne ne]; exact hb
          · rw [upd_same]; rfl
          · intro x o h1 h2 e
            rw [upd_ne h2]
            exact e
      · rintro σ H1 ⟨rfl, D⟩
        walk_at "rd"
        refine r_modP n0 ?_
        exact q _ _ (Int.emod_nonneg _ (by omega)) (Int.emod_lt_of_pos _ n0) D
    | nil =>
      refine r_ite (fun hn => absurd hn (by simp)) (fun _ => ?_)
      walk_at "rd"
      refine r_ixL (sqL hb) (atI_nat (j := 0) rfl) ?_
      walk_at "rd"
      refine r_mulW (wide_mul (a := 31) (b := 33) (nat31 z0 z1) (by decide) (by decide) (by decide) (by decide)) ?_
      walk_at "rd"
      refine r_setL hb (n := 0) rfl ?_
      walk_at "rd"
      refine r_ixL (sqL upd_same) (atI_nat (j := 0) rfl) ?_
      walk_at "rd"
      refine r_mulW (wide_mul (a := 31) (b := 33) (nat31 (mix31 _).1 (mix31 _).2) (by decide) (by decide) (by decide) (by decide)) ?_
      walk_at "rd"
      refine r_divW (wide_div (b := 17) (by decide) (by decide) (by decide) (by decide)) ?_
      walk_at "rd"
      refine r_modP n0 ?_
      refine q _ _ (Int.emod_nonneg _ (by omega)) (Int.emod_lt_of_pos _ n0) ⟨fun x o h1 h2 e => by rw [upd_ne h1]; exact e, ne, _, [], upd_same, (mix31 _).1, (mix31 _).2, by rw [upd_ne (Ne.symm ne)]; exact hh, by simp⟩
theorem ab_at {z : Str} (hz : z.length ≤ 1000) {i : Int} (h0 : 0 ≤ i) (h : i < (z.length : Int)) : ∃ c, atI z.cps.toList i = some c := by
  have hl : (cs z).length = z.length := cs_len z
  have hi : i.toNat < (cs z).length := by omega
  exact ⟨(cs z)[i.toNat], at_g (by omega) (List.getElem?_eq_getElem hi)⟩
theorem join_len {ps : List Str} (h : ∀ y ∈ ps, y.length = 1) : (Txt.join "" ps).length = ps.length := by
  rw [← cs_len, cs_join, List.length_flatten]
  have e : ((ps.map cs).map List.length) = ps.map fun _ => 1 := by
    rw [List.map_map]
    exact List.map_congr_left fun y hy => by
      show (cs y).length = 1
      rw [cs_len]
      exact h y hy
  rw [e, sum_ones]
theorem sum_len {ps : List Str} (h : ∀ y ∈ ps, y.length = 1) : (ps.map (·.length)).sum = ps.length := by
  have e : (ps.map (·.length)) = ps.map fun _ => 1 := List.map_congr_left fun y hy => h y hy
  rw [e, sum_ones]
theorem ok_law_say (T : Txt K mg) : FnOk P w K mg base CX0 2 T.a_law_say T.d_law_say ["_law_box", "_law_most"] spSay := by
  refine T.F_law_say.ok sc_law_say (fun vs H Q E h => ?_) (fun cdv A outer s H vs Q E hr h => ?_)
  · obtain ⟨b, h, n, rfl, _⟩ := h
    rfl
  · obtain ⟨b, h, n, rfl, st, n0, n1, q⟩ := h
    refine ⟨_, (pss_cons (ps_set (i := 2) sc_law_say.nd rfl (Or.inr rfl) pe_str)
        (pss_cons (ps_set (i := 2) sc_law_say.nd rfl (Or.inr rfl) (pe_op op_addU (pv 2) pe_str))
        (pss_cons (ps_set (i := 3) sc_law_say.nd rfl (Or.inl rfl) (pe_op op_addU pe_int (pe_call (ok_law_pick T) hr (by rfl) T.g_law_pick T.F_law_pick.kp T.b_law_pick .nil pass0 (pa_cons (pv 0) (pa_cons (pv 1) pa_nil)))))
        (pss_cons (ps_if (pt_cmpR (op_eqU hr.units) (pe_call (ok_law_pick T) hr (by rfl) T.g_law_pick T.F_law_pick.kp T.b_law_pick .nil pass0 (pa_cons (pv 0) (pa_cons pe_int pa_nil))) pe_int (nomark _)) (pss_one (ps_ret (pe_join pe_str (pe_lc (own := [("_law_k", 4)]) (g := gName 4) rfl sc_law_say.nd (pi_range1 (by rfl) T.n_range (pa_cons (pv 3) pa_nil)) (blkOk_by (N := N_law_say) (sc := defScope s_law_say) (by decide +kernel)) (fun _ _ _ _ _ => pg_name (i := 4) sc_law_say.nd rfl (Or.inl rfl)) (fun _ _ _ _ _ => pts_nil) (fun _ _ _ _ _ => (pe_ix (k_ix (K := K) rfl) (pv 2) (pe_call (ok_law_pick T) hr (by rfl) T.g_law_pick T.F_law_pick.kp T.b_law_pick .nil pass0 (pa_cons (pv 0) (pa_cons pe_int pa_nil))) (fun _ _ => rfl))))))) pss_nil)
        (pss_one (ps_ret (pe_join pe_str (pe_lc (own := [("_law_k", 4)]) (g := gName 4) rfl sc_law_say.nd (pi_range1 (by rfl) T.n_range (pa_cons (pv 3) pa_nil)) (blkOk_by (N := N_law_say) (sc := defScope s_law_say) (by decide +kernel)) (fun _ _ _ _ _ => pg_name (i := 4) sc_law_say.nd rfl (Or.inl rfl)) (fun _ _ _ _ _ => pts_nil) (fun _ _ _ _ _ => (pe_ix (k_ix (K := K) rfl) pe_str (pe_call (ok_law_pick T) hr (by rfl) T.g_law_pick T.F_law_pick.kp T.b_law_pick .nil pass0 (pa_cons (pv 0) (pa_cons pe_int pa_nil))) (fun _ _ => rfl))))))))))), ?_⟩
    walk_at "rd"
    refine r_addS (by decide +kernel) ?_
    walk_at "rd"
    refine ⟨b, h, n, rfl, st, n0, by omega, fun d H1 d0 d1 D1 => ?_⟩
    walk_at "rd"
    refine ⟨b, h, 3, rfl, D1.st, by decide, by decide, fun e H2 e0 e1 D2 => ?_⟩
    have D := D1.trans D2
    walk_at "rd"
    refine r_ite (fun _ => ?_) (fun _ => ?_)
    · walk_at "rd"
      refine ⟨⟨_, rfl⟩, ?_⟩
      walk_at "rd"
      refine l_lcR (by omega) (by omega) (fun f i H' => ∃ ps : List Str, Dr2 b h H H' ∧ H' f = some (.lst (ps.map V.str)) ∧ ps.length = i ∧ ∀ y ∈ ps, y.length = 1) (fun f hf => ⟨[], D.new hf, upd_same, rfl, by simp⟩) (fun f i H' hf hi hP => ?_) (fun f H' hf hP => ?_)
      · obtain ⟨ps, D3, gf, hl, hy⟩ := hP
        have hf0 := D.fresh hf
        have nb := D.st.nb hf
        have nh := D.st.nh hf
        walk_at "rd"
        refine ⟨rfl, ?_⟩
        walk_at "rd"
        refine ⟨b, h, 95, rfl, D3.st, by decide, by decide, fun x H4 x0 x1 D4 => ?_⟩
        walk_at "rd"
        obtain ⟨c, hc⟩ := ab_at (z := "\n !\"#$&'()*+,-./0123456789:;<=>?@ABCDEFGHIJKLMNOPQRSTUVWXYZ[\\]^_`" ++ "abcdefghijklmnopqrstuvwxyz{|}~") (by decide +kernel) x0 (by
          have e : ("\n !\"#$&'()*+,-./0123456789:;<=>?@ABCDEFGHIJKLMNOPQRSTUVWXYZ[\\]^_`" ++ "abcdefghijklmnopqrstuvwxyz{|}~" : Str).length = 95 := by decide +kernel
          rw [e]
          exact x1)
        refine r_ixS (by decide +kernel) hc ?_
        refine ⟨ps.map V.str, D4.hh _ _ nb nh gf, by rw [List.length_map]; exact Nat.lt_of_le_of_lt (show ps.length ≤ 101 by omega) (by decide), ps ++ [⟨#[c]⟩], (D3.trans D4).mut hf0 nb nh, by rw [upd_same, List.map_append]; rfl, by rw [List.length_append, hl]; rfl, fun y hy' => ?_⟩
        rcases List.mem_append.mp hy' with h1 | h1
        · exact hy y h1
        · rw [List.mem_singleton.mp h1]; rfl
      · obtain ⟨ps, D3, gf, hl, hy⟩ := hP
        have hj := join_len hy
        refine ⟨"", f, ps, rfl, rfl, .inl (sqL gf), ?_, q _ _ (by omega) (by omega) D3⟩
        have hsum := sum_len hy
        have h5 : ("" : Str).length = 0 := rfl
        rw [h5, Nat.mul_zero, Nat.add_zero]
        omega
    · walk_at "rd"
      refine ⟨⟨_, rfl⟩, ?_⟩
      walk_at "rd"
      refine l_lcR (by omega) (by omega) (fun f i H' => ∃ ps : List Str, Dr2 b h H H' ∧ H' f = some (.lst (ps.map V.str)) ∧ ps.length = i ∧ ∀ y ∈ ps, y.length = 1) (fun f hf => ⟨[], D.new hf, upd_same, rfl, by simp⟩) (fun f i H' hf hi hP => ?_) (fun f H' hf hP => ?_)
      · obtain ⟨ps, D3, gf, hl, hy⟩ := hP
        have hf0 := D.fresh hf
        have nb := D.st.nb hf
        have nh := D.st.nh hf
        walk_at "rd"
        refine ⟨rfl, ?_⟩
        walk_at "rd"
        refine ⟨b, h, 5, rfl, D3.st, by decide, by decide, fun x H4 x0 x1 D4 => ?_⟩
        walk_at "rd"
        obtain ⟨c, hc⟩ := ab_at (z := "ab\nX ") (by decide +kernel) x0 (by
          have e : ("ab\nX " : Str).length = 5 := by decide +kernel
          rw [e]
          exact x1)
        refine r_ixS (by decide +kernel) hc ?_
        refine ⟨ps.map V.str, D4.hh _ _ nb nh gf, by rw [List.length_map]; exact Nat.lt_of_le_of_lt (show ps.length ≤ 101 by omega) (by decide), ps ++ [⟨#[c]⟩], (D3.trans D4).mut hf0 nb nh, by rw [upd_same, List.map_append]; rfl, by rw [List.length_append, hl]; rfl, fun y hy' => ?_⟩
        rcases List.mem_append.mp hy' with h1 | h1
        · exact hy y h1
        · rw [List.mem_singleton.mp h1]; rfl
      · obtain ⟨ps, D3, gf, hl, hy⟩ := hP
        have hj := join_len hy
        refine ⟨"", f, ps, rfl, rfl, .inl (sqL gf), ?_, q _ _ (by omega) (by omega) D3⟩
        have hsum := sum_len hy
        have h5 : ("" : Str).length = 0 := rfl
        rw [h5, Nat.mul_zero, Nat.add_zero]
        omega
end
end K26

namespace Tl
section
variable {L R : Nat → Sg} {sz : Nat → Nat} {n : Nat} {x y : Sg}
theorem ps_of_mark {j : Nat} (h : (marks sz n)[j]? = some x) : ps sz x = j := by
  have hj := (List.getElem?_eq_some_iff.mp h).1
  rw [marks_len] at hj
  obtain ⟨y, oy, e⟩ := sign_at hj
  have z := marks_at oy
  rw [e, h] at z
  rw [Option.some.inj z]
  exact e
theorem mark_first (o : Ok sz n x) : (marks sz n)[ps sz x]? = some x ∧ ∀ i, i < ps sz x → (marks sz n)[i]? ≠ some x :=
  ⟨marks_at o, fun i hi e => by
    have z := ps_of_mark e
    omega⟩
theorem off_le (h0 : sz 0 ≤ 2) (h : ∀ c, 0 < c → c < n → sz c ≤ 3) : ∀ m, m ≤ n → off sz m ≤ 3 * m
  | 0, _ => Nat.le_refl _
  | m + 1, hm => by
    have z := off_le h0 h m (by omega)
    show off sz m + sz m ≤ _
    by_cases e : m = 0
    · subst e
      omega
    · have := h m (by omega) (by omega)
      omega
theorem Ok.mono {m : Nat} (o : Ok sz n x) (h : n ≤ m) : Ok sz m x := ⟨Nat.lt_of_lt_of_le o.1 h, o.2⟩
theorem marks_one (h : sz 0 = 2) : marks sz 1 = [(0, 0), (0, 1)] := by
  show [] ++ rowOf sz 0 = _
  unfold rowOf
  rw [h]
  rfl
theorem bit_same {T : List Nat} {e : Nat × Nat} (h : put T e = T) (hl : e.1 < T.length) : ∀ c, c = e.2 ∨ Bit T e.2 c → Bit T e.1 c := fun c hc => by
  have z := (bit_put (T := T) hl (a := e.1) (b := c)).mpr (.inr ⟨rfl, hc⟩)
  rw [h] at z
  exact z
theorem put_eq {T : List Nat} {e : Nat × Nat} (hl : e.1 < T.length) (h : T.getD e.1 0 ||| 1 <<< e.2 ||| T.getD e.2 0 = T.getD e.1 0) : put T e = T := by
  unfold put
  rw [h]
  refine List.ext_getElem? fun i => ?_
  rw [List.getElem?_set]
  split
  · rename_i hi
    subst hi
    rw [List.getD_eq_getElem?_getD, List.getElem?_eq_getElem hl]
    rfl
  · rfl
theorem lap_snoc {S : List (Nat × Nat)} {T : List Nat} {e : Nat × Nat} : lap (S ++ [e]) T = put (lap S T) e := by
  unfold lap
  rw [List.foldl_append]
  rfl
/-! ### what is behind, what is ahead -/
def bh (T : List Nat) (j : Nat) : List Nat := (List.range T.length).filter fun k => (T.getD j 0).testBit k
def ah (T : List Nat) (j : Nat) : List Nat := (List.range T.length).filter fun k => (T.getD k 0).testBit j
def cl (T : List Nat) (j : Nat) : List Nat := (bh T j).filter fun k => ((bh T j).filter fun m => (T.getD m 0).testBit k).isEmpty
theorem mem_bh {T : List Nat} {j k : Nat} : k ∈ bh T j ↔ k < T.length ∧ Bit T j k := by
  unfold bh Bit
  rw [List.mem_filter, List.mem_range]
theorem mem_ah {T : List Nat} {j k : Nat} : k ∈ ah T j ↔ k < T.length ∧ Bit T k j := by
  unfold ah Bit
  rw [List.mem_filter, List.mem_range]
theorem cl_sub {T : List Nat} {j k : Nat} (h : k ∈ cl T j) : k ∈ bh T j := (List.mem_filter.mp h).1
/-- a row with a strict order has a least one -/
theorem least {lt : Nat → Nat → Prop} : ∀ (l : List Nat), l ≠ [] → (∀ a ∈ l, ∀ b ∈ l, ∀ c ∈ l, lt a b → lt b c → lt a c) → (∀ a ∈ l, ¬ lt a a) → ∃ k ∈ l, ∀ m ∈ l, ¬ lt m k := by
  intro l
  induction l with
  | nil => intro h; exact absurd rfl h
  | cons x r ih =>
    intro _ tr ir
    by_cases hr : r = []
    · subst hr
      refine ⟨x, List.mem_cons_self .., fun m hm => ?_⟩
      rw [List.mem_singleton.mp hm]
      exact ir x (List.mem_cons_self ..)
    · obtain ⟨k, hk, hm⟩ := ih hr (fun a ha b hb c hc => tr a (List.mem_cons_of_mem _ ha) b (List.mem_cons_of_mem _ hb) c (List.mem_cons_of_mem _ hc)) (fun a ha => ir a (List.mem_cons_of_mem _ ha))
      have hk' := List.mem_cons_of_mem x hk
      by_cases hx : lt x k
      · refine ⟨x, List.mem_cons_self .., fun m hm' hl => ?_⟩
        rcases List.mem_cons.mp hm' with rfl | hm2
        · exact ir _ (List.mem_cons_self ..) hl
        · exact hm m hm2 (tr m hm' x (List.mem_cons_self ..) k hk' hl hx)
      · refine ⟨k, hk', fun m hm' hl => ?_⟩
        rcases List.mem_cons.mp hm' with rfl | hm2
        · exact hx hl
        · exact hm m hm2 hl
theorem Tells.bit_lt {T : List Nat} (t : Tells L R sz n T) {a b : Nat} (ha : a < T.length) (hb : b < T.length) : ∃ x y, Ok sz n x ∧ Ok sz n y ∧ ps sz x = a ∧ ps sz y = b ∧ (Bit T a b ↔ A L R x y) := by
  rw [t.1] at ha hb
  obtain ⟨x, hx, rfl⟩ := sign_at ha
  obtain ⟨y, hy, rfl⟩ := sign_at hb
  exact ⟨x, y, hx, hy, rfl, rfl, t.2 x y hx hy⟩
theorem Tells.cl_ne {T : List Nat} (w : Wv L R sz n) (t : Tells L R sz n T) {j : Nat} (hj : j < T.length) (h : bh T j ≠ []) : cl T j ≠ [] := by
  obtain ⟨k, hk, hm⟩ := least (lt := fun a b => Bit T a b) (bh T j) h (fun a ha b hb c hc h1 h2 => by
    obtain ⟨x, y, ox, oy, ex, ey, i1⟩ := t.bit_lt (mem_bh.mp ha).1 (mem_bh.mp hb).1
    obtain ⟨y', z, oy', oz, ey', ez, i2⟩ := t.bit_lt (mem_bh.mp hb).1 (mem_bh.mp hc).1
    have e := ps_inj oy' oy (ey'.trans ey.symm)
    subst e
    have a3 := w.tr ox.1 oy.1 oz.1 (i1.mp h1) (i2.mp h2)
    have z := (t.2 x z ox oz).mpr a3
    rw [ex, ez] at z
    exact z) (fun a ha h1 => by
    obtain ⟨x, y, ox, oy, ex, ey, i1⟩ := t.bit_lt (mem_bh.mp ha).1 (mem_bh.mp ha).1
    have e := ps_inj ox oy (ex.trans ey.symm)
    subst e
    exact A.irr (i1.mp h1))
  refine List.ne_nil_of_mem (a := k) (List.mem_filter.mpr ⟨hk, ?_⟩)
  rw [List.isEmpty_iff, List.filter_eq_nil_iff]
  exact fun m hm' hb => hm m hm' hb
theorem Tells.bh0 {T : List Nat} (w : Wv L R sz n) (t : Tells L R sz n T) : bh T 0 ≠ [] ∧ 1 < T.length := by
  have n0 := w.n0
  have o0 : Ok sz n (0, 0) := ⟨n0, by show 0 < sz 0; rw [w.s0]; decide⟩
  have o1 : Ok sz n (0, 1) := ⟨n0, by show 1 < sz 0; rw [w.s0]; decide⟩
  have h1 := ps_lt o1
  have e1 : ps sz (0, 1) = 1 := rfl
  rw [e1, ← t.1] at h1
  have b : Bit T 0 1 := (t.2 (0, 0) (0, 1) o0 o1).mpr (.same rfl (by decide))
  exact ⟨List.ne_nil_of_mem (a := 1) (mem_bh.mpr ⟨h1, b⟩), h1⟩
end
end Tl
namespace Tl
theorem steps_le {L R : Nat → Sg} {sz : Nat → Nat} {n : Nat} (w : Wv L R sz n) : ∀ m, m < n → (steps L R sz m).length ≤ off sz (m + 1) + m
  | 0, _ => by
    show 1 ≤ (off sz 0 + sz 0) + 0
    rw [w.s0]
    show 1 ≤ 0 + 2 + 0
    omega
  | m + 1, h => by
    have z := steps_le w m (by omega)
    have s := w.s1 (m + 1) (by omega) h
    show (steps L R sz m ++ stepsOf L R sz (m + 1)).length ≤ (off sz (m + 1) + sz (m + 1)) + (m + 1)
    rw [List.length_append]
    have e : (stepsOf L R sz (m + 1)).length = sz (m + 1) - 1 + 2 := by
      unfold stepsOf
      simp
    rw [e]
    omega
end Tl

namespace K26
open PySem PySem.Spec PyProof.Rows L2 Dk Tl
/-- one step of a reading -/
local macro_rules | `(tactic| walk_at "rd1") => `(tactic| first
  | ((with_reducible refine r_var (v := ?rv) ?rh ?_); (case rh => rfl))
  | with_reducible refine r_c ?_
  | with_reducible refine r_seq ?_
  | with_reducible refine r_asg ?_
  | with_reducible refine r_par ?_
  | with_reducible refine r_gname ?_
  | with_reducible refine r_op ?_
  | with_reducible refine r_forLo ?_
  | with_reducible refine r_forTo ?_
  | with_reducible refine r_forSo ?_
  | with_reducible refine r_forRo ?_
  | with_reducible refine r_lcRo ?_
  | with_reducible refine r_lcLo ?_
  | with_reducible refine r_yes ?_
  | with_reducible refine r_callK0 ?_
  | with_reducible refine r_break ?_
  | with_reducible refine r_forR2o ?_
  | with_reducible refine r_forEo ?_
  | with_reducible refine r_forESo ?_
  | with_reducible refine r_xfo ?_
  | with_reducible refine r_noP ?_
  | with_reducible refine r_part ?_
  | with_reducible refine r_pI ?_
  | with_reducible refine r_gcons ?_
  | with_reducible refine r_gnil ?_
  | with_reducible refine r_mkO ?_
  | with_reducible refine r_un ?_
  | with_reducible refine r_addI ?_
  | with_reducible refine r_I0 ?_
  | with_reducible refine r_U ?_
  | with_reducible refine r_cons ?_
  | with_reducible refine r_nil ?_
  | with_reducible refine r_CB ?_
  | with_reducible refine r_call ?_
  | with_reducible refine r_callS ?_
  | with_reducible refine r_int ?_
  | with_reducible refine r_max ?_
  | with_reducible refine r_min ?_
  | with_reducible refine r_test ?_
  | with_reducible refine r_B ?_
  | with_reducible refine r_blv ?_
  | with_reducible refine r_and ?_
  | with_reducible refine r_or ?_
  | with_reducible refine r_not ?_
  | with_reducible refine r_andV ?_
  | with_reducible refine r_orV ?_
  | with_reducible refine r_notV ?_
  | with_reducible refine r_ifE ?_
  | with_reducible refine r_ifS ?_
  | with_reducible refine r_ret ?_
  | with_reducible refine r_retN ?_
  | with_reducible refine r_drop ?_
  | with_reducible refine r_next ?_
  | with_reducible refine r_sl ?_
  | with_reducible refine r_gsub ?_
  | with_reducible refine r_bm ?_
  | with_reducible refine r_tup ?_
  | with_reducible refine r_lst ?_
  | with_reducible refine r_isN ?_
  | with_reducible refine r_notN ?_
  | with_reducible refine r_itt ?_
  | with_reducible refine r_iff ?_
  | with_reducible refine r_ittN ?_
  | with_reducible refine r_iffN ?_
  | ((with_reducible refine r_ittD ?rh ?_); (case rh => rfl))
  | ((with_reducible refine r_iffD ?rh ?_); (case rh => rfl))
  | ((with_reducible refine r_modP ?rh ?_); (case rh => decide))
  | ((with_reducible refine r_eq ?rh ?_); (case rh => rfl))
  | ((with_reducible refine r_eqP ?rh ?_); (case rh => rfl))
  | ((with_reducible refine r_ne ?rh ?_); (case rh => rfl)))
local macro_rules | `(tactic| walk_at "rd") => `(tactic| repeat walk_at "rd1")
local macro_rules | `(tactic| walk_at "isi") => `(tactic| first | refine r_isi (b := true) (by assumption) (by decide +kernel) ?_ | refine r_isi (b := false) (by assumption) (by decide +kernel) ?_)
local macro_rules | `(tactic| walk_at "rs1") => `(tactic| first
  | with_reducible refine r_seq ?_
  | with_reducible refine r_asg ?_
  | with_reducible refine r_gname ?_
  | with_reducible refine r_ret ?_)
local macro_rules | `(tactic| walk_at "rs") => `(tactic| repeat walk_at "rs1")

section
variable {P : Program} {w : World} {K : PySem.W.Frag} {mg : Str → Option Value} {base : Heap}
theorem Brs.sz3 {G : Hp} {xs : List V} {L R : Nat → Sg} {sz : Nat → Nat} {n : Nat} (h : Brs G xs L R sz n) : ∀ c, 0 < c → c < n → sz c ≤ 3 := fun c h0 hc => by
  obtain ⟨x, hx⟩ : ∃ x, xs[c]? = some x := ⟨_, List.getElem?_eq_getElem (by rw [h.len]; exact hc)⟩
  obtain ⟨q, who, l, r, t, _, _, _, _, h5, h6⟩ := h.at_ c x hx
  rw [← h5 (decide_eq_true h0)]
  exact h6
theorem Brs.off_le {G : Hp} {xs : List V} {L R : Nat → Sg} {sz : Nat → Nat} {n : Nat} (h : Brs G xs L R sz n) {m : Nat} (hm : m ≤ n) : off sz m ≤ 750 := by
  have z := Tl.off_le (Nat.le_of_eq h.wv.s0) h.sz3 m hm
  have z2 := h.small
  omega
def spAll : Sp := fun vs H Q _ => ∃ (b : Addr) (L R : Nat → Sg) (sz : Nat → Nat) (n : Nat) (G : Hp), vs = [.ref b] ∧ Ex G H ∧ Wr G b L R sz n ∧ ∀ p G' H' xs, Gr A0 G H G' H' → H p = none → G' p = some (.lst xs) → SgL G' xs (marks sz n) → Q (.ref p) H'
theorem ok_law_all (T : Txt K mg) : FnOk P w K mg base CX0 1 T.a_law_all T.d_law_all ["_law_world_here"] spAll := by
  refine T.F_law_all.ok sc_law_all (fun vs H Q E h => ?_) (fun cdv A outer s H vs Q E hr h => ?_)
  · obtain ⟨b, L, R, sz, n, G, rfl, _⟩ := h
    rfl
  · obtain ⟨b, L, R, sz, n, G, rfl, e0, ⟨ws, hb, br⟩, q⟩ := h
    refine ⟨_, (pss_cons (ps_set (i := 1) sc_law_all.nd rfl (Or.inl rfl) (pe_lst (pa_cons (pe_tup (pa_cons pe_int (pa_cons pe_int pa_nil))) (pa_cons (pe_tup (pa_cons pe_int (pa_cons pe_int pa_nil))) pa_nil))))
        (pss_cons (ps_for PassesOwn.never rfl (pi_range2 (by rfl) T.n_range (pa_cons pe_int (pa_cons (pe_callB call_lenU (by rfl) T.n_len (by decide +kernel) (pa_cons (pv 0) pa_nil)) pa_nil))) (pg_name (i := 2) sc_law_all.nd rfl (Or.inl rfl)) (pss_one (ps_for PassesOwn.never rfl (pi_range1 (by rfl) T.n_range (pa_cons (pe_callB call_lenU (by rfl) T.n_len (by decide +kernel) (pa_cons (pe_ix ix_seq (pe_ix ix_seq (pv 0) (pv 2) (fun _ _ => rfl)) pe_int (fun _ _ => rfl)) pa_nil)) pa_nil)) (pg_name (i := 3) sc_law_all.nd rfl (Or.inl rfl)) (pss_one (ps_expr (pe_bm PySem.F.plainAttrs_list PySem.F.slot_list_append PySem.F.type_list_append mt_append (pv 1) (pa_cons (pe_tup (pa_cons (pv 2) (pa_cons (pv 3) pa_nil))) pa_nil)))))))
        (pss_one (ps_ret (pv 1))))), ?_⟩
    have bl := br.len
    have bn := br.small
    have w0 := br.wv.n0
    walk_at "rd"
    refine r_small nsz fun p1 n1 => ?_
    obtain ⟨G1, H1, k1, s1, h1⟩ := new_ex e0 n1 (.tup [.int 0, .int 0])
    rw [← k1]
    walk_at "rd"
    refine r_small nsz fun p2 n2 => ?_
    obtain ⟨G2, H2, k2, s2, h2⟩ := new_ex s1.gh n2 (.tup [.int 0, .int 1])
    rw [← k2]
    walk_at "rd"
    refine r_small nsz fun l n3 => ?_
    have B : Ls A0 G H l G2 (upd H2 l (.lst [.ref p1, .ref p2])) [.ref p1, .ref p2] := Ls.start (s1.trans s2) n3
    walk_at "rd"
    refine r_lenT (sqT (B.t.gh _ _ (B.t.gg _ _ hb))) ?_
    rw [bl]
    walk_at "rd"
    refine l_R1n (by omega) (by omega) (fun c σ H' => ∃ xs G' y1 y2, σ = [some (.ref b), some (.ref l), y1, y2] ∧ Ls A0 G H l G' H' xs ∧ SgL G' xs (marks sz c)) ⟨_, G2, none, none, rfl, B, ?_⟩ (fun c σ H' c1 c2 hW => ?_) (fun σ H' hW => ?_)
    · rw [marks_one br.wv.s0]
      exact .cons ⟨p1, rfl, s2.gg _ _ h1⟩ (.cons ⟨p2, rfl, h2⟩ .nil)
    · obtain ⟨xs, G', y1, y2, rfl, B', hS⟩ := hW
      obtain ⟨bv, hbv⟩ : ∃ bv, ws[c]? = some bv := ⟨_, List.getElem?_eq_getElem (by omega)⟩
      obtain ⟨q4, who, lv, rv, tx, rfl, hq4, hL, hR, ht, ht3⟩ := br.at_ _ _ hbv
      have hq4' := B'.t.gh _ _ (B'.t.gg _ _ hq4)
      have hsz := ht (decide_eq_true c1)
      walk_at "rd"
      refine r_ixT (sqT (B'.t.gh _ _ (B'.t.gg _ _ hb))) (atI_nat hbv) ?_
      walk_at "rd"
      refine r_ixT (sqT hq4') (atI_nat (j := 3) rfl) ?_
      walk_at "rd"
      refine r_lenS (by rw [sizeLine_eq]; omega) ?_
      walk_at "rd"
      refine l_R (by omega) (by omega) (fun i σ H' => ∃ xs G' y2, σ = [some (.ref b), some (.ref l), some (.int (c : Nat)), y2] ∧ Ls A0 G H l G' H' xs ∧ SgL G' xs (marks sz c ++ (List.range i).map fun k => (c, k))) ⟨xs, G', y2, rfl, B', by simpa using hS⟩ (fun i σ H2 hi hW => ?_) (fun σ H2 hW => ?_)
      · obtain ⟨xs, G', y2, rfl, B', hS⟩ := hW
        have hlen : xs.length ≤ 760 := by
          have z := hS.len
          rw [List.length_append, marks_len] at z
          have z2 := br.off_le (Nat.le_of_lt c2)
          simp at z
          omega
        walk_at "rd"
        refine r_tyL (sqL B'.own) ?_
        walk_at "rd"
        refine r_small nsz fun p5 n5 => ?_
        obtain ⟨G5, H5, k5, s5, h5⟩ := new_ex B'.t.gh n5 (.tup [.int (c : Nat), .int (i : Nat)])
        rw [← k5]
        have B5 := B'.step s5 id
        walk_at "rd"
        refine r_app B5.own (Nat.lt_of_le_of_lt hlen (by decide)) ?_
        walk_at "rd"
        refine ⟨_, G5, _, rfl, B5.put _, ?_⟩
        rw [List.range_succ, List.map_append, ← List.append_assoc]
        exact (hS.up s5.gg).snoc ⟨p5, rfl, h5⟩
      · obtain ⟨xs, G', y2, rfl, B', hS⟩ := hW
        rw [Int.toNat_natCast, hsz] at hS
        exact ⟨xs, G', _, _, rfl, B', hS⟩
    · obtain ⟨xs, G', y1, y2, rfl, B', hS⟩ := hW
      walk_at "rd"
      exact q l _ _ xs B'.give B'.hp upd_same (hS.up (Same.new (Same.refl G') B'.gp))
/-! ### the table -/
abbrev tbv (T : List Nat) : List V := T.map fun m => V.int (m : Nat)
theorem tb_at {T : List Nat} {a : Nat} (h : a < T.length) : (tbv T)[a]? = some (.int ((T.getD a 0 : Nat) : Int)) := by
  rw [List.getElem?_map, List.getElem?_eq_getElem h, List.getD_eq_getElem?_getD, List.getElem?_eq_getElem h]
  rfl
theorem tb_set {T : List Nat} {a m : Nat} : (tbv T).set a (.int (m : Nat)) = tbv (T.set a m) := by
  show (T.map fun m => V.int (m : Nat)).set a ((fun m : Nat => V.int (m : Nat)) m) = _
  exact (List.map_set ..).symm
theorem Gr.all {H H1 : Hp} (e : Ex H H1) : Gr A0 H H H1 H1 :=
  ⟨e, Same.refl _, fun b o _ h => e b o h, fun b o h => ⟨o, e b o h⟩, fun b o h h' => absurd h' (by rw [h]; exact fun z => nomatch z)⟩
def spClosed : Sp := fun vs H Q _ => ∃ (b : Addr) (L R : Nat → Sg) (sz : Nat → Nat) (n : Nat), vs = [.ref b] ∧ Wr H b L R sz n ∧ ∀ p H' T, Ex H H' → H p = none → H' p = some (.lst (tbv T)) → Tells L R sz n T → Q (.ref p) H'
theorem ok_law_closed (T : Txt K mg) : FnOk P w K mg base CX0 2 T.a_law_closed T.d_law_closed ["_law_world_here"] spClosed := by
  refine T.F_law_closed.ok sc_law_closed (fun vs H Q E h => ?_) (fun cdv A outer s H vs Q E hr h => ?_)
  · obtain ⟨b, L, R, sz, n, rfl, _⟩ := h
    rfl
  · obtain ⟨b, L, R, sz, n, rfl, ⟨ws, hb, br⟩, q⟩ := h
    refine ⟨_, (pss_cons (ps_set (i := 1) sc_law_closed.nd rfl (Or.inl rfl) (pe_call (ok_law_all T) hr (by rfl) T.g_law_all T.F_law_all.kp T.b_law_all .nil pass0 (pa_cons (pv 0) pa_nil)))
        (pss_cons (ps_set (i := 2) sc_law_closed.nd rfl (Or.inl rfl) (pe_lst (pa_cons (pe_tup (pa_cons pe_int (pa_cons pe_int pa_nil))) pa_nil)))
        (pss_cons (ps_for PassesOwn.never rfl (pi_range2 (by rfl) T.n_range (pa_cons pe_int (pa_cons (pe_callB call_lenU (by rfl) T.n_len (by decide +kernel) (pa_cons (pv 0) pa_nil)) pa_nil))) (pg_name (i := 3) sc_law_closed.nd rfl (Or.inl rfl)) (pss_cons (ps_set (i := 4) sc_law_closed.nd rfl (Or.inl rfl) (pe_callB call_lenU (by rfl) T.n_len (by decide +kernel) (pa_cons (pe_ix ix_seq (pe_ix ix_seq (pv 0) (pv 3) (fun _ _ => rfl)) pe_int (fun _ _ => rfl)) pa_nil)))
        (pss_cons (ps_set (i := 5) sc_law_closed.nd rfl (Or.inl rfl) (pe_bm PySem.F.plainAttrs_list PySem.F.slot_list_index PySem.F.type_list_index (mt_indexD hr.units65) (pv 1) (pa_cons (pe_tup (pa_cons (pv 3) (pa_cons pe_int pa_nil))) pa_nil)))
        (pss_cons (ps_expr (pe_bm PySem.F.plainAttrs_list PySem.F.slot_list_append PySem.F.type_list_append mt_append (pv 2) (pa_cons (pe_tup (pa_cons (pe_bm PySem.F.plainAttrs_list PySem.F.slot_list_index PySem.F.type_list_index (mt_indexD hr.units65) (pv 1) (pa_cons (pe_ix ix_seq (pe_ix ix_seq (pv 0) (pv 3) (fun _ _ => rfl)) pe_int (fun _ _ => rfl)) pa_nil)) (pa_cons (pv 5) pa_nil))) pa_nil)))
        (pss_cons (ps_for PassesOwn.never rfl (pi_range1 (by rfl) T.n_range (pa_cons (pe_op op_sub (pv 4) pe_int) pa_nil)) (pg_name (i := 6) sc_law_closed.nd rfl (Or.inl rfl)) (pss_one (ps_expr (pe_bm PySem.F.plainAttrs_list PySem.F.slot_list_append PySem.F.type_list_append mt_append (pv 2) (pa_cons (pe_tup (pa_cons (pe_op op_addU (pv 5) (pv 6)) (pa_cons (pe_op op_addU (pe_op op_addU (pv 5) (pv 6)) pe_int) pa_nil))) pa_nil)))))
        (pss_one (ps_expr (pe_bm PySem.F.plainAttrs_list PySem.F.slot_list_append PySem.F.type_list_append mt_append (pv 2) (pa_cons (pe_tup (pa_cons (pe_op op_sub (pe_op op_addU (pv 5) (pv 4)) pe_int) (pa_cons (pe_bm PySem.F.plainAttrs_list PySem.F.slot_list_index PySem.F.type_list_index (mt_indexD hr.units65) (pv 1) (pa_cons (pe_ix ix_seq (pe_ix ix_seq (pv 0) (pv 3) (fun _ _ => rfl)) pe_int (fun _ _ => rfl)) pa_nil)) pa_nil))) pa_nil)))))))))
        (pss_cons (ps_setLc (i := 7) (own := [("_law_k", 13)]) (g := gName 13) rfl sc_law_closed.nd rfl rfl (sw_true rfl rfl rfl (by decide +kernel)) (pi_list (pv 1)) (blkOk_by (N := N_law_closed) (sc := defScope s_law_closed) (by decide +kernel)) (fun _ _ _ _ _ => pg_name (i := 13) sc_law_closed.nd rfl (Or.inl rfl)) (fun _ _ _ _ _ => pts_nil) (fun _ _ _ _ _ => pe_int))
        (pss_cons (ps_for PassesOwn.never rfl (pi_range1 (by rfl) T.n_range (pa_cons (pe_op op_addU (pe_callB call_lenU (by rfl) T.n_len (by decide +kernel) (pa_cons (pv 2) pa_nil)) pe_int) pa_nil)) (pg_name (i := 8) sc_law_closed.nd rfl (Or.inl rfl)) (pss_cons (ps_set (i := 9) sc_law_closed.nd rfl (Or.inl rfl) pe_bl)
        (pss_cons (ps_for PassesOwn.never rfl (pi_list (pv 2)) (pg_tup rfl (pgs_cons (pg_name (i := 10) sc_law_closed.nd rfl (Or.inl rfl)) (pgs_cons (pg_name (i := 11) sc_law_closed.nd rfl (Or.inl rfl)) pgs_nil))) (pss_cons (ps_set (i := 12) sc_law_closed.nd rfl (Or.inl rfl) (pe_op op_or (pe_op op_or (pe_ix ix_seq (pv 7) (pv 10) (fun _ _ => rfl)) (pe_op op_shl pe_int (pv 11))) (pe_ix ix_seq (pv 7) (pv 11) (fun _ _ => rfl))))
        (pss_one (ps_if (pt_cmpR (op_neU hr.units) (pv 12) (pe_ix ix_seq (pv 7) (pv 10) (fun _ _ => rfl)) (nomark _)) (pss_cons (ps_asg (pv 12) (pg_sub (pv 7) (pv 10) set_list))
        (pss_one (ps_set (i := 9) sc_law_closed.nd rfl (Or.inl rfl) pe_bl))) pss_nil))))
        (pss_one (ps_if (pt_val (pv 9)) (pss_one ps_break) pss_nil)))))
        (pss_one (ps_ret (pv 7)))))))), ?_⟩
    have e0 := Same.refl H
    have bl := br.len
    have bn := br.small
    have w0 := br.wv.n0
    have wv := br.wv
    walk_at "rd"
    refine ⟨b, L, R, sz, n, H, rfl, e0, ⟨ws, hb, br⟩, fun m G1 H1 ms t1 _ hm hms => ?_⟩
    walk_at "rd"
    refine r_small nsz fun p2 n2 => ?_
    obtain ⟨G2, H2, k2, s2, h2⟩ := new_ex t1.gh n2 (.tup [.int 0, .int 1])
    rw [← k2]
    walk_at "rd"
    refine r_small nsz fun l n3 => ?_
    have B : Ls A0 H H l G2 (upd H2 l (.lst [.ref p2])) [.ref p2] := Ls.start (t1.trans s2) n3
    have stl : ∀ c, c ≤ n → 1 ≤ c → (steps L R sz (c - 1)).length ≤ 1000 := fun c h1 h2 => by
      have z := steps_le wv (c - 1) (by omega)
      have z2 := br.off_le (m := c - 1 + 1) (by omega)
      omega
    have hmG : ∀ {G'}, Ex G2 G' → G' m = some (.lst ms) := fun e => e _ _ (s2.gg _ _ hm)
    have msG : ∀ {G'}, Ex G2 G' → SgL G' ms (marks sz n) := fun e => hms.up (s2.gg.trans e)
    walk_at "rd"
    refine r_lenT (sqT (B.t.gh _ _ (B.t.gg _ _ hb))) ?_
    rw [bl]
    walk_at "rd"
    refine l_R1n (by omega) (by omega) (fun c σ H' => ∃ xs G' y1 y2 y3 y4, σ = [some (.ref b), some (.ref m), some (.ref l), y1, y2, y3, y4, none, none, none, none, none, none, none] ∧ Ls A0 H H l G' H' xs ∧ Ex G2 G' ∧ SgL G' xs (steps L R sz (c - 1))) ⟨_, G2, none, none, none, none, rfl, B, Same.refl _, .cons ⟨p2, rfl, h2⟩ .nil⟩ (fun c σ H' c1 c2 hW => ?_) (fun σ H' hW => ?_)
    · obtain ⟨xs, G', y1, y2, y3, y4, rfl, B', eG, hS⟩ := hW
      obtain ⟨bv, hbv⟩ : ∃ bv, ws[c]? = some bv := ⟨_, List.getElem?_eq_getElem (by omega)⟩
      obtain ⟨q4, who, lv, rv, tx, rfl, hq4, hL, hR, ht, ht3⟩ := br.at_ _ _ hbv
      have hsz := ht (decide_eq_true c1)
      have sz1 := wv.s1 c c1 c2
      have hlen : xs.length ≤ 1010 := by
        have z := hS.len
        have z2 := stl c (by omega) c1
        omega
      walk_at "rd"
      refine r_ixT (sqT (B'.t.gh _ _ (B'.t.gg _ _ hb))) (atI_nat hbv) ?_
      walk_at "rd"
      refine r_ixT (sqT (B'.t.gh _ _ (B'.t.gg _ _ hq4))) (atI_nat (j := 3) rfl) ?_
      walk_at "rd"
      refine r_lenS (by rw [sizeLine_eq]; omega) ?_
      walk_at "rd"
      refine r_tyL (sqL (B'.t.gh _ _ (hmG eG))) ?_
      walk_at "rd"
      refine r_small nsz fun p5 n5 => ?_
      obtain ⟨G5, H5, k5, s5, h5⟩ := new_ex B'.t.gh n5 (.tup [.int (c : Nat), .int 0])
      rw [← k5]
      have B5 := B'.step s5 id
      have eG5 := eG.trans s5.gg
      have okc : Ok sz n (c, 0) := ⟨c2, sz1⟩
      walk_at "rd"
      refine r_indexSg (sqL (B5.t.gh _ _ (hmG eG5))) ((msG eG5).up B5.t.gh) ((show SgV G5 (.ref p5) (c, 0) from ⟨p5, rfl, h5⟩).up B5.t.gh) (mark_first okc).1 (mark_first okc).2 ?_
      rw [show ps sz (c, 0) = off sz c from rfl]
      walk_at "rd"
      refine r_tyL (sqL B5.own) ?_
      walk_at "rd"
      refine r_tyL (sqL (B5.t.gh _ _ (hmG eG5))) ?_
      walk_at "rd"
      refine r_ixT (sqT (B5.t.gh _ _ (B5.t.gg _ _ hb))) (atI_nat hbv) ?_
      walk_at "rd"
      refine r_ixT (sqT (B5.t.gh _ _ (B5.t.gg _ _ hq4))) (atI_nat (j := 1) rfl) ?_
      walk_at "rd"
      have okl := wv.okL c1 c2
      refine r_indexSg (sqL (B5.t.gh _ _ (hmG eG5))) ((msG eG5).up B5.t.gh) (hL.up (B5.t.g0)) (mark_first okl).1 (mark_first okl).2 ?_
      walk_at "rd"
      refine r_small nsz fun p6 n6 => ?_
      obtain ⟨G6, H6, k6, s6, h6⟩ := new_ex B5.t.gh n6 (.tup [.int (ps sz (L c) : Nat), .int (off sz c : Nat)])
      rw [← k6]
      have B6 := B5.step s6 id
      have eG6 := eG5.trans s6.gg
      walk_at "rd"
      refine r_app B6.own (Nat.lt_of_le_of_lt hlen (by decide)) ?_
      walk_at "rd"
      have B7 := B6.put (xs ++ [.ref p6])
      have S7 : SgL G6 (xs ++ [.ref p6]) (steps L R sz (c - 1) ++ [(ps sz (L c), off sz c)]) := ((hS.up s5.gg).up s6.gg).snoc ⟨p6, rfl, h6⟩
      refine l_R (by omega) (by omega) (fun i σ H' => ∃ xs G' y4, σ = [some (.ref b), some (.ref m), some (.ref l), some (.int (c : Nat)), some (.int (tx.length : Nat)), some (.int (off sz c : Nat)), y4, none, none, none, none, none, none, none] ∧ Ls A0 H H l G' H' xs ∧ Ex G2 G' ∧
        SgL G' xs (steps L R sz (c - 1) ++ [(ps sz (L c), off sz c)] ++ (List.range i).map fun k => (off sz c + k, off sz c + k + 1))) ⟨_, G6, y4, rfl, B7, eG6, by simpa using S7⟩ (fun i σ H2 hi hW => ?_) (fun σ H2 hW => ?_)
      · obtain ⟨xs, G', y4, rfl, B', eG, hS⟩ := hW
        have hlen : xs.length ≤ 1010 := by
          have z := hS.len
          have z2 := stl c (by omega) c1
          have z3 := br.sz3 c c1 c2
          simp only [List.length_append, List.length_map, List.length_range, List.length_cons, List.length_nil] at z
          omega
        walk_at "rd"
        refine r_tyL (sqL B'.own) ?_
        walk_at "rd"
        refine r_small nsz fun p5 n5 => ?_
        obtain ⟨G5, H5, k5, s5, h5⟩ := new_ex B'.t.gh n5 (.tup [.int (off sz c + i : Nat), .int (off sz c + i + 1 : Nat)])
        rw [show (HO.tup [V.int ((off sz c : Nat) + (i : Nat) : Int), V.int ((off sz c : Nat) + (i : Nat) + 1 : Int)]) = .tup [.int (off sz c + i : Nat), .int (off sz c + i + 1 : Nat)] from rfl, ← k5]
        have B5 := B'.step s5 id
        walk_at "rd"
        refine r_app B5.own (Nat.lt_of_le_of_lt hlen (by decide)) ?_
        walk_at "rd"
        refine ⟨_, G5, _, rfl, B5.put _, eG.trans s5.gg, ?_⟩
        rw [List.range_succ, List.map_append, ← List.append_assoc]
        exact (hS.up s5.gg).snoc ⟨p5, rfl, h5⟩
      · obtain ⟨xs, G', y4, rfl, B', eG, hS⟩ := hW
        have hlen : xs.length ≤ 1010 := by
          have z := hS.len
          have z2 := stl c (by omega) c1
          have z3 := br.sz3 c c1 c2
          simp only [List.length_append, List.length_map, List.length_range, List.length_cons, List.length_nil] at z
          omega
        walk_at "rd"
        refine r_tyL (sqL B'.own) ?_
        walk_at "rd"
        refine r_tyL (sqL (B'.t.gh _ _ (hmG eG))) ?_
        walk_at "rd"
        refine r_ixT (sqT (B'.t.gh _ _ (B'.t.gg _ _ hb))) (atI_nat hbv) ?_
        walk_at "rd"
        refine r_ixT (sqT (B'.t.gh _ _ (B'.t.gg _ _ hq4))) (atI_nat (j := 2) rfl) ?_
        walk_at "rd"
        have okr := wv.okR c1 c2
        refine r_indexSg (sqL (B'.t.gh _ _ (hmG eG))) ((msG eG).up B'.t.gh) (hR.up (B'.t.g0)) (mark_first okr).1 (mark_first okr).2 ?_
        walk_at "rd"
        refine r_small nsz fun p6 n6 => ?_
        obtain ⟨G6, H6, k6, s6, h6⟩ := new_ex B'.t.gh n6 (.tup [.int (off sz c + sz c - 1 : Nat), .int (ps sz (R c) : Nat)])
        have ev : ((off sz c : Nat) + (tx.length : Nat) - 1 : Int) = ((off sz c + sz c - 1 : Nat) : Int) := by omega
        rw [ev, ← k6]
        have B6 := B'.step s6 id
        walk_at "rd"
        refine r_app B6.own (Nat.lt_of_le_of_lt hlen (by decide)) ?_
        walk_at "rd"
        refine ⟨_, G6, _, _, _, _, rfl, B6.put _, eG.trans s6.gg, ?_⟩
        have e2 : ((tx.length : Nat) - 1 : Int).toNat = sz c - 1 := by omega
        rw [e2] at hS
        have e3 : steps L R sz (c + 1 - 1) = steps L R sz (c - 1) ++ [(ps sz (L c), off sz c)] ++ ((List.range (sz c - 1)).map fun k => (off sz c + k, off sz c + k + 1)) ++ [(off sz c + sz c - 1, ps sz (R c))] := by
          obtain ⟨d, rfl⟩ : ∃ d, c = d + 1 := ⟨c - 1, by omega⟩
          show steps L R sz d ++ stepsOf L R sz (d + 1) = steps L R sz d ++ _ ++ _ ++ _
          unfold stepsOf
          simp
        rw [e3]
        exact (hS.up s6.gg).snoc ⟨p6, rfl, h6⟩
    · obtain ⟨xs, G', y1, y2, y3, y4, rfl, B', eG, hS⟩ := hW
      have hS3 := stl n (Nat.le_refl _) w0
      have hSl := hS.len
      have t3 := B'.give
      obtain ⟨G3, hG3⟩ : ∃ G3, G3 = upd G' l (.lst xs) := ⟨_, rfl⟩
      rw [← hG3] at t3
      have eG3 : Ex G' G3 := fun b o e => by
        rw [hG3, upd_ne (ne_of_none e B'.gp)]
        exact e
      have h3l : G3 l = some (.lst xs) := by rw [hG3, upd_same]
      have hS' := hS.up eG3
      have mlen : ms.length = off sz n := by rw [hms.len, marks_len]
      have off1 := br.off_le (Nat.le_refl n)
      walk_at "rd"
      refine l_lcL (sqL (B'.t.gh _ _ (hmG eG))) (fun D i H2 => Ls A0 H H D G3 H2 (tbv (List.replicate i 0))) (fun D hD => Ls.start t3 hD) (fun D i H2 hP => sqL (hP.t.gh _ _ (eG3 _ _ (hmG eG)))) (fun D i x H2 hD hx hP => ?_) (fun t H2 hD hP => ?_)
      · have hi := (List.getElem?_eq_some_iff.mp hx).1
        walk_at "rd"
        refine ⟨rfl, ?_⟩
        walk_at "rd"
        refine ⟨_, hP.own, by rw [List.length_map, List.length_replicate]; exact Nat.lt_of_le_of_lt (show i ≤ 1000 by omega) (by decide), ?_⟩
        have z := hP.put (tbv (List.replicate (i + 1) 0))
        have e : tbv (List.replicate (i + 1) 0) = tbv (List.replicate i 0) ++ [V.int 0] := by
          rw [List.replicate_succ']
          exact List.map_append ..
        rw [e] at z ⊢
        exact z
      · walk_at "rd"
        refine r_lenL (sqL (hP.t.gh _ _ h3l)) ?_
        walk_at "rd"
        refine l_R (by omega) (by omega) (fun i σ H' => ∃ T z1 z2 z3 z4 z5, σ = [some (.ref b), some (.ref m), some (.ref l), y1, y2, y3, y4, some (.ref t), z1, z2, z3, z4, z5, none] ∧ Ls A0 H H t G3 H' (tbv T) ∧ Under L R sz n T i) ⟨_, none, none, none, none, none, rfl, hP, by rw [mlen]; exact Under.zero⟩ (fun i σ H' hi hW => ?_) (fun σ H' hW => ?_)
        · obtain ⟨T, z1, z2, z3, z4, z5, rfl, B4, u⟩ := hW
          walk_at "rd"
          refine l_L (sqL (B4.t.gh _ _ h3l)) (fun j σ H' => ∃ T1 st z3 z4 z5, σ = [some (.ref b), some (.ref m), some (.ref l), y1, y2, y3, y4, some (.ref t), some (.int (i : Nat)), some (.bl st), z3, z4, z5, none] ∧ Ls A0 H H t G3 H' (tbv T1) ∧ T1 = lap ((steps L R sz (n - 1)).take j) T ∧
            (st = true → T1 = T ∧ ∀ i e, i < j → (steps L R sz (n - 1))[i]? = some e → put T e = T)) ⟨T, true, z3, z4, z5, rfl, B4, rfl, fun _ => ⟨rfl, fun i e hi => absurd hi (Nat.not_lt_zero _)⟩⟩ (fun j σ H' hW => ?_) (fun j x σ H' hx hW => ?_) (fun σ H' hW => ?_)
          · obtain ⟨_, _, _, _, _, _, B5, _⟩ := hW
            exact sqL (B5.t.gh _ _ h3l)
          · obtain ⟨T1, st, z3, z4, z5, rfl, B5, hT, hst⟩ := hW
            obtain ⟨e, he, p, rfl, hp⟩ := hS'.get hx
            have hem := List.mem_of_getElem? he
            have hlt := step_lt wv (a := e.1) (b := e.2) hem
            have T1l : T1.length = off sz n := by rw [hT, lap_len, u.len]
            have ha : e.1 < T1.length := by omega
            have hb2 : e.2 < T1.length := by omega
            have hput : put T1 e = lap ((steps L R sz (n - 1)).take (j + 1)) T := by
              rw [hT, ← lap_snoc, List.take_add_one, he]
              rfl
            refine r_gtup (sqT (B5.t.gh _ _ hp)) rfl ?_
            walk_at "rd"
            refine r_ixL (sqL B5.own) (atI_nat (tb_at ha)) ?_
            walk_at "rd"
            refine r_I ⟨by omega, by omega, by decide⟩ ?_
            walk_at "rd"
            refine r_ixL (sqL B5.own) (atI_nat (tb_at hb2)) ?_
            walk_at "rd"
            rw [or_val]
            walk_at "rd"
            refine r_ixL (sqL B5.own) (atI_nat (tb_at ha)) ?_
            walk_at "rd"
            refine r_iteN (fun hn => ?_) (fun heq => ?_)
            · walk_at "rd"
              refine r_setL B5.own (ixN_nat (by omega) (by rw [List.length_map]; omega)) ?_
              walk_at "rd"
              refine ⟨put T1 e, false, _, _, _, rfl, ?_, hput, fun z => nomatch z⟩
              rw [Int.toNat_natCast, tb_set]
              exact B5.put _
            · have hpe : put T1 e = T1 := put_eq ha (by
                have z := V.int.inj heq
                omega)
              walk_at "rd"
              refine ⟨T1, st, _, _, _, rfl, B5, by rw [← hput, hpe], fun hs => ?_⟩
              obtain ⟨h1, h2⟩ := hst hs
              refine ⟨h1, fun i' e' hi' he' => ?_⟩
              by_cases hij : i' < j
              · exact h2 i' e' hij he'
              · have e4 : i' = j := by omega
                rw [e4, he] at he'
                rw [← Option.some.inj he', ← h1]
                exact hpe
          · obtain ⟨T1, st, z3, z4, z5, rfl, B5, hT, hst⟩ := hW
            rw [hSl, List.take_length] at hT
            walk_at "rd"
            refine r_iteB (fun hs => ?_) (fun hs => ?_)
            · refine r_break ?_
              walk_at "rd"
              obtain ⟨h1, h2⟩ := hst hs
              subst h1
              refine q t H' T1 B5.t.g0 B5.hp B5.own (u.still wv fun a b' c' hab hc => ?_)
              obtain ⟨i', hi'⟩ := List.getElem?_of_mem hab
              have hlt := step_lt wv (a := a) (b := b') hab
              have hi2 := (List.getElem?_eq_some_iff.mp hi').1
              exact bit_same (e := (a, b')) (h2 i' _ (by rw [hSl]; exact hi2) hi') (by rw [u.len]; exact hlt.1) c' hc
            · walk_at "rd"
              refine ⟨T1, _, _, _, _, _, rfl, B5, ?_⟩
              rw [hT]
              exact u.lap wv
        · obtain ⟨T, z1, z2, z3, z4, z5, rfl, B4, u⟩ := hW
          walk_at "rd"
          refine q t H' T B4.t.g0 B4.hp B4.own (u.done wv ?_)
          have z := steps_len wv
          omega
end
end K26

namespace K26
open PySem PySem.Spec PyProof.Rows L2 Dk Tl
/-- one step of a reading -/
local macro_rules | `(tactic| walk_at "rd1") => `(tactic| first
  | ((with_reducible refine r_var (v := ?rv) ?rh ?_); (case rh => rfl))
  | with_reducible refine r_c ?_
  | with_reducible refine r_seq ?_
  | with_reducible refine r_asg ?_
  | with_reducible refine r_par ?_
  | with_reducible refine r_gname ?_
  | with_reducible refine r_op ?_
  | with_reducible refine r_forLo ?_
  | with_reducible refine r_forTo ?_
  | with_reducible refine r_forSo ?_
  | with_reducible refine r_forRo ?_
  | with_reducible refine r_lcRo ?_
  | with_reducible refine r_lcLo ?_
  | with_reducible refine r_yes ?_
  | with_reducible refine r_callK0 ?_
  | with_reducible refine r_break ?_
  | with_reducible refine r_forR2o ?_
  | with_reducible refine r_forEo ?_
  | with_reducible refine r_forESo ?_
  | with_reducible refine r_xfo ?_
  | with_reducible refine r_noP ?_
  | with_reducible refine r_part ?_
  | with_reducible refine r_pI ?_
  | with_reducible refine r_gcons ?_
  | with_reducible refine r_gnil ?_
  | with_reducible refine r_mkO ?_
  | with_reducible refine r_un ?_
  | with_reducible refine r_addI ?_
  | with_reducible refine r_I0 ?_
  | with_reducible refine r_U ?_
  | with_reducible refine r_cons ?_
  | with_reducible refine r_nil ?_
  | with_reducible refine r_CB ?_
  | with_reducible refine r_call ?_
  | with_reducible refine r_callS ?_
  | with_reducible refine r_int ?_
  | with_reducible refine r_max ?_
  | with_reducible refine r_min ?_
  | with_reducible refine r_test ?_
  | with_reducible refine r_B ?_
  | with_reducible refine r_blv ?_
  | with_reducible refine r_and ?_
  | with_reducible refine r_or ?_
  | with_reducible refine r_not ?_
  | with_reducible refine r_andV ?_
  | with_reducible refine r_orV ?_
  | with_reducible refine r_notV ?_
  | with_reducible refine r_ifE ?_
  | with_reducible refine r_ifS ?_
  | with_reducible refine r_ret ?_
  | with_reducible refine r_retN ?_
  | with_reducible refine r_drop ?_
  | with_reducible refine r_next ?_
  | with_reducible refine r_sl ?_
  | with_reducible refine r_gsub ?_
  | with_reducible refine r_bm ?_
  | with_reducible refine r_tup ?_
  | with_reducible refine r_lst ?_
  | with_reducible refine r_isN ?_
  | with_reducible refine r_notN ?_
  | with_reducible refine r_itt ?_
  | with_reducible refine r_iff ?_
  | with_reducible refine r_ittN ?_
  | with_reducible refine r_iffN ?_
  | ((with_reducible refine r_ittD ?rh ?_); (case rh => rfl))
  | ((with_reducible refine r_iffD ?rh ?_); (case rh => rfl))
  | ((with_reducible refine r_modP ?rh ?_); (case rh => decide))
  | ((with_reducible refine r_eq ?rh ?_); (case rh => rfl))
  | ((with_reducible refine r_eqP ?rh ?_); (case rh => rfl))
  | ((with_reducible refine r_ne ?rh ?_); (case rh => rfl)))
local macro_rules | `(tactic| walk_at "rd") => `(tactic| repeat walk_at "rd1")
local macro_rules | `(tactic| walk_at "isi") => `(tactic| first | refine r_isi (b := true) (by assumption) (by decide +kernel) ?_ | refine r_isi (b := false) (by assumption) (by decide +kernel) ?_)
local macro_rules | `(tactic| walk_at "rs1") => `(tactic| first
  | with_reducible refine r_seq ?_
  | with_reducible refine r_asg ?_
  | with_reducible refine r_gname ?_
  | with_reducible refine r_ret ?_)
local macro_rules | `(tactic| walk_at "rs") => `(tactic| repeat walk_at "rs1")

section
variable {P : Program} {w : World} {K : PySem.W.Frag} {mg : Str → Option Value} {base : Heap}
def spRowOf (f : List Nat → Nat → List Nat) : Sp := fun vs H Q _ => ∃ (t : Addr) (T : List Nat) (j : Nat), vs = [.ref t, .int (j : Nat)] ∧ H t = some (.lst (tbv T)) ∧ j < T.length ∧ T.length ≤ 1000 ∧ ∀ p H', Ex H H' → H p = none → H' p = some (.lst (tbv (f T j))) → Q (.ref p) H'
theorem filter_take {f : Nat → Bool} {n i : Nat} : (List.range (i + 1)).filter f = (List.range i).filter f ++ (if f i then [i] else []) := by
  rw [List.range_succ, List.filter_append]
  congr 1
  cases h : f i <;> simp [h]
theorem filter_len {f : Nat → Bool} {i : Nat} : ((List.range i).filter f).length ≤ i := Nat.le_trans (List.length_filter_le ..) (by simp)
theorem ok_law_behind (T : Txt K mg) : FnOk P w K mg base CX0 1 T.a_law_behind T.d_law_behind ["_law_table", "_law_j"] (spRowOf bh) := by
  refine T.F_law_behind.ok sc_law_behind (fun vs H Q E h => ?_) (fun cdv A outer s H vs Q E hr h => ?_)
  · obtain ⟨t, U, j, rfl, _⟩ := h
    rfl
  · obtain ⟨t, U, j, rfl, ht, hj, hl, q⟩ := h
    refine ⟨_, (pss_one (ps_ret (pe_lc (own := [("_law_k", 2)]) (g := gName 2) rfl sc_law_behind.nd (pi_range1 (by rfl) T.n_range (pa_cons (pe_callB call_lenU (by rfl) T.n_len (by decide +kernel) (pa_cons (pv 0) pa_nil)) pa_nil)) (blkOk_by (N := N_law_behind) (sc := defScope s_law_behind) (by decide +kernel)) (fun _ _ _ _ _ => pg_name (i := 2) sc_law_behind.nd rfl (Or.inl rfl)) (fun _ _ _ _ _ => (pts_one (pt_cmpR (k_eqU (K := K) rfl hr.units) (pe_op op_and (pe_op op_shr (pe_ix (k_ix (K := K) rfl) (pv 0) (pv 1) (fun _ _ => rfl)) (pv 2)) pe_int) pe_int (nomark _)))) (fun _ _ _ _ _ => (pv 2))))), ?_⟩
    walk_at "rd"
    refine r_lenL (sqL ht) ?_
    walk_at "rd"
    rw [List.length_map]
    refine l_lcR (by omega) (by omega) (fun D i H' => Ex H H' ∧ H' D = some (.lst (tbv ((List.range i).filter fun k => (U.getD j 0).testBit k)))) (fun D hD => ⟨Same.new (Same.refl H) hD, upd_same⟩) (fun D i H' hD hi hP => ?_) (fun D H' hD hP => ?_)
    · obtain ⟨e, hd⟩ := hP
      walk_at "rd"
      refine ⟨rfl, ?_⟩
      walk_at "rd"
      refine r_ixL (sqL (e _ _ ht)) (atI_nat (tb_at hj)) ?_
      walk_at "rd"
      refine r_I (by omega) ?_
      walk_at "rd"
      rw [bit_val]
      refine r_iteB (fun hb => ?_) (fun hb => ?_)
      · walk_at "rd"
        refine ⟨_, hd, by rw [List.length_map]; exact Nat.lt_of_le_of_lt (Nat.le_trans filter_len (show i ≤ 1000 by omega)) (by decide), Same.mut e hD, ?_⟩
        rw [filter_take (n := 0), if_pos hb, upd_same, ← show tbv [i] = [V.int (i : Nat)] from rfl]
        exact congrArg (fun z => some (HO.lst z)) (List.map_append ..).symm
      · refine ⟨e, ?_⟩
        rw [filter_take (n := 0), hb, hd]
        simp
    · obtain ⟨e, hd⟩ := hP
      rw [Int.toNat_natCast] at hd
      exact q D H' e hD hd
theorem ok_law_ahead (T : Txt K mg) : FnOk P w K mg base CX0 1 T.a_law_ahead T.d_law_ahead ["_law_table", "_law_j"] (spRowOf ah) := by
  refine T.F_law_ahead.ok sc_law_ahead (fun vs H Q E h => ?_) (fun cdv A outer s H vs Q E hr h => ?_)
  · obtain ⟨t, U, j, rfl, _⟩ := h
    rfl
  · obtain ⟨t, U, j, rfl, ht, hj, hl, q⟩ := h
    refine ⟨_, (pss_one (ps_ret (pe_lc (own := [("_law_k", 2)]) (g := gName 2) rfl sc_law_ahead.nd (pi_range1 (by rfl) T.n_range (pa_cons (pe_callB call_lenU (by rfl) T.n_len (by decide +kernel) (pa_cons (pv 0) pa_nil)) pa_nil)) (blkOk_by (N := N_law_ahead) (sc := defScope s_law_ahead) (by decide +kernel)) (fun _ _ _ _ _ => pg_name (i := 2) sc_law_ahead.nd rfl (Or.inl rfl)) (fun _ _ _ _ _ => (pts_one (pt_cmpR (k_eqU (K := K) rfl hr.units) (pe_op op_and (pe_op op_shr (pe_ix (k_ix (K := K) rfl) (pv 0) (pv 2) (fun _ _ => rfl)) (pv 1)) pe_int) pe_int (nomark _)))) (fun _ _ _ _ _ => (pv 2))))), ?_⟩
    walk_at "rd"
    refine r_lenL (sqL ht) ?_
    walk_at "rd"
    rw [List.length_map]
    refine l_lcR (by omega) (by omega) (fun D i H' => Ex H H' ∧ H' D = some (.lst (tbv ((List.range i).filter fun k => (U.getD k 0).testBit j)))) (fun D hD => ⟨Same.new (Same.refl H) hD, upd_same⟩) (fun D i H' hD hi hP => ?_) (fun D H' hD hP => ?_)
    · obtain ⟨e, hd⟩ := hP
      walk_at "rd"
      refine ⟨rfl, ?_⟩
      walk_at "rd"
      refine r_ixL (sqL (e _ _ ht)) (atI_nat (tb_at (by omega))) ?_
      walk_at "rd"
      refine r_I (by omega) ?_
      walk_at "rd"
      rw [bit_val]
      refine r_iteB (fun hb => ?_) (fun hb => ?_)
      · walk_at "rd"
        refine ⟨_, hd, by rw [List.length_map]; exact Nat.lt_of_le_of_lt (Nat.le_trans filter_len (show i ≤ 1000 by omega)) (by decide), Same.mut e hD, ?_⟩
        rw [filter_take (n := 0), if_pos hb, upd_same, ← show tbv [i] = [V.int (i : Nat)] from rfl]
        exact congrArg (fun z => some (HO.lst z)) (List.map_append ..).symm
      · refine ⟨e, ?_⟩
        rw [filter_take (n := 0), hb, hd]
        simp
    · obtain ⟨e, hd⟩ := hP
      rw [Int.toNat_natCast] at hd
      exact q D H' e hD hd
theorem filter_step {f : Nat → Bool} {B : List Nat} {i k : Nat} (h : B[i]? = some k) : (B.take (i + 1)).filter f = (B.take i).filter f ++ (if f k then [k] else []) := by
  rw [List.take_add_one, h, List.filter_append]
  congr 1
  cases h : f k <;> simp [h]
theorem tb_get {B : List Nat} {i : Nat} {x : V} (h : (tbv B)[i]? = some x) : ∃ k, B[i]? = some k ∧ x = .int (k : Nat) := by
  rw [List.getElem?_map] at h
  obtain ⟨k, hk, rfl⟩ := Option.map_eq_some_iff.mp h
  exact ⟨k, hk, rfl⟩
theorem ok_law_close (T : Txt K mg) : FnOk P w K mg base CX0 2 T.a_law_close T.d_law_close ["_law_table", "_law_j"] (spRowOf cl) := by
  refine T.F_law_close.ok sc_law_close (fun vs H Q E h => ?_) (fun cdv A outer s H vs Q E hr h => ?_)
  · obtain ⟨t, U, j, rfl, _⟩ := h
    rfl
  · obtain ⟨t, U, j, rfl, ht, hj, hl, q⟩ := h
    refine ⟨_, (pss_cons (ps_set (i := 2) sc_law_close.nd rfl (Or.inl rfl) (pe_call (ok_law_behind T) hr (by rfl) T.g_law_behind T.F_law_behind.kp T.b_law_behind .nil pass0 (pa_cons (pv 0) (pa_cons (pv 1) pa_nil))))
        (pss_cons (ps_set (i := 3) sc_law_close.nd rfl (Or.inl rfl) (pe_lst pa_nil))
        (pss_cons (ps_for PassesOwn.never rfl (pi_list (pv 2)) (pg_name (i := 4) sc_law_close.nd rfl (Or.inr rfl)) (pss_one (ps_if (pt_cmpR (op_eqU hr.units) (pe_callB call_lenU (by rfl) T.n_len (by decide +kernel) (pa_cons (pe_lc (own := [("_law_m", 5)]) (g := gName 5) rfl sc_law_close.nd (pi_list (pv 2)) (blkOk_by (N := N_law_close) (sc := defScope s_law_close) (by decide +kernel)) (fun _ _ _ _ _ => pg_name (i := 5) sc_law_close.nd rfl (Or.inl rfl)) (fun _ _ _ _ _ => (pts_one (pt_cmpR (k_eqU (K := K) rfl hr.units) (pe_op op_and (pe_op op_shr (pe_ix (k_ix (K := K) rfl) (pv 0) (pv 5) (fun _ _ => rfl)) (pv 4)) pe_int) pe_int (nomark _)))) (fun _ _ _ _ _ => (pv 5))) pa_nil)) pe_int (nomark _)) (pss_one (ps_expr (pe_bm PySem.F.plainAttrs_list PySem.F.slot_list_append PySem.F.type_list_append mt_append (pv 3) (pa_cons (pv 4) pa_nil)))) pss_nil)))
        (pss_one (ps_ret (pv 3)))))), ?_⟩
    walk_at "rd"
    refine ⟨t, U, j, rfl, ht, hj, hl, fun p H1 e1 _ hp => ?_⟩
    have bl : (bh U j).length ≤ 1000 := Nat.le_trans filter_len hl
    walk_at "rd"
    refine r_small nsz fun f hf => ?_
    have hp2 : ∀ {H'}, Ex H1 H' → H' p = some (.lst (tbv (bh U j))) := fun e => e _ _ hp
    walk_at "rd"
    refine l_L (sqL (hp2 (Same.new (Same.refl H1) hf))) (fun i σ H' => ∃ z1 z2, σ = [some (.ref t), some (.int (j : Nat)), some (.ref p), some (.ref f), z1, z2] ∧ Ex H1 H' ∧ H' f = some (.lst (tbv (((bh U j).take i).filter fun k => ((bh U j).filter fun m => (U.getD m 0).testBit k).isEmpty)))) ⟨none, none, rfl, Same.new (Same.refl H1) hf, upd_same⟩ (fun i σ H' hW => ?_) (fun i x σ H' hx hW => ?_) (fun σ H' hW => ?_)
    · obtain ⟨_, _, _, e, _⟩ := hW
      exact sqL (hp2 e)
    · obtain ⟨z1, z2, rfl, e, hd⟩ := hW
      obtain ⟨k, hk, rfl⟩ := tb_get hx
      have hkT := (mem_bh.mp (List.mem_of_getElem? hk)).1
      have hi := (List.getElem?_eq_some_iff.mp hk).1
      walk_at "rd"
      refine l_lcL (sqL (hp2 e)) (fun D i H2 => Ex H' H2 ∧ H2 D = some (.lst (tbv (((bh U j).take i).filter fun m => (U.getD m 0).testBit k)))) (fun D hD => ⟨Same.new (Same.refl H') hD, upd_same⟩) (fun D i H2 hP => sqL (hp2 (e.trans hP.1))) (fun D i x H2 hD hx hP => ?_) (fun D H2 hD hP => ?_)
      · obtain ⟨e2, hd2⟩ := hP
        obtain ⟨m, hm, rfl⟩ := tb_get hx
        have hmT := (mem_bh.mp (List.mem_of_getElem? hm)).1
        walk_at "rd"
        refine ⟨rfl, ?_⟩
        walk_at "rd"
        refine r_ixL (sqL (e2 _ _ (e _ _ (e1 _ _ ht)))) (atI_nat (tb_at hmT)) ?_
        walk_at "rd"
        refine r_I (by omega) ?_
        walk_at "rd"
        rw [bit_val]
        refine r_iteB (fun hb => ?_) (fun hb => ?_)
        · walk_at "rd"
          refine ⟨_, hd2, by rw [List.length_map]; exact Nat.lt_of_le_of_lt (Nat.le_trans (List.length_filter_le ..) (Nat.le_trans (List.length_take_le' ..) bl)) (by decide), Same.mut e2 hD, ?_⟩
          rw [filter_step hm, if_pos hb, upd_same, ← show tbv [m] = [V.int (m : Nat)] from rfl]
          exact congrArg (fun z => some (HO.lst z)) (List.map_append ..).symm
        · refine ⟨e2, ?_⟩
          rw [filter_step hm, hb, hd2]
          simp
      · obtain ⟨e2, hd2⟩ := hP
        rw [List.length_map, List.take_length] at hd2
        walk_at "rd"
        refine r_lenL (sqL hd2) ?_
        walk_at "rd"
        rw [List.length_map]
        have hd3 := e2 _ _ hd
        refine r_ite (fun h0 => ?_) (fun h0 => ?_)
        · have hb : (((bh U j).filter fun m => (U.getD m 0).testBit k).isEmpty) = true := by
            rw [List.isEmpty_iff]
            have z := V.int.inj h0
            exact List.length_eq_zero_iff.mp (by omega)
          walk_at "rd"
          refine r_tyL (sqL hd3) ?_
          walk_at "rd"
          refine r_app hd3 (by rw [List.length_map]; exact Nat.lt_of_le_of_lt (Nat.le_trans (List.length_filter_le ..) (Nat.le_trans (List.length_take_le' ..) bl)) (by decide)) ?_
          walk_at "rd"
          refine ⟨_, _, rfl, Same.mut (e.trans e2) hf, ?_⟩
          rw [filter_step hk, if_pos hb, upd_same, ← show tbv [k] = [V.int (k : Nat)] from rfl]
          exact congrArg (fun z => some (HO.lst z)) (List.map_append ..).symm
        · have hb : (((bh U j).filter fun m => (U.getD m 0).testBit k).isEmpty) = false := by
            rw [Bool.eq_false_iff]
            intro z
            rw [List.isEmpty_iff] at z
            exact h0 (by rw [z]; rfl)
          walk_at "rd"
          refine ⟨_, _, rfl, e.trans e2, ?_⟩
          rw [filter_step hk, hb, hd3]
          simp
    · obtain ⟨z1, z2, rfl, e, hd⟩ := hW
      rw [List.length_map, List.take_length] at hd
      walk_at "rd"
      exact q f H' (e1.trans e) (e1.free hf) hd
end
end K26

namespace K26
open PySem PySem.Spec PyProof.Rows L2 Dk Tl
/-- one step of a reading -/
local macro_rules | `(tactic| walk_at "rd1") => `(tactic| first
  | ((with_reducible refine r_var (v := ?rv) ?rh ?_); (case rh => rfl))
  | with_reducible refine r_c ?_
  | with_reducible refine r_seq ?_
  | with_reducible refine r_asg ?_
  | with_reducible refine r_par ?_
  | with_reducible refine r_gname ?_
  | with_reducible refine r_op ?_
  | with_reducible refine r_forLo ?_
  | with_reducible refine r_forTo ?_
  | with_reducible refine r_forSo ?_
  | with_reducible refine r_forRo ?_
  | with_reducible refine r_lcRo ?_
  | with_reducible refine r_lcLo ?_
  | with_reducible refine r_yes ?_
  | with_reducible refine r_callK0 ?_
  | with_reducible refine r_break ?_
  | with_reducible refine r_forR2o ?_
  | with_reducible refine r_forEo ?_
  | with_reducible refine r_forESo ?_
  | with_reducible refine r_xfo ?_
  | with_reducible refine r_noP ?_
  | with_reducible refine r_part ?_
  | with_reducible refine r_pI ?_
  | with_reducible refine r_gcons ?_
  | with_reducible refine r_gnil ?_
  | with_reducible refine r_mkO ?_
  | with_reducible refine r_un ?_
  | with_reducible refine r_addI ?_
  | with_reducible refine r_I0 ?_
  | with_reducible refine r_U ?_
  | with_reducible refine r_cons ?_
  | with_reducible refine r_nil ?_
  | with_reducible refine r_CB ?_
  | with_reducible refine r_call ?_
  | with_reducible refine r_callS ?_
  | with_reducible refine r_int ?_
  | with_reducible refine r_max ?_
  | with_reducible refine r_min ?_
  | with_reducible refine r_test ?_
  | with_reducible refine r_B ?_
  | with_reducible refine r_blv ?_
  | with_reducible refine r_and ?_
  | with_reducible refine r_or ?_
  | with_reducible refine r_not ?_
  | with_reducible refine r_andV ?_
  | with_reducible refine r_orV ?_
  | with_reducible refine r_notV ?_
  | with_reducible refine r_ifE ?_
  | with_reducible refine r_ifS ?_
  | with_reducible refine r_ret ?_
  | with_reducible refine r_retN ?_
  | with_reducible refine r_drop ?_
  | with_reducible refine r_next ?_
  | with_reducible refine r_sl ?_
  | with_reducible refine r_gsub ?_
  | with_reducible refine r_bm ?_
  | with_reducible refine r_tup ?_
  | with_reducible refine r_lst ?_
  | with_reducible refine r_isN ?_
  | with_reducible refine r_notN ?_
  | with_reducible refine r_itt ?_
  | with_reducible refine r_iff ?_
  | with_reducible refine r_ittN ?_
  | with_reducible refine r_iffN ?_
  | ((with_reducible refine r_ittD ?rh ?_); (case rh => rfl))
  | ((with_reducible refine r_iffD ?rh ?_); (case rh => rfl))
  | ((with_reducible refine r_modP ?rh ?_); (case rh => decide))
  | ((with_reducible refine r_eq ?rh ?_); (case rh => rfl))
  | ((with_reducible refine r_eqP ?rh ?_); (case rh => rfl))
  | ((with_reducible refine r_ne ?rh ?_); (case rh => rfl)))
local macro_rules | `(tactic| walk_at "rd") => `(tactic| repeat walk_at "rd1")
local macro_rules | `(tactic| walk_at "isi") => `(tactic| first | refine r_isi (b := true) (by assumption) (by decide +kernel) ?_ | refine r_isi (b := false) (by assumption) (by decide +kernel) ?_)
local macro_rules | `(tactic| walk_at "rs1") => `(tactic| first
  | with_reducible refine r_seq ?_
  | with_reducible refine r_asg ?_
  | with_reducible refine r_gname ?_
  | with_reducible refine r_ret ?_)
local macro_rules | `(tactic| walk_at "rs") => `(tactic| repeat walk_at "rs1")

/-- where a drawing def stands: from G0 H0 on -/
structure Wk (b h : Addr) (G0 H0 G H : Hp) : Prop where
  t : Gr (A2 b h) G0 H0 G H
  w : W2 b h G H
section
variable {b h p : Addr} {G0 H0 G H G1 H1 : Hp} {o : HO}
theorem Wk.start (w : W2 b h G H) : Wk b h G H G H := ⟨Gr.refl w.g, w⟩
theorem Wk.dr (k : Wk b h G0 H0 G H) (d : Dr2 b h H H1) : Wk b h G0 H0 G H1 := ⟨k.t.trans (k.w.gdr d), k.w.dr d⟩
theorem Wk.sub (k : Wk b h G0 H0 G H) (t : Gr (A2 b h) G H G1 H1) (s : Bx H1 b h) : Wk b h G0 H0 G1 H1 := ⟨k.t.trans t, k.w.step t s⟩
theorem Wk.pure (k : Wk b h G0 H0 G H) (t : Gr A0 G H G1 H1) : Wk b h G0 H0 G1 H1 := ⟨k.t.trans t.of0, k.w.pure t⟩
theorem Gr.ex {A : Addr → Prop} (g : Ex G H) (e : Ex H H1) : Gr A G H G H1 :=
  ⟨Same.refl _, g.trans e, fun b o _ h => e b o h, fun b o h => ⟨o, e b o h⟩, fun b o h h' => h'⟩
theorem Wk.ex (k : Wk b h G0 H0 G H) (e : Ex H H1) : Wk b h G0 H0 G H1 := k.pure (Gr.ex k.w.g e)
theorem Wk.know (k : Wk b h G0 H0 G H) (e : Ex H H1) (hp : H p = none) (hp1 : H1 p = some o) : ∃ G1, Wk b h G0 H0 G1 H1 ∧ G1 p = some o ∧ Ex G G1 := by
  have t : Gr A0 G H (upd G p o) H1 := (Gr.ex k.w.g e).give hp hp1 (k.w.g.free hp)
  exact ⟨_, k.pure t, upd_same, t.gg⟩
theorem Wk.new (k : Wk b h G0 H0 G H) (hp : H p = none) (o : HO) : ∃ G1 H1, H1 = upd H p o ∧ Wk b h G0 H0 G1 H1 ∧ G1 p = some o ∧ Ex G G1 := by
  obtain ⟨G1, H1, k1, s1, h1⟩ := new_ex k.w.g hp o
  exact ⟨G1, H1, k1, k.pure s1, h1, s1.gg⟩
theorem Wk.g (k : Wk b h G0 H0 G H) (e : G p = some o) : H p = some o := k.w.g _ _ e
end
section
variable {P : Program} {w : World} {K : PySem.W.Frag} {mg : Str → Option Value} {base : Heap}
def spPair : Sp := fun vs H Q _ => ∃ (b h t : Addr) (L R : Nat → Sg) (sz : Nat → Nat) (n : Nat) (U : List Nat) (m : Int) (G : Hp), vs = [.ref b, .ref t, .int m] ∧ W2 b h G H ∧ G t = some (.lst (tbv U)) ∧ Wv L R sz n ∧ Tells L R sz n U ∧ U.length ≤ 1000 ∧
  ∀ q G' H' x y, Wk b h G H G' H' → G' q = some (.tup [.int (x : Nat), .int (y : Nat)]) → x < U.length → y < U.length → Bit U x y → Q (.ref q) H'
theorem ok_law_pair (T : Txt K mg) : FnOk P w K mg base CX0 3 T.a_law_pair T.d_law_pair ["_law_box", "_law_table", "_law_mode"] spPair := by
  refine T.F_law_pair.ok sc_law_pair (fun vs H Q E h => ?_) (fun cdv A outer s H vs Q E hr h => ?_)
  · obtain ⟨b, h, t, L, R, sz, n, U, m, G, rfl, _⟩ := h
    rfl
  · obtain ⟨b, h, t, L, R, sz, n, U, m, G, rfl, w2, ht, wv, tl, ul, q⟩ := h
    refine ⟨_, (pss_cons (ps_set (i := 3) sc_law_pair.nd rfl (Or.inl rfl) (pe_callB call_lenU (by rfl) T.n_len (by decide +kernel) (pa_cons (pv 1) pa_nil)))
        (Evl.pss_cut (ps_if (PW.pt (pw_or (pt_cmpR op_gt (pv 2) pe_int (nomark _)) (pw_or1 (PW.pt (pw_and (PW.pt (pw_or (pt_cmpR (op_eqU hr.units) (pv 2) pe_int (nomark _)) (pw_or1 (pt_cmpR (op_eqU hr.units) (pv 2) pe_int (nomark _))))) (pw_and1 (pt_cmpR op_gt (pe_call (ok_law_pick T) (hr.mono (by decide)) (by rfl) T.g_law_pick T.F_law_pick.kp T.b_law_pick .nil pass0 (pa_cons (pv 0) (pa_cons pe_int pa_nil))) pe_int (nomark _)))))))) (pss_cons (ps_set (i := 4) sc_law_pair.nd rfl (Or.inl rfl) (pe_op op_sub (pv 3) pe_int))
        (pss_cons (ps_set (i := 5) sc_law_pair.nd rfl (Or.inl rfl) (pe_call (ok_law_ahead T) (hr.mono (by decide)) (by rfl) T.g_law_ahead T.F_law_ahead.kp T.b_law_ahead .nil pass0 (pa_cons (pv 1) (pa_cons (pv 4) pa_nil))))
        (pss_cons (ps_set (i := 6) sc_law_pair.nd rfl (Or.inl rfl) (pe_call (ok_law_behind T) (hr.mono (by decide)) (by rfl) T.g_law_behind T.F_law_behind.kp T.b_law_behind .nil pass0 (pa_cons (pv 1) (pa_cons (pv 4) pa_nil))))
        (pss_cons (ps_set (i := 7) sc_law_pair.nd rfl (Or.inl rfl) (pe_or (pe_cmpR op_gt (pv 2) pe_int (nomark _)) (pe_one (pe_cmpR op_gt (pe_call (ok_law_pick T) (hr.mono (by decide)) (by rfl) T.g_law_pick T.F_law_pick.kp T.b_law_pick .nil pass0 (pa_cons (pv 0) (pa_cons pe_int pa_nil))) pe_int (nomark _)))))
        (pss_cons (ps_if (PW.pt (pw_and (pt_cmpR op_gt (pe_callB call_lenU (by rfl) T.n_len (by decide +kernel) (pa_cons (pv 5) pa_nil)) pe_int (nomark _)) (pw_and1 (PW.pt (pw_or (pt_cmpR (op_eqU hr.units) (pv 7) (pe_or (pe_cmpR (op_eqU hr.units) (pv 2) pe_int (nomark _)) (pe_one (pe_cmpR (op_eqU hr.units) (pv 2) pe_int (nomark _)))) (nomark _)) (pw_or1 (pt_cmpR (op_eqU hr.units) (pe_callB call_lenU (by rfl) T.n_len (by decide +kernel) (pa_cons (pv 6) pa_nil)) pe_int (nomark _)))))))) (pss_one (ps_ret (pe_tup (pa_cons (pe_ix ix_seq (pv 5) (pe_call (ok_law_pick T) (hr.mono (by decide)) (by rfl) T.g_law_pick T.F_law_pick.kp T.b_law_pick .nil pass0 (pa_cons (pv 0) (pa_cons (pe_callB call_lenU (by rfl) T.n_len (by decide +kernel) (pa_cons (pv 5) pa_nil)) pa_nil))) (fun _ _ => rfl)) (pa_cons (pv 4) pa_nil))))) pss_nil)
        (pss_one (ps_if (pt_cmpR op_gt (pe_callB call_lenU (by rfl) T.n_len (by decide +kernel) (pa_cons (pv 6) pa_nil)) pe_int (nomark _)) (pss_one (ps_ret (pe_tup (pa_cons (pv 4) (pa_cons (pe_ix ix_seq (pv 6) (pe_call (ok_law_pick T) (hr.mono (by decide)) (by rfl) T.g_law_pick T.F_law_pick.kp T.b_law_pick .nil pass0 (pa_cons (pv 0) (pa_cons (pe_callB call_lenU (by rfl) T.n_len (by decide +kernel) (pa_cons (pv 6) pa_nil)) pa_nil))) (fun _ _ => rfl)) pa_nil))))) pss_nil))))))) pss_nil)
        (Evl.pss_cut (ps_if (PW.pt (pw_and (pt_cmpR (op_eqU hr.units) (pv 2) pe_int (nomark _)) (pw_and1 (pt_cmpR op_gt (pe_call (ok_law_pick T) (hr.mono (by decide)) (by rfl) T.g_law_pick T.F_law_pick.kp T.b_law_pick .nil pass0 (pa_cons (pv 0) (pa_cons pe_int pa_nil))) pe_int (nomark _))))) (pss_one (ps_ret (pe_tup (pa_cons pe_int (pa_cons pe_int pa_nil))))) pss_nil)
        (pss_cons (ps_set (i := 8) sc_law_pair.nd rfl (Or.inl rfl) (pe_call (ok_law_pick T) (hr.mono (by decide)) (by rfl) T.g_law_pick T.F_law_pick.kp T.b_law_pick .nil pass0 (pa_cons (pv 0) (pa_cons (pv 3) pa_nil))))
        (Evl.pss_cut (ps_if (pt_cmpR (op_eqU hr.units) (pe_callB call_lenU (by rfl) T.n_len (by decide +kernel) (pa_cons (pe_call (ok_law_behind T) (hr.mono (by decide)) (by rfl) T.g_law_behind T.F_law_behind.kp T.b_law_behind .nil pass0 (pa_cons (pv 1) (pa_cons (pv 8) pa_nil))) pa_nil)) pe_int (nomark _)) (pss_one (ps_set (i := 8) sc_law_pair.nd rfl (Or.inl rfl) pe_int)) pss_nil)
        (pss_cons (ps_set (i := 6) sc_law_pair.nd rfl (Or.inl rfl) (pe_call (ok_law_behind T) (hr.mono (by decide)) (by rfl) T.g_law_behind T.F_law_behind.kp T.b_law_behind .nil pass0 (pa_cons (pv 1) (pa_cons (pv 8) pa_nil))))
        (Evl.pss_cut (ps_if (PW.pt (pw_and (pt_cmpR (op_eqU hr.units) (pv 2) pe_int (nomark _)) (pw_and1 (pt_cmpR op_gt (pe_call (ok_law_pick T) (hr.mono (by decide)) (by rfl) T.g_law_pick T.F_law_pick.kp T.b_law_pick .nil pass0 (pa_cons (pv 0) (pa_cons pe_int pa_nil))) pe_int (nomark _))))) (pss_one (ps_set (i := 6) sc_law_pair.nd rfl (Or.inl rfl) (pe_call (ok_law_close T) hr (by rfl) T.g_law_close T.F_law_close.kp T.b_law_close .nil pass0 (pa_cons (pv 1) (pa_cons (pv 8) pa_nil))))) pss_nil)
        (pss_one (ps_ret (pe_tup (pa_cons (pv 8) (pa_cons (pe_ix ix_seq (pv 6) (pe_call (ok_law_pick T) (hr.mono (by decide)) (by rfl) T.g_law_pick T.F_law_pick.kp T.b_law_pick .nil pass0 (pa_cons (pv 0) (pa_cons (pe_callB call_lenU (by rfl) T.n_len (by decide +kernel) (pa_cons (pv 6) pa_nil)) pa_nil))) (fun _ _ => rfl)) pa_nil)))))))))))), ?_⟩
    obtain ⟨b0, one⟩ := tl.bh0 wv
    have k0 := Wk.start w2
    have htG : ∀ {G'}, Ex G G' → G' t = some (.lst (tbv U)) := fun e => e _ _ ht
    have pickd : ∀ {C : List Nat} {d : Int}, 0 ≤ d → d < (C.length : Nat) → ∃ k, atI (tbv C) d = some (.int (k : Nat)) ∧ k ∈ C := fun {C d} d0 d1 => by
      have hd : d.toNat < C.length := by omega
      have e : (tbv C)[d.toNat]? = some (.int ((C[d.toNat] : Nat) : Int)) := by
        rw [List.getElem?_map, List.getElem?_eq_getElem hd]
        rfl
      exact ⟨C[d.toNat], at_g (by omega) e, List.getElem_mem _⟩
    walk_at "rd"
    refine r_lenL (sqL (k0.g ht)) ?_
    rw [List.length_map]
    walk_at "rs"
    refine ⟨fun σ H' => ∃ y4 y5 y6 y7 y8 G1, σ = [some (.ref b), some (.ref t), some (.int m), some (.int (U.length : Nat)), y4, y5, y6, y7, y8] ∧ Wk b h G H G1 H', ?_, ?_⟩
    · refine r_ifS ?_
      refine any_test (S := fun _ H1 => Dr2 b h H H1) (fun QB k => ?_) (fun c H1 D => ?_)
      · have rf : Dr2 b h H H := Dr2.refl w2.st
        walk_at "rd"
        refine r_ite (fun _ => k _ _ rf) (fun _ => ?_)
        walk_at "rd"
        refine r_ite (fun _ => ?_) (fun _ => ?_)
        · walk_at "rd"
          refine ⟨b, h, 4, rfl, w2.st, by decide, by decide, fun d H1 d0 d1 D1 => ?_⟩
          walk_at "rd"
          exact k _ _ D1
        · walk_at "rd"
          refine r_ite (fun _ => ?_) (fun _ => k _ _ rf)
          walk_at "rd"
          refine ⟨b, h, 4, rfl, w2.st, by decide, by decide, fun d H1 d0 d1 D1 => ?_⟩
          walk_at "rd"
          exact k _ _ D1
      · have k1 := k0.dr D
        refine r_iteB (fun _ => ?_) (fun _ => ?_)
        · walk_at "rd"
          have hnew : ((U.length : Nat) - 1 : Int) = ((U.length - 1 : Nat) : Int) := by omega
          rw [hnew]
          refine ⟨t, U, U.length - 1, rfl, k1.g ht, by omega, ul, fun p1 H2 e2 hp2 hp2' => ?_⟩
          obtain ⟨G2, k2, g2, eG2⟩ := k1.know e2 hp2 hp2'
          walk_at "rd"
          refine ⟨t, U, U.length - 1, rfl, k2.g (htG eG2), by omega, ul, fun p2 H3 e3 hp3 hp3' => ?_⟩
          obtain ⟨G3, k3, g3, eG3⟩ := k2.know e3 hp3 hp3'
          have g2' := eG3 _ _ g2
          have al : (ah U (U.length - 1)).length ≤ 1000 := Nat.le_trans filter_len ul
          have bl : (bh U (U.length - 1)).length ≤ 1000 := Nat.le_trans filter_len ul
          walk_at "rs"
          refine any_val (S := fun v H2 => ∃ c, v = .bl c ∧ Dr2 b h H3 H2) (fun Q k => ?_) (fun v H4 hv => ?_)
          · walk_at "rd"
            refine r_ite (fun _ => k _ _ ⟨true, rfl, Dr2.refl k3.w.st⟩) (fun _ => ?_)
            walk_at "rd"
            refine ⟨b, h, 3, rfl, k3.w.st, by decide, by decide, fun d H1 d0 d1 D1 => ?_⟩
            walk_at "rd"
            exact k _ _ ⟨_, rfl, D1⟩
          obtain ⟨c1, rfl, D4⟩ := hv
          have k4 := k3.dr D4
          walk_at "rs"
          refine r_ifS ?_
          refine any_test (S := fun c H2 => H2 = H4 ∧ (c = true → 0 < (ah U (U.length - 1)).length)) (fun QB k => ?_) (fun c H5 hc => ?_)
          · walk_at "rd"
            refine r_lenL (sqL (k4.g g2')) ?_
            walk_at "rd"
            rw [List.length_map]
            refine r_ite (fun hl => ?_) (fun hl => k _ _ ⟨rfl, fun z => nomatch z⟩)
            have hl' : 0 < (ah U (U.length - 1)).length := by omega
            have fin : ∀ c, QB c H4 := fun c => k _ _ ⟨rfl, fun _ => hl'⟩
            have two : ∀ c : Bool, (if c = true then QB true H4 else QB (decide (V.int ((bh U (U.length - 1)).length : Nat) = V.int 0)) H4) := fun c => r_iteB (fun _ => fin _) (fun _ => fin _)
            walk_at "rd"
            refine r_ite (fun _ => ?_) (fun _ => ?_)
            · walk_at "rd"
              refine r_iteB (fun _ => fin _) (fun _ => ?_)
              walk_at "rd"
              refine r_lenL (sqL (k4.g g3)) ?_
              walk_at "rd"
              exact fin _
            · walk_at "rd"
              refine r_iteB (fun _ => fin _) (fun _ => ?_)
              walk_at "rd"
              refine r_lenL (sqL (k4.g g3)) ?_
              walk_at "rd"
              exact fin _
          obtain ⟨rfl, hc⟩ := hc
          refine r_iteB (fun hc' => ?_) (fun _ => ?_)
          · have hl := hc hc'
            walk_at "rd"
            refine r_lenL (sqL (k4.g g2')) ?_
            rw [List.length_map]
            walk_at "rd"
            refine ⟨b, h, ((ah U (U.length - 1)).length : Nat), rfl, k4.w.st, by omega, by omega, fun d H6 d0 d1 D6 => ?_⟩
            have k6 := k4.dr D6
            obtain ⟨k, hk, hkC⟩ := pickd d0 d1
            walk_at "rd"
            refine r_ixL (sqL (k6.g g2')) hk ?_
            walk_at "rd"
            refine r_small nsz fun p hp => ?_
            obtain ⟨G8, H8, e8, k8, h8, eG8⟩ := k6.new hp (.tup [.int (k : Nat), .int (U.length - 1 : Nat)])
            rw [← e8]
            have hm := mem_ah.mp hkC
            exact q p G8 H8 k (U.length - 1) k8 h8 hm.1 (by omega) hm.2
          · walk_at "rd"
            refine r_lenL (sqL (k4.g g3)) ?_
            walk_at "rd"
            rw [List.length_map]
            refine r_ite (fun hl => ?_) (fun hl => ?_)
            · walk_at "rd"
              refine r_lenL (sqL (k4.g g3)) ?_
              rw [List.length_map]
              walk_at "rd"
              refine ⟨b, h, ((bh U (U.length - 1)).length : Nat), rfl, k4.w.st, by omega, by omega, fun d H6 d0 d1 D6 => ?_⟩
              have k6 := k4.dr D6
              obtain ⟨k, hk, hkC⟩ := pickd d0 d1
              walk_at "rd"
              refine r_ixL (sqL (k6.g g3)) hk ?_
              walk_at "rd"
              refine r_small nsz fun p hp => ?_
              obtain ⟨G8, H8, e8, k8, h8, eG8⟩ := k6.new hp (.tup [.int (U.length - 1 : Nat), .int (k : Nat)])
              rw [← e8]
              have hm := mem_bh.mp hkC
              exact q p G8 H8 (U.length - 1) k k8 h8 (by omega) hm.1 hm.2
            · walk_at "rd"
              exact ⟨_, _, _, _, _, G3, rfl, k4⟩
        · walk_at "rd"
          exact ⟨_, _, _, _, _, G, rfl, k1⟩
    · rintro σ H1 ⟨y4, y5, y6, y7, y8, G1, rfl, k1⟩
      have eG1 := k1.t.gg
      walk_at "rs"
      refine ⟨fun σ H' => ∃ y4 y5 y6 y7 y8 G1, σ = [some (.ref b), some (.ref t), some (.int m), some (.int (U.length : Nat)), y4, y5, y6, y7, y8] ∧ Wk b h G H G1 H', ?_, ?_⟩
      · refine r_ifS ?_
        refine any_test (S := fun _ H2 => Dr2 b h H1 H2) (fun QB k => ?_) (fun c H2 D => ?_)
        · have rf : Dr2 b h H1 H1 := Dr2.refl k1.w.st
          walk_at "rd"
          refine r_ite (fun _ => ?_) (fun _ => k _ _ rf)
          walk_at "rd"
          refine ⟨b, h, 4, rfl, k1.w.st, by decide, by decide, fun d H1 d0 d1 D1 => ?_⟩
          walk_at "rd"
          exact k _ _ D1
        · have k2 := k1.dr D
          refine r_iteB (fun _ => ?_) (fun _ => ?_)
          · walk_at "rd"
            refine r_small nsz fun p hp => ?_
            obtain ⟨G3, H3, e3, k3, h3, eG3⟩ := k2.new hp (.tup [.int 0, .int 1])
            rw [← e3]
            refine q p G3 H3 0 1 k3 h3 (by omega) one ?_
            have o0 : Ok sz n (0, 0) := ⟨wv.n0, by show 0 < sz 0; rw [wv.s0]; decide⟩
            have o1 : Ok sz n (0, 1) := ⟨wv.n0, by show 1 < sz 0; rw [wv.s0]; decide⟩
            exact (tl.2 (0, 0) (0, 1) o0 o1).mpr (.same rfl (by decide))
          · walk_at "rd"
            exact ⟨_, _, _, _, _, G1, rfl, k2⟩
      rintro σ H2 ⟨z4, z5, z6, z7, z8, G2, rfl, k2⟩
      have eG2 := k2.t.gg
      walk_at "rd"
      refine ⟨b, h, (U.length : Nat), rfl, k2.w.st, by omega, by omega, fun d H3 d0 d1 D3 => ?_⟩
      have k3 := k2.dr D3
      obtain ⟨j, rfl⟩ : ∃ j : Nat, d = (j : Nat) := ⟨d.toNat, by omega⟩
      walk_at "rs"
      refine ⟨fun σ H' => ∃ j G1, σ = [some (.ref b), some (.ref t), some (.int m), some (.int (U.length : Nat)), z4, z5, z6, z7, some (.int (j : Nat))] ∧ Wk b h G H G1 H' ∧ j < U.length ∧ bh U j ≠ [], ?_, ?_⟩
      · walk_at "rd"
        refine ⟨t, U, j, rfl, k3.g (htG eG2), by omega, ul, fun p1 H4 e4 hp4 hp4' => ?_⟩
        have k4 := k3.ex e4
        walk_at "rd"
        refine r_lenL (sqL hp4') ?_
        walk_at "rd"
        rw [List.length_map]
        refine r_ite (fun h0 => ?_) (fun h0 => ?_)
        · walk_at "rd"
          exact ⟨0, G2, rfl, k4, by omega, b0⟩
        · walk_at "rd"
          exact ⟨j, G2, rfl, k4, by omega, fun z => h0 (by rw [z]; rfl)⟩
      rintro σ H4 ⟨j, G4, rfl, k4, hj, hb⟩
      have eG4 := k4.t.gg
      walk_at "rd"
      refine ⟨t, U, j, rfl, k4.g (htG eG4), by omega, ul, fun p5 H5 e5 hp5 hp5' => ?_⟩
      obtain ⟨G5, k5, g5, eG5⟩ := k4.know e5 hp5 hp5'
      walk_at "rs"
      refine ⟨fun σ H' => ∃ p G1 C, σ = [some (.ref b), some (.ref t), some (.int m), some (.int (U.length : Nat)), z4, z5, some (.ref p), z7, some (.int (j : Nat))] ∧ Wk b h G H G1 H' ∧ G1 p = some (.lst (tbv C)) ∧ C ≠ [] ∧ C.length ≤ 1000 ∧ ∀ k ∈ C, k ∈ bh U j, ?_, ?_⟩
      · refine r_ifS ?_
        refine any_test (S := fun _ H2 => Dr2 b h H5 H2) (fun QB k => ?_) (fun c H2 D => ?_)
        · have rf : Dr2 b h H5 H5 := Dr2.refl k5.w.st
          walk_at "rd"
          refine r_ite (fun _ => ?_) (fun _ => k _ _ rf)
          walk_at "rd"
          refine ⟨b, h, 3, rfl, k5.w.st, by decide, by decide, fun d H1 d0 d1 D1 => ?_⟩
          walk_at "rd"
          exact k _ _ D1
        · have k6 := k5.dr D
          refine r_iteB (fun _ => ?_) (fun _ => ?_)
          · walk_at "rd"
            refine ⟨t, U, j, rfl, k6.g (htG (eG4.trans eG5)), by omega, ul, fun p7 H7 e7 hp7 hp7' => ?_⟩
            obtain ⟨G7, k7, g7, eG7⟩ := k6.know e7 hp7 hp7'
            walk_at "rd"
            exact ⟨p7, G7, cl U j, rfl, k7, g7, tl.cl_ne wv hj hb, Nat.le_trans (List.length_filter_le ..) (Nat.le_trans filter_len ul), fun k hk => cl_sub hk⟩
          · walk_at "rd"
            exact ⟨p5, G5, bh U j, rfl, k6, g5, hb, Nat.le_trans filter_len ul, fun k hk => hk⟩
      rintro σ H6 ⟨p6, G6, C, rfl, k6, g6, hC, cl2, hsub⟩
      have cl1 : 0 < C.length := List.length_pos_iff.mpr hC
      walk_at "rd"
      refine r_lenL (sqL (k6.g g6)) ?_
      rw [List.length_map]
      walk_at "rd"
      refine ⟨b, h, (C.length : Nat), rfl, k6.w.st, by omega, by omega, fun d H7 d0 d1 D7 => ?_⟩
      have k7 := k6.dr D7
      obtain ⟨k, hk, hkC⟩ := pickd d0 d1
      walk_at "rd"
      refine r_ixL (sqL (k7.g g6)) hk ?_
      walk_at "rd"
      refine r_small nsz fun p hp => ?_
      obtain ⟨G8, H8, e8, k8, h8, eG8⟩ := k7.new hp (.tup [.int (j : Nat), .int (k : Nat)])
      rw [← e8]
      have hm := mem_bh.mp (hsub k hkC)
      exact q p G8 H8 j k k8 h8 hj hm.1 hm.2
end
end K26

namespace Tl
def upn {α : Type} (f : Nat → α) (n : Nat) (x : α) : Nat → α := fun k => if k = n then x else f k
theorem upd_at {α : Type} {f : Nat → α} {n : Nat} {x : α} : upn f n x n = x := if_pos rfl
theorem upn_ne {α : Type} {f : Nat → α} {n k : Nat} {x : α} (h : k < n) : upn f n x k = f k := if_neg (by omega)
section
variable {L R : Nat → Sg} {sz : Nat → Nat} {n s : Nat} {x y : Sg}
theorem Wv.congrUp (w : Wv L R sz n) {u v : Sg} (hu : u.1 < n) (hv : v.1 < n) (a : A L R u v) : A (upn L n x) (upn R n y) u v :=
  A.congr (n := n) (fun c _ h => (upn_ne h).symm) (fun c _ h => (upn_ne h).symm) (fun c h0 h => ⟨w.l c h0 h, w.r c h0 h⟩) a hu hv
theorem Wv.step (w : Wv L R sz n) (ox : Ok sz n x) (oy : Ok sz n y) (a : A L R x y) (s0 : 0 < s) : Wv (upn L n x) (upn R n y) (upn sz n s) (n + 1) := by
  have n0 := w.n0
  have cs : ∀ c, c < n + 1 → c < n ∨ c = n := fun c h => by omega
  refine { l := fun c h0 h => ?_, r := fun c h0 h => ?_, lr := fun c h0 h => ?_, n0 := by omega, s0 := ?_, s1 := fun c h0 h => ?_, lo := fun c h0 h => ?_, ro := fun c h0 h => ?_ }
  · rcases cs c h with h | rfl
    · rw [upn_ne h]; exact w.l c h0 h
    · rw [upd_at]; exact ox.1
  · rcases cs c h with h | rfl
    · rw [upn_ne h]; exact w.r c h0 h
    · rw [upd_at]; exact oy.1
  · rcases cs c h with h | rfl
    · rw [upn_ne h, upn_ne h]
      exact w.congrUp (Nat.lt_trans (w.l c h0 h) h) (Nat.lt_trans (w.r c h0 h) h) (w.lr c h0 h)
    · rw [upd_at, upd_at]
      exact w.congrUp ox.1 oy.1 a
  · rw [upn_ne n0]; exact w.s0
  · rcases cs c h with h | rfl
    · rw [upn_ne h]; exact w.s1 c h0 h
    · rw [upd_at]; exact s0
  · rcases cs c h with h | rfl
    · rw [upn_ne h, upn_ne (Nat.lt_trans (w.l c h0 h) h)]; exact w.lo c h0 h
    · rw [upd_at, upn_ne ox.1]; exact ox.2
  · rcases cs c h with h | rfl
    · rw [upn_ne h, upn_ne (Nat.lt_trans (w.r c h0 h) h)]; exact w.ro c h0 h
    · rw [upd_at, upn_ne oy.1]; exact oy.2
theorem Wv.one : Wv (fun _ => (0, 0)) (fun _ => (0, 1)) (fun _ => 2) 1 :=
  { l := fun c h0 h => by omega, r := fun c h0 h => by omega, lr := fun c h0 h => by omega, n0 := by omega, s0 := rfl, s1 := fun c h0 h => by omega, lo := fun c h0 h => by omega, ro := fun c h0 h => by omega }
end
end Tl

namespace K26
open PySem PySem.Spec PyProof.Rows L2 Dk Tl
/-- one step of a reading -/
local macro_rules | `(tactic| walk_at "rd1") => `(tactic| first
  | ((with_reducible refine r_var (v := ?rv) ?rh ?_); (case rh => rfl))
  | with_reducible refine r_c ?_
  | with_reducible refine r_seq ?_
  | with_reducible refine r_asg ?_
  | with_reducible refine r_par ?_
  | with_reducible refine r_gname ?_
  | with_reducible refine r_op ?_
  | with_reducible refine r_forLo ?_
  | with_reducible refine r_forTo ?_
  | with_reducible refine r_forSo ?_
  | with_reducible refine r_forRo ?_
  | with_reducible refine r_lcRo ?_
  | with_reducible refine r_lcLo ?_
  | with_reducible refine r_yes ?_
  | with_reducible refine r_callK0 ?_
  | with_reducible refine r_break ?_
  | with_reducible refine r_forR2o ?_
  | with_reducible refine r_forEo ?_
  | with_reducible refine r_forESo ?_
  | with_reducible refine r_xfo ?_
  | with_reducible refine r_noP ?_
  | with_reducible refine r_part ?_
  | with_reducible refine r_pI ?_
  | with_reducible refine r_gcons ?_
  | with_reducible refine r_gnil ?_
  | with_reducible refine r_mkO ?_
  | with_reducible refine r_un ?_
  | with_reducible refine r_addI ?_
  | with_reducible refine r_I0 ?_
  | with_reducible refine r_U ?_
  | with_reducible refine r_cons ?_
  | with_reducible refine r_nil ?_
  | with_reducible refine r_CB ?_
  | with_reducible refine r_call ?_
  | with_reducible refine r_callS ?_
  | with_reducible refine r_int ?_
  | with_reducible refine r_max ?_
  | with_reducible refine r_min ?_
  | with_reducible refine r_test ?_
  | with_reducible refine r_B ?_
  | with_reducible refine r_blv ?_
  | with_reducible refine r_and ?_
  | with_reducible refine r_or ?_
  | with_reducible refine r_not ?_
  | with_reducible refine r_andV ?_
  | with_reducible refine r_orV ?_
  | with_reducible refine r_notV ?_
  | with_reducible refine r_ifE ?_
  | with_reducible refine r_ifS ?_
  | with_reducible refine r_ret ?_
  | with_reducible refine r_retN ?_
  | with_reducible refine r_drop ?_
  | with_reducible refine r_next ?_
  | with_reducible refine r_sl ?_
  | with_reducible refine r_gsub ?_
  | with_reducible refine r_bm ?_
  | with_reducible refine r_tup ?_
  | with_reducible refine r_lst ?_
  | with_reducible refine r_isN ?_
  | with_reducible refine r_notN ?_
  | with_reducible refine r_itt ?_
  | with_reducible refine r_iff ?_
  | with_reducible refine r_ittN ?_
  | with_reducible refine r_iffN ?_
  | ((with_reducible refine r_ittD ?rh ?_); (case rh => rfl))
  | ((with_reducible refine r_iffD ?rh ?_); (case rh => rfl))
  | ((with_reducible refine r_modP ?rh ?_); (case rh => decide))
  | ((with_reducible refine r_eq ?rh ?_); (case rh => rfl))
  | ((with_reducible refine r_eqP ?rh ?_); (case rh => rfl))
  | ((with_reducible refine r_ne ?rh ?_); (case rh => rfl)))
local macro_rules | `(tactic| walk_at "rd") => `(tactic| repeat walk_at "rd1")
local macro_rules | `(tactic| walk_at "isi") => `(tactic| first | refine r_isi (b := true) (by assumption) (by decide +kernel) ?_ | refine r_isi (b := false) (by assumption) (by decide +kernel) ?_)
local macro_rules | `(tactic| walk_at "rs1") => `(tactic| first
  | with_reducible refine r_seq ?_
  | with_reducible refine r_asg ?_
  | with_reducible refine r_gname ?_
  | with_reducible refine r_ret ?_)
local macro_rules | `(tactic| walk_at "rs") => `(tactic| repeat walk_at "rs1")

section
variable {P : Program} {w : World} {K : PySem.W.Frag} {mg : Str → Option Value} {base : Heap}
theorem Brs.step {G : Hp} {xs : List V} {L R : Nat → Sg} {sz : Nat → Nat} {n s : Nat} {x y : Sg} {v : V} (br : Brs G xs L R sz n) (ox : Ok sz n x) (oy : Ok sz n y) (a : A L R x y) (s0 : 0 < s) (hv : BtV G v x y true s) (hn : n + 1 ≤ 250) :
    Brs G (xs ++ [v]) (upn L n x) (upn R n y) (upn sz n s) (n + 1) := by
  refine ⟨by rw [List.length_append, br.len]; rfl, fun c u hu => ?_, br.wv.step ox oy a s0, hn⟩
  by_cases hc : c < xs.length
  · rw [List.getElem?_append_left hc] at hu
    rw [br.len] at hc
    rw [upn_ne hc, upn_ne hc, upn_ne hc]
    exact br.at_ c u hu
  · have h2 := (List.getElem?_eq_some_iff.mp hu).1
    rw [List.length_append] at h2
    have e : c = n := by
      have := br.len
      simp at h2
      omega
    subst e
    rw [List.getElem?_append_right (by rw [br.len]; exact Nat.le_refl _), br.len, Nat.sub_self] at hu
    rw [upd_at, upd_at, upd_at, ← Option.some.inj hu, decide_eq_true br.wv.n0]
    exact hv
def spWorld : Sp := fun vs H Q _ => ∃ (b h : Addr) (G : Hp), vs = [.ref b] ∧ W2 b h G H ∧ ∀ p G' H' L R sz n, Wk b h G H G' H' → Wr G' p L R sz n → n ≤ 30 → Q (.ref p) H'
theorem ok_law_world (T : Txt K mg) : FnOk P w K mg base CX0 4 T.a_law_world T.d_law_world ["_law_box"] spWorld := by
  refine T.F_law_world.ok sc_law_world (fun vs H Q E h => ?_) (fun cdv A outer s H vs Q E hr h => ?_)
  · obtain ⟨b, h, G, rfl, _⟩ := h
    rfl
  · obtain ⟨b, h, G, rfl, w2, q⟩ := h
    refine ⟨_, (pss_cons (ps_set (i := 1) sc_law_world.nd rfl (Or.inl rfl) (pe_call (ok_law_pick T) (hr.mono (by decide)) (by rfl) T.g_law_pick T.F_law_pick.kp T.b_law_pick .nil pass0 (pa_cons (pv 0) (pa_cons pe_int pa_nil))))
        (pss_cons (ps_set (i := 2) sc_law_world.nd rfl (Or.inl rfl) (pe_tup (pa_cons (pe_tup (pa_cons pe_int (pa_cons (pe_tup (pa_cons pe_int (pa_cons pe_int pa_nil))) (pa_cons (pe_tup (pa_cons pe_int (pa_cons pe_int pa_nil))) (pa_cons pe_str pa_nil))))) pa_nil)))
        (pss_cons (ps_set (i := 3) sc_law_world.nd rfl (Or.inl rfl) (pe_ix ix_seq (pe_lst (pa_cons pe_int (pa_cons pe_int (pa_cons pe_int (pa_cons pe_int (pa_cons pe_int (pa_cons pe_int (pa_cons pe_int (pa_cons pe_int (pa_cons pe_int (pa_cons pe_int (pa_cons pe_int (pa_cons pe_int pa_nil))))))))))))) (pe_call (ok_law_pick T) (hr.mono (by decide)) (by rfl) T.g_law_pick T.F_law_pick.kp T.b_law_pick .nil pass0 (pa_cons (pv 0) (pa_cons pe_int pa_nil))) (fun _ _ => rfl)))
        (pss_cons (ps_set (i := 4) sc_law_world.nd rfl (Or.inl rfl) pe_int)
        (Evl.pss_cut (ps_if (pt_cmpR (op_eqU hr.units) (pe_call (ok_law_pick T) (hr.mono (by decide)) (by rfl) T.g_law_pick T.F_law_pick.kp T.b_law_pick .nil pass0 (pa_cons (pv 0) (pa_cons pe_int pa_nil))) pe_int (nomark _)) (pss_cons (ps_set (i := 3) sc_law_world.nd rfl (Or.inl rfl) (pe_op op_addU pe_int (pe_call (ok_law_pick T) (hr.mono (by decide)) (by rfl) T.g_law_pick T.F_law_pick.kp T.b_law_pick .nil pass0 (pa_cons (pv 0) (pa_cons pe_int pa_nil)))))
        (pss_cons (ps_set (i := 1) sc_law_world.nd rfl (Or.inl rfl) (pe_op op_addU pe_int (pe_call (ok_law_pick T) (hr.mono (by decide)) (by rfl) T.g_law_pick T.F_law_pick.kp T.b_law_pick .nil pass0 (pa_cons (pv 0) (pa_cons pe_int pa_nil)))))
        (pss_one (ps_set (i := 4) sc_law_world.nd rfl (Or.inl rfl) pe_int)))) pss_nil)
        (pss_cons (ps_for PassesOwn.never rfl (pi_range1 (by rfl) T.n_range (pa_cons (pv 3) pa_nil)) (pg_name (i := 5) sc_law_world.nd rfl (Or.inl rfl)) (pss_cons (ps_set (i := 6) sc_law_world.nd rfl (Or.inl rfl) (pe_call (ok_law_all T) (hr.mono (by decide)) (by rfl) T.g_law_all T.F_law_all.kp T.b_law_all .nil pass0 (pa_cons (pv 2) pa_nil)))
        (pss_cons (ps_asg (pe_call (ok_law_pair T) hr (by rfl) T.g_law_pair T.F_law_pair.kp T.b_law_pair .nil pass0 (pa_cons (pv 0) (pa_cons (pe_call (ok_law_closed T) (hr.mono (by decide)) (by rfl) T.g_law_closed T.F_law_closed.kp T.b_law_closed .nil pass0 (pa_cons (pv 2) pa_nil)) (pa_cons (pv 1) pa_nil)))) (pg_tup rfl (pgs_cons (pg_name (i := 7) sc_law_world.nd rfl (Or.inl rfl)) (pgs_cons (pg_name (i := 8) sc_law_world.nd rfl (Or.inl rfl)) pgs_nil))))
        (pss_cons (ps_set (i := 9) sc_law_world.nd rfl (Or.inl rfl) (pe_op op_addU pe_int (pe_call (ok_law_pick T) (hr.mono (by decide)) (by rfl) T.g_law_pick T.F_law_pick.kp T.b_law_pick .nil pass0 (pa_cons (pv 0) (pa_cons pe_int pa_nil)))))
        (pss_one (ps_set (i := 2) sc_law_world.nd rfl (Or.inl rfl) (pe_op op_addU (pv 2) (pe_tup (pa_cons (pe_tup (pa_cons (pv 9) (pa_cons (pe_ix ix_seq (pv 6) (pv 7) (fun _ _ => rfl)) (pa_cons (pe_ix ix_seq (pv 6) (pv 8) (fun _ _ => rfl)) (pa_cons (pe_call (ok_law_say T) (hr.mono (by decide)) (by rfl) T.g_law_say T.F_law_say.kp T.b_law_say .nil pass0 (pa_cons (pv 0) (pa_cons (pv 4) pa_nil))) pa_nil))))) pa_nil)))))))))
        (pss_one (ps_ret (pv 2))))))))), ?_⟩
    have k0 := Wk.start w2
    walk_at "rd"
    refine ⟨b, h, 5, rfl, k0.w.st, by decide, by decide, fun m1 H1 m10 m11 D1 => ?_⟩
    have k1 := k0.dr D1
    walk_at "rd"
    refine r_small nsz fun p1 n1 => ?_
    obtain ⟨G4, H4, e4, k4, h4, eG4⟩ := k1.new n1 (.tup [.int 0, .int 0])
    rw [← e4]
    walk_at "rd"
    refine r_small nsz fun p2 n2 => ?_
    obtain ⟨G5, H5, e5, k5, h5, eG5⟩ := k4.new n2 (.tup [.int 0, .int 1])
    rw [← e5]
    walk_at "rd"
    refine r_small nsz fun p3 n3 => ?_
    obtain ⟨G6, H6, e6, k6, h6, eG6⟩ := k5.new n3 (.tup [.int 0, .ref p1, .ref p2, .str ""])
    rw [← e6]
    walk_at "rd"
    refine r_small nsz fun p4 n4 => ?_
    obtain ⟨G7, H7, e7, k7, h7, eG7⟩ := k6.new n4 (.tup [.ref p3])
    rw [← e7]
    walk_at "rd"
    refine r_small nsz fun pm nm => ?_
    obtain ⟨ml, hml⟩ : ∃ ml : List V, ml = [.int 8, .int 7, .int 9, .int 6, .int 5, .int 8, .int 3, .int 4, .int 7, .int 2, .int 0, .int 1] := ⟨_, rfl⟩
    rw [← hml]
    obtain ⟨Gm, Hm, em, km, hm, eGm⟩ := k7.new nm (.lst ml)
    rw [← em]
    walk_at "rd"
    refine ⟨b, h, 12, rfl, km.w.st, by decide, by decide, fun m2 H2 m20 m21 D2 => ?_⟩
    have k2 := km.dr D2
    obtain ⟨ma0, hma, ma00, ma01⟩ : ∃ ma : Int, atI ml m2 = some (.int ma) ∧ 0 ≤ ma ∧ ma ≤ 9 := by
      rw [hml]
      have c : m2 = 0 ∨ m2 = 1 ∨ m2 = 2 ∨ m2 = 3 ∨ m2 = 4 ∨ m2 = 5 ∨ m2 = 6 ∨ m2 = 7 ∨ m2 = 8 ∨ m2 = 9 ∨ m2 = 10 ∨ m2 = 11 := by omega
      rcases c with rfl | rfl | rfl | rfl | rfl | rfl | rfl | rfl | rfl | rfl | rfl | rfl <;> exact ⟨_, rfl, by decide, by decide⟩
    walk_at "rd"
    refine r_ixL (sqL (k2.g hm)) hma ?_
    walk_at "rd"
    refine ⟨fun σ H' => ∃ (mo ma mt : Int), σ = [some (.ref b), some (.int mo), some (.ref p4), some (.int ma), some (.int mt), none, none, none, none, none] ∧ Wk b h G H Gm H' ∧ 0 ≤ ma ∧ ma ≤ 27 ∧ 1 ≤ mt ∧ mt ≤ 3, ?_, ?_⟩
    · walk_at "rd"
      refine ⟨b, h, 6, rfl, k2.w.st, by decide, by decide, fun d H3 d0 d1 D3 => ?_⟩
      have k3 := k2.dr D3
      walk_at "rd"
      refine r_ite (fun _ => ?_) (fun _ => ?_)
      · walk_at "rd"
        refine ⟨b, h, 14, rfl, k3.w.st, by decide, by decide, fun d4 H4 d40 d41 D4 => ?_⟩
        have k4 := k3.dr D4
        walk_at "rd"
        refine ⟨b, h, 2, rfl, k4.w.st, by decide, by decide, fun d5 H5 d50 d51 D5 => ?_⟩
        have k5 := k4.dr D5
        walk_at "rd"
        exact ⟨_, _, _, rfl, k5, by omega, by omega, by omega, by omega⟩
      · walk_at "rd"
        exact ⟨_, _, _, rfl, k3, by omega, by omega, by omega, by omega⟩
    rintro σ H3 ⟨mo, ma, mt, rfl, k3, ma0, ma1, mt0, mt1⟩
    have h7 := eGm _ _ h7
    walk_at "rd"
    refine l_R (by omega) (by omega) (fun i σ H' => ∃ p G' L R sz y5 y6 y7 y8 y9, σ = [some (.ref b), some (.int mo), some (.ref p), some (.int ma), some (.int mt), y5, y6, y7, y8, y9] ∧ Wk b h G H G' H' ∧ Wr G' p L R sz (i + 1)) ⟨p4, Gm, fun _ => (0, 0), fun _ => (0, 1), fun _ => 2, none, none, none, none, none, rfl, k3, _, h7, ⟨rfl, fun c x hx => ?_, Wv.one, by decide⟩⟩ (fun i σ H' hi hW => ?_) (fun σ H' hW => ?_)
    · cases c with
      | zero =>
        have e : x = .ref p3 := by simpa using hx.symm
        subst e
        exact ⟨p3, 0, .ref p1, .ref p2, "", rfl, eGm _ _ (eG7 _ _ h6), ⟨p1, rfl, eGm _ _ (eG7 _ _ (eG6 _ _ (eG5 _ _ h4)))⟩, ⟨p2, rfl, eGm _ _ (eG7 _ _ (eG6 _ _ h5))⟩, fun z => absurd z (by decide), by decide⟩
      | succ c => simp at hx
    · obtain ⟨p, G', L, R, sz, y5, y6, y7, y8, y9, rfl, k, wr⟩ := hW
      walk_at "rd"
      refine ⟨p, L, R, sz, i + 1, G', rfl, k.w.g, wr, fun mk G1 H1 ms t1 _ hm hms => ?_⟩
      have k1 := k.pure t1
      have wr1 := wr.up t1.gg
      walk_at "rd"
      refine ⟨p, L, R, sz, i + 1, rfl, wr1.up k1.w.g, fun tb H2 U e2 ht ht' tl => ?_⟩
      obtain ⟨G2, k2, g2, eG2⟩ := k1.know e2 ht ht'
      obtain ⟨ws, hws, br⟩ := wr1.up eG2
      walk_at "rd"
      refine ⟨b, h, tb, L, R, sz, i + 1, U, mo, G2, rfl, k2.w, g2, br.wv, tl, by rw [tl.1]; exact Nat.le_trans (br.off_le (Nat.le_refl _)) (by decide), fun pr G3 H3 x y k23 hpr hx hy hxy => ?_⟩
      have k3 := k2.sub k23.t k23.w.st
      obtain ⟨sx, sy, ox, oy, ex, ey, iff⟩ := tl.bit_lt hx hy
      have hA := iff.mp hxy
      have g3 := k23.t.gg
      refine r_gtup (sqT (k3.g hpr)) rfl ?_
      walk_at "rd"
      refine ⟨b, h, 9, rfl, k3.w.st, by decide, by decide, fun wh H4 w0 w1 D4 => ?_⟩
      have k4 := k3.dr D4
      have hms4 := (hms.up eG2).up g3
      obtain ⟨v1, hv1, sv1⟩ := hms4.get' (marks_at ox)
      obtain ⟨v2, hv2, sv2⟩ := hms4.get' (marks_at oy)
      rw [ex] at hv1
      rw [ey] at hv2
      have hm4 := k4.g (g3 _ _ (eG2 _ _ hm))
      walk_at "rd"
      refine r_ixL (sqL hm4) (atI_nat hv1) ?_
      walk_at "rd"
      refine r_ixL (sqL hm4) (atI_nat hv2) ?_
      walk_at "rd"
      refine ⟨b, h, mt, rfl, k4.w.st, by omega, by omega, fun t H5 t0 t1 D5 => ?_⟩
      have k5 := k4.dr D5
      walk_at "rd"
      refine r_small nsz fun p6 n6 => ?_
      obtain ⟨G6, H6, e6, k6, h6, eG6⟩ := k5.new n6 (.tup [.int (1 + wh), v1, v2, .str t])
      rw [← e6]
      walk_at "rd"
      refine r_small nsz fun p7 n7 => ?_
      obtain ⟨G7, H7, e7, k7, h7, eG7⟩ := k6.new n7 (.tup [.ref p6])
      rw [← e7]
      have br7 := ((br.up g3).up eG6).up eG7
      have hws7 := k7.g (eG7 _ _ (eG6 _ _ (g3 _ _ hws)))
      walk_at "rd"
      refine r_catT (sqT hws7) (sqT (k7.g h7)) (fun z => ?_) (by simp) (by rw [br7.len]; simp; omega) fun p8 n8 => ?_
      · have z2 := br7.len
        rw [z] at z2
        simp at z2
      obtain ⟨G8, H8, e8, k8, h8, eG8⟩ := k7.new n8 (.tup (ws ++ [.ref p6]))
      rw [← e8]
      walk_at "rd"
      exact ⟨p8, G8, _, _, _, _, _, _, _, _, rfl, k8, _, h8, (br7.up eG8).step ox oy hA t0 ⟨p6, 1 + wh, v1, v2, t, rfl, eG8 _ _ (eG7 _ _ h6), ((sv1.up eG6).up eG7).up eG8, ((sv2.up eG6).up eG7).up eG8, fun _ => rfl, by omega⟩ (by omega)⟩
    · obtain ⟨p, G', L, R, sz, y5, y6, y7, y8, y9, rfl, k, wr⟩ := hW
      walk_at "rd"
      exact q p G' H' L R sz _ k wr (by omega)
end
end K26

/-! list(zip(a, b)), a and b each a list, a tuple or a text -/
namespace Zl
open PySem PySem.Spec PyProof.Rows L2 Dk Zp PySem.W
section
variable {prog : Program} {w : World} {A : Around} {E : Value → Shared → Prop} {s : Shared} {z TI TO T i1 i2 : Addr} {fp1 fp2 : List Addr} {f : Bool} {oT : Obj} {i n1 n2 : Nat} {P1 P2 : Nat → Value → Prop} {St1 St2 : Nat → Heap → Prop}
theorem next_item_held {Q : Value → Shared → Prop} (S : ZipSep2 z TI TO i1 i2 fp1 fp2) (D1 : Draws prog w A i1 fp1 n1 P1 St1) (D2 : Draws prog w A i2 fp2 n2 P2 St2)
    (hz : IsZipHeld s.heap z TI TO T f) (hT : s.heap.get? T = some oT) (hTI : IsTupOf2 s.heap TI (.ref i1) (.ref i2)) (st1 : St1 i s.heap) (st2 : St2 i s.heap) (hlt1 : i < n1) (hlt2 : i < n2)
    (hQ : ∀ x1 x2 h' tk, P1 i x1 → P2 i x2 → IsZipHeld h' z TI TO T true → St1 (i + 1) h' → St2 (i + 1) h' → IsTupOf2 h' s.heap.objs.size x1 x2 → h'.objs.size = s.heap.objs.size + 1 →
      (∀ c o, c ≠ z → c ≠ i1 → c ≠ i2 → s.heap.get? c = some o → h'.get? c = some o) → Q (.ref s.heap.objs.size) { s with heap := h', toks := tk }) :
    wpAny (model prog w) A (Builtin.«zip.__next__» ⟨[.ref z], []⟩) (fun fin s' => ∃ v, fin = .done (.ret v) ∧ Q v s') E s := by
  obtain ⟨hp, g, d, tk0, os⟩ := s
  show wpAny _ _ (field (.ref z) 2 >>= _) _ _ _
  refine wpAny_bind (wpAny_field hz rfl (x := .bool false) rfl ?_)
  show wpAny _ _ (field (.ref z) 3 >>= _) _ _ _
  refine wpAny_bind (wpAny_field hz rfl (x := .ref TI) rfl ?_)
  refine wpAny_bind (wpAny_seqItems hTI rfl ?_)
  show wpAny _ _ (Builtin.SmallTypes.ownedTupleIsFree (.ref z) >>= _) _ _ _
  refine wpAny_bind (wpAny_tupleHeld_zip hz hT fun h₁ hz₁ hs₁ => ?_)
  replace hs₁ : Heap.SameBut z hp h₁ := hs₁
  simp only [Bool.false_eq_true, if_false]
  refine wpAny_bind ?_
  rw [← Array.forIn_toList]
  simp only [List.forIn_cons, List.forIn_nil]
  refine wpAny_bind (wpAny_bind (wpAny_holding ?_))
  show wpAny _ _ (Builtin.SmallTypes.nextOf (.ref i1) >>= _) _ _ ⟨h₁, g, d, tk0, os⟩
  refine wpAny_bind (D1.item i _ _ _ hlt1 (D1.over st1 hs₁ S.zf1) fun x1 p1 tk1 hx1 sn1 hp1 => wpAny_pure ?_)
  replace hp1 : Heap.SameBut i1 h₁ p1 := hp1
  refine wpAny_pure ?_
  refine wpAny_bind (wpAny_bind (wpAny_holding ?_))
  show wpAny _ _ (Builtin.SmallTypes.nextOf (.ref i2) >>= _) _ _ ⟨p1, g, d, tk1, os⟩
  refine wpAny_bind (D2.item i _ _ _ hlt2 (D2.over (D2.over st2 hs₁ S.zf2) hp1 S.sep1_2) fun x2 p2 tk2 hx2 sn2 hp2 => wpAny_pure ?_)
  replace hp2 : Heap.SameBut i2 p1 p2 := hp2
  refine wpAny_pure (wpAny_pure ?_)
  show wpAny _ _ (newTuple [x1, x2] >>= _) _ _ ⟨p2, g, d, tk2, os⟩
  refine wpAny_bind (wpAny_newTuple ?_)
  have hsz : p2.objs.size = hp.objs.size := by rw [hp2.1, hp1.1, hs₁.1]
  have hz₃ : IsZipHeld p2 z TI TO T true := hp2.extBut _ _ S.zi2 (hp1.extBut _ _ S.zi1 hz₁)
  have hk : ∀ c o, c ≠ z → c ≠ i1 → c ≠ i2 → hp.get? c = some o → p2.get? c = some o := fun c o c1 c2 c3 e => hp2.extBut _ _ c3 (hp1.extBut _ _ c2 (hs₁.extBut _ _ c1 e))
  have hj1 : St1 (i + 1) p2 := D1.over sn1 hp2 S.sep2_1
  refine wpAny_pure ⟨_, rfl, ?_⟩
  show Q (.ref p2.objs.size) ⟨p2.push { cls := .type "tuple", data := .seq #[x1, x2] }, g, d, tk2, os⟩
  have up : ∀ c o, p2.get? c = some o → (p2.push { cls := .type "tuple", data := .seq #[x1, x2] }).get? c = some o := fun c o e => Heap.get?_push_of_some _ e
  have hpT : IsTupOf2 (p2.push { cls := .type "tuple", data := .seq #[x1, x2] }) p2.objs.size x1 x2 := Heap.get?_push_size _ rfl
  have hz4 : (p2.push { cls := .type "tuple", data := .seq #[x1, x2] }).objs.size = p2.objs.size + 1 := Heap.size_push ..
  rw [hsz] at hpT hz4 ⊢
  exact hQ x1 x2 _ tk2 hx1 hx2 (up _ _ hz₃) (D1.frame _ _ _ hj1 fun b _ o e => up b o e) (D2.frame _ _ _ sn2 fun b _ o e => up b o e) hpT hz4 fun c o c1 c2 c3 e => up c o (hk c o c1 c2 c3 e)
theorem next_end_held {Q : Fin → Shared → Prop} (S : ZipSep2 z TI TO i1 i2 fp1 fp2) (D1 : Draws prog w A i1 fp1 n1 P1 St1) (D2 : Draws prog w A i2 fp2 n2 P2 St2)
    (hz : IsZipHeld s.heap z TI TO T f) (hT : s.heap.get? T = some oT) (hTI : IsTupOf2 s.heap TI (.ref i1) (.ref i2)) (st1 : St1 i s.heap) (st2 : St2 i s.heap) (hle1 : i ≤ n1) (hle2 : i ≤ n2) (hend : i = n1 ∨ i = n2)
    (hE : ∀ h' tk e, (∀ c o, c ≠ z → c ≠ i1 → c ≠ i2 → s.heap.get? c = some o → h'.get? c = some o) → (∃ o, h'.get? e = some o ∧ o.cls = .type "StopIteration") → E (.ref e) { s with heap := h', toks := tk }) :
    wpAny (model prog w) A (Builtin.«zip.__next__» ⟨[.ref z], []⟩) Q E s := by
  obtain ⟨hp, g, d, tk0, os⟩ := s
  show wpAny _ _ (field (.ref z) 2 >>= _) _ _ _
  refine wpAny_bind (wpAny_field hz rfl (x := .bool false) rfl ?_)
  show wpAny _ _ (field (.ref z) 3 >>= _) _ _ _
  refine wpAny_bind (wpAny_field hz rfl (x := .ref TI) rfl ?_)
  refine wpAny_bind (wpAny_seqItems hTI rfl ?_)
  show wpAny _ _ (Builtin.SmallTypes.ownedTupleIsFree (.ref z) >>= _) _ _ _
  refine wpAny_bind (wpAny_tupleHeld_zip hz hT fun h₁ hz₁ hs₁ => ?_)
  replace hs₁ : Heap.SameBut z hp h₁ := hs₁
  simp only [Bool.false_eq_true, if_false]
  refine wpAny_bind ?_
  rw [← Array.forIn_toList]
  simp only [List.forIn_cons, List.forIn_nil]
  refine wpAny_bind (wpAny_bind (wpAny_holding ?_))
  show wpAny _ _ (Builtin.SmallTypes.nextOf (.ref i1) >>= _) _ _ ⟨h₁, g, d, tk0, os⟩
  by_cases hlt1 : i < n1
  · refine wpAny_bind (D1.item i _ _ _ hlt1 (D1.over st1 hs₁ S.zf1) fun x1 p1 tk1 hx1 sn1 hp1 => wpAny_pure ?_)
    replace hp1 : Heap.SameBut i1 h₁ p1 := hp1
    have hi2 : i = n2 := by omega
    refine wpAny_pure ?_
    refine wpAny_bind (wpAny_bind (wpAny_holding ?_))
    show wpAny _ _ (Builtin.SmallTypes.nextOf (.ref i2) >>= _) _ _ ⟨p1, g, d, tk1, os⟩
    refine wpAny_bind (D2.done ⟨p1, g, d, tk1, os⟩ _ _ (by rw [← hi2]; exact D2.over (D2.over st2 hs₁ S.zf2) hp1 S.sep1_2) fun q e hq he => ?_)
    replace hq : Heap.ExtBut i2 p1 q := hq
    exact hE q tk1 e (fun c o cz c1 c2 x => hq _ _ c2 (hp1.extBut _ _ c1 (hs₁.extBut _ _ cz x))) he
  · have hi1 : i = n1 := by omega
    refine wpAny_bind (D1.done ⟨h₁, g, d, tk0, os⟩ _ _ (by rw [← hi1]; exact D1.over st1 hs₁ S.zf1) fun q e hq he => ?_)
    replace hq : Heap.ExtBut i1 h₁ q := hq
    exact hE q tk0 e (fun c o cz c1 c2 x => hq _ _ c1 (hs₁.extBut _ _ cz x)) he
theorem pyNext_item_held {Q : Option Value → Shared → Prop} (S : ZipSep2 z TI TO i1 i2 fp1 fp2) (D1 : Draws prog w A.in1 i1 fp1 n1 P1 St1) (D2 : Draws prog w A.in1 i2 fp2 n2 P2 St2)
    (hz : IsZipHeld s.heap z TI TO T f) (hT : s.heap.get? T = some oT) (hTI : IsTupOf2 s.heap TI (.ref i1) (.ref i2)) (st1 : St1 i s.heap) (st2 : St2 i s.heap) (hlt1 : i < n1) (hlt2 : i < n2)
    (hQ : ∀ x1 x2 h' tk, P1 i x1 → P2 i x2 → IsZipHeld h' z TI TO T true → St1 (i + 1) h' → St2 (i + 1) h' → IsTupOf2 h' s.heap.objs.size x1 x2 → h'.objs.size = s.heap.objs.size + 1 →
      (∀ c o, c ≠ z → c ≠ i1 → c ≠ i2 → s.heap.get? c = some o → h'.get? c = some o) → Q (some (.ref s.heap.objs.size)) { s with heap := h', toks := tk }) :
    wpAny (model prog w) A (pyNext (.ref z)) Q E s := by
  have hTy : s.TypeIs (.ref z) "zip" := ⟨_, hz, rfl⟩
  unfold pyNext
  exact wpAny_bind (wpAny_attempt (wpAny_callSpecial?_slot (name := Str.ofString "__next__") hTy F.slot_zip_next
    (wpAny_call_entry F.slot_zip_next hTy F.entry_zip_next
      (next_item_held S D1 D2 hz hT hTI st1 st2 hlt1 hlt2 fun x1 x2 h' tk y1 y2 b1 d1 d2 b5 b6 b7 => wpAny_pure (hQ x1 x2 h' tk y1 y2 b1 d1 d2 b5 b6 b7)) (F.args_zip_next_1 _))))
theorem pyNext_end_held {Q : Option Value → Shared → Prop} (S : ZipSep2 z TI TO i1 i2 fp1 fp2) (D1 : Draws prog w A.in1 i1 fp1 n1 P1 St1) (D2 : Draws prog w A.in1 i2 fp2 n2 P2 St2)
    (hz : IsZipHeld s.heap z TI TO T f) (hT : s.heap.get? T = some oT) (hTI : IsTupOf2 s.heap TI (.ref i1) (.ref i2)) (st1 : St1 i s.heap) (st2 : St2 i s.heap) (hle1 : i ≤ n1) (hle2 : i ≤ n2) (hend : i = n1 ∨ i = n2)
    (hQ : ∀ h' tk, (∀ c o, c ≠ z → c ≠ i1 → c ≠ i2 → s.heap.get? c = some o → h'.get? c = some o) → Q none { s with heap := h', toks := tk }) : wpAny (model prog w) A (pyNext (.ref z)) Q E s := by
  have hTy : s.TypeIs (.ref z) "zip" := ⟨_, hz, rfl⟩
  unfold pyNext
  refine wpAny_bind (wpAny_attempt (wpAny_callSpecial?_slot (name := Str.ofString "__next__") hTy F.slot_zip_next
    (wpAny_call_entry F.slot_zip_next hTy F.entry_zip_next (next_end_held S D1 D2 hz hT hTI st1 st2 hle1 hle2 hend fun h' tk e hk he => ?_) (F.args_zip_next_1 _))))
  obtain ⟨o, ho, hc⟩ := he
  refine wpAny_bind (wpAny_isInstance (T := "StopIteration") (b := true) ⟨o, ho, hc⟩ isSubtype_stop ?_)
  exact wpAny_pure (hQ _ _ hk)
end
theorem zip_no_len : typeLookup (.type "zip") "__len__" = pure none := am_miss_of_fast (by decide +kernel)
theorem zip_no_hint : typeLookup (.type "zip") "__length_hint__" = pure none := am_miss_of_fast (by decide +kernel)

section
variable {X : Cx} {pins : List (Addr × Obj)} {σ : L2.St} {H : Hp} {s : Shared} {A : Around}
theorem kd_draws (I : Inv X pins σ H s) (hh : A.handled = none) {k : Kd} {xs : List V} (hq : k.has X.K H xs) {it : Addr} (hne : k.ap it) {tk : Tok} {i : Nat} (st : k.st tk it i s.heap) :
    ∃ (fp : List Addr) (P : Nat → Value → Prop) (St : Nat → Heap → Prop), Draws X.prog X.w A it fp xs.length P St ∧ St i s.heap ∧ (∀ j v, P j v → ∃ x, xs[j]? = some x ∧ RelV x v) ∧ (∀ j h, St j h → k.st tk it j h) ∧ it ∈ fp ∧ ∀ q ∈ fp, q = it ∨ ¬ k.ap q := by
  cases k with
  | l a =>
    obtain ⟨its, rv, p, _⟩ := I.list hq
    have e : its.toArray.size = xs.length := by rw [List.size_toArray]; exact rv.length.symm
    have D := Draws.list (prog := X.prog) (w := X.w) hh it a hne its.toArray
    rw [e] at D
    refine ⟨_, _, _, D, ⟨st, p.isList⟩, fun j v hv => vals_at rv (by simpa using hv), fun j h z => z.1, by simp, fun q hq => ?_⟩
    rcases List.mem_cons.mp hq with z | z
    · exact .inl z
    · exact .inr fun c => c (List.mem_singleton.mp z).symm
  | t a =>
    obtain ⟨its, rv, p, _⟩ := I.tuple hq
    have e : its.toArray.size = xs.length := by rw [List.size_toArray]; exact rv.length.symm
    have D := Draws.tuple (prog := X.prog) (w := X.w) hh it a hne its.toArray
    rw [e] at D
    refine ⟨_, _, _, D, ⟨st, p⟩, fun j v hv => vals_at rv (by simpa using hv), fun j h z => z.1, by simp, fun q hq => ?_⟩
    rcases List.mem_cons.mp hq with z | z
    · exact .inl z
    · exact .inr fun c => c (List.mem_singleton.mp z).symm
  | s z =>
    obtain rfl : xs = sgs z := hq
    have e : z.cps.size = (sgs z).length := by simp [sgs, cs]
    have D := Draws.text (prog := X.prog) (w := X.w) hh it z tk
    rw [e] at D
    refine ⟨_, _, _, D, st, fun j v hv => ?_, fun j h q => q, by simp, fun q hq => .inl (List.mem_singleton.mp hq)⟩
    obtain ⟨c, u, hc, rfl⟩ := hv
    refine ⟨.str ⟨#[c]⟩, ?_, u, rfl⟩
    show ((cs z).map _)[j]? = _
    rw [List.getElem?_map, show (cs z)[j]? = some c by rw [Array.getElem?_toList]; exact hc]
    rfl
theorem has_up {K : PySem.W.Frag} {G G' : Hp} (e : Ex G G') {k : Kd} {xs : List V} (h : k.has K G xs) : k.has K G' xs := by
  cases k with
  | l a => exact SqL.up e h
  | t a => exact SqT.up e h
  | s z => exact h
/-- what the zip knows of the tuple that it gave out -/
def ZO (h : Heap) (z TI TO : Addr) : Option Addr → Prop
  | none => IsZip h z TI TO .none ∧ ∃ x y, IsTupOf2 h TO x y
  | some T => ∃ f oT, IsZipHeld h z TI TO T f ∧ h.get? T = some oT
structure ZSt (k1 k2 : Kd) (tk1 tk2 : Tok) (z TI TO i1 i2 : Addr) (T0 : Option Addr) (i : Nat) (h : Heap) : Prop where
  zo : ZO h z TI TO T0
  to : ∃ o, h.get? TO = some o
  ti : IsTupOf2 h TI (.ref i1) (.ref i2)
  s1 : k1.st tk1 i1 i h
  s2 : k2.st tk2 i2 i h
theorem ZSt.keep {k1 k2 : Kd} {tk1 tk2 : Tok} {z TI TO i1 i2 : Addr} {T0 : Option Addr} {i : Nat} {h h' : Heap} (st : ZSt k1 k2 tk1 tk2 z TI TO i1 i2 T0 i h)
    (k : ∀ b, (b ∈ [z, TI, TO, i1, i2] ∨ T0 = some b) → ∀ o, h.get? b = some o → h'.get? b = some o) : ZSt k1 k2 tk1 tk2 z TI TO i1 i2 T0 i h' where
  zo := by
    have q := st.zo
    cases T0 with
    | none => exact ⟨k z (.inl (by simp)) _ q.1, q.2.imp fun x y => y.imp fun y p => k TO (.inl (by simp)) _ p⟩
    | some T =>
      obtain ⟨f, oT, h1, h2⟩ := q
      exact ⟨f, oT, k z (.inl (by simp)) _ h1, k T (.inr rfl) _ h2⟩
  to := st.to.imp fun o q => k TO (.inl (by simp)) _ q
  ti := k TI (.inl (by simp)) _ st.ti
  s1 := Kd.st_keep st.s1 fun o q => k i1 (.inl (by simp)) o q
  s2 := Kd.st_keep st.s2 fun o q => k i2 (.inl (by simp)) o q
theorem zs_item {E : Value → Shared → Prop} (hh : A.in1.handled = none) (I : Inv X pins σ H s) {k1 k2 : Kd} {xs ys : List V} (hqx : k1.has X.K H xs) (hqy : k2.has X.K H ys) {z TI TO i1 i2 : Addr} (D : Ap z TI TO i1 i2 k1 k2) {tk1 tk2 : Tok} {T0 : Option Addr}
    (hT0 : ∀ T, T0 = some T → T ∉ [z, TI, TO, i1, i2]) {i : Nat} (st : ZSt k1 k2 tk1 tk2 z TI TO i1 i2 T0 i s.heap) (hf : ∀ c ∈ [z, TI, TO, i1, i2], FpOk X pins H c) (hx : i < xs.length) (hy : i < ys.length) {Q : Option Value → Shared → Prop}
    (h : ∀ x y h' tk T1, xs[i]? = some x → ys[i]? = some y → Inv X pins σ (upd H s.heap.objs.size (.tup [x, y])) { s with heap := h', toks := tk } → T1 ∉ [z, TI, TO, i1, i2] → (T1 = s.heap.objs.size ∨ T0 = some T1) →
      ZSt k1 k2 tk1 tk2 z TI TO i1 i2 (some T1) (i + 1) h' → (∀ c ∈ [z, TI, TO, i1, i2], FpOk X pins (upd H s.heap.objs.size (.tup [x, y])) c) → (∀ c o, c ∉ [z, TI, TO, i1, i2] → s.heap.get? c = some o → h'.get? c = some o) → Q (some (.ref s.heap.objs.size)) { s with heap := h', toks := tk }) :
    wpAny (model X.prog X.w) A (pyNext (.ref z)) Q E s := by
  obtain ⟨hzo, ⟨oTO, hTOo⟩, hTI, h1, h2⟩ := st
  obtain ⟨fp1, P1, St1, D1, st1, g1, b1, m1, f1⟩ := kd_draws I hh hqx D.a1.2.2.1 h1
  obtain ⟨fp2, P2, St2, D2, st2, g2, b2, m2, f2⟩ := kd_draws I hh hqy D.a2.2.2.2 h2
  have S := D.sep m1 f1 m2 f2
  have lt : ∀ c ∈ [z, TI, TO, i1, i2], c ≠ TO → c < s.heap.objs.size := fun c hcm hTO => by
    have e' : c = z ∨ c = TI ∨ c = TO ∨ c = i1 ∨ c = i2 := by simpa using hcm
    rcases e' with q | q | q | q | q
    · rw [q]
      cases T0 with
      | none => exact Heap.lt_size hzo.1
      | some T => obtain ⟨_, _, e1, _⟩ := hzo; exact Heap.lt_size e1
    · rw [q]; exact Heap.lt_size hTI
    · exact absurd q hTO
    · rw [q]; obtain ⟨_, e1, _⟩ := Kd.st_obj h1; exact Heap.lt_size e1
    · rw [q]; obtain ⟨_, e2, _⟩ := Kd.st_obj h2; exact Heap.lt_size e2
  have fin : ∀ (u u2 : Value) (h' : Heap) (tk : Nat) (T1 : Addr), P1 i u → P2 i u2 → St1 (i + 1) h' → St2 (i + 1) h' → IsTupOf2 h' s.heap.objs.size u u2 → (∀ c o, c ∉ [z, TI, TO, i1, i2] → s.heap.get? c = some o → h'.get? c = some o) → IsTupOf2 h' TI (.ref i1) (.ref i2) → (∃ o, h'.get? TO = some o) →
      ZO h' z TI TO (some T1) → T1 ∉ [z, TI, TO, i1, i2] → (T1 = s.heap.objs.size ∨ T0 = some T1) → (∀ c ∈ [z, TI, TO, i1, i2], c ≠ s.heap.objs.size) → Q (some (.ref s.heap.objs.size)) { s with heap := h', toks := tk } := fun u u2 h' tk T1 p1 p2 s1' s2' hT hk ti to zo n1 n2 nc => by
    obtain ⟨x, hxx, ru⟩ := g1 _ _ p1
    obtain ⟨y, hyy, ru2⟩ := g2 _ _ p2
    have new : ObjOk X.prog X.w (upd H s.heap.objs.size (.tup [x, y])) h' s.heap.objs.size (.tup [x, y]) :=
      ⟨by show 2 ≤ sizeLine; decide, [u, u2], .cons ru (.cons ru2 .nil), ⟨_, hT, rfl, _, rfl⟩⟩
    have I1 : Inv X pins σ (upd H s.heap.objs.size (.tup [x, y])) { s with heap := h', toks := tk } :=
      I.turnedNew (t' := tk) (ch := [z, TI, TO, i1, i2]) hk hf (Nat.le_refl _) new
    exact h x y h' tk T1 hxx hyy I1 n1 n2 ⟨zo, to, ti, b1 _ _ s1', b2 _ _ s2'⟩ (fun c hc => ⟨by rw [upd_ne (nc c hc)]; exact (hf c hc).1, (hf c hc).2⟩) hk
  cases T0 with
  | none =>
    obtain ⟨hz, x0, y0, hTO⟩ := hzo
    have nc : ∀ c ∈ [z, TI, TO, i1, i2], c ≠ s.heap.objs.size := fun c hc => by
      by_cases e : c = TO
      · rw [e]; exact Nat.ne_of_lt (Heap.lt_size hTO)
      · exact Nat.ne_of_lt (lt c hc e)
    refine wpAny_pyNext_zipD2_item S D1 D2 hz hTI hTO st1 st2 hx hy fun u u2 h' tk p1 p2 z' TO' s1' s2' hT hsz hk => ?_
    exact fin u u2 h' tk s.heap.objs.size p1 p2 s1' s2' hT (fun c o hb q => hk c o (fun q' => hb (by simp [q'])) (fun q' => hb (by simp [q'])) (fun q' => hb (by simp [q'])) (fun q' => hb (by simp [q'])) q)
      (hk _ _ D.TIz D.TITO D.TIi1 D.TIi2 hTI) ⟨_, TO'⟩ ⟨false, _, z', hT⟩ (fun hc => nc _ hc rfl) (.inl rfl) nc
  | some T =>
    obtain ⟨f, oT, hz, hgT⟩ := hzo
    have nT := hT0 T rfl
    have nc : ∀ c ∈ [z, TI, TO, i1, i2], c ≠ s.heap.objs.size := fun c hc z => by
      have q := (hf c hc).1
      by_cases e : c = TO
      · exact Nat.lt_irrefl _ (z ▸ e ▸ Heap.lt_size hTOo)
      · exact Nat.lt_irrefl _ (z ▸ lt c hc e)
    refine pyNext_item_held S D1 D2 hz hgT hTI st1 st2 hx hy fun u u2 h' tk p1 p2 z' s1' s2' hT hsz hk => ?_
    exact fin u u2 h' tk T p1 p2 s1' s2' hT (fun c o hb q => hk c o (fun q' => hb (by simp [q'])) (fun q' => hb (by simp [q'])) (fun q' => hb (by simp [q'])) q)
      (hk _ _ D.TIz D.TIi1 D.TIi2 hTI) ⟨_, hk _ _ D.TOz D.TOi1 D.TOi2 hTOo⟩ ⟨true, oT, z', hk _ _ (fun q => nT (by simp [q])) (fun q => nT (by simp [q])) (fun q => nT (by simp [q])) hgT⟩ nT (.inr rfl) nc
theorem zs_done {E : Value → Shared → Prop} (hh : A.in1.handled = none) (I : Inv X pins σ H s) {k1 k2 : Kd} {xs ys : List V} (hqx : k1.has X.K H xs) (hqy : k2.has X.K H ys) {z TI TO i1 i2 : Addr} (D : Ap z TI TO i1 i2 k1 k2) {tk1 tk2 : Tok} {T0 : Option Addr}
    {i : Nat} (st : ZSt k1 k2 tk1 tk2 z TI TO i1 i2 T0 i s.heap) (hf : ∀ c ∈ [z, TI, TO, i1, i2], FpOk X pins H c) (hx : i ≤ xs.length) (hy : i ≤ ys.length) (he : i = xs.length ∨ i = ys.length) {Q : Option Value → Shared → Prop}
    (h : ∀ h' tk, Inv X pins σ H { s with heap := h', toks := tk } → Q none { s with heap := h', toks := tk }) : wpAny (model X.prog X.w) A (pyNext (.ref z)) Q E s := by
  obtain ⟨hzo, ⟨oTO, hTOo⟩, hTI, h1, h2⟩ := st
  obtain ⟨fp1, P1, St1, D1, st1, g1, b1, m1, f1⟩ := kd_draws I hh hqx D.a1.2.2.1 h1
  obtain ⟨fp2, P2, St2, D2, st2, g2, b2, m2, f2⟩ := kd_draws I hh hqy D.a2.2.2.2 h2
  have S := D.sep m1 f1 m2 f2
  have fin : ∀ h' tk, (∀ c o, c ∉ [z, TI, TO, i1, i2] → s.heap.get? c = some o → h'.get? c = some o) → Q none { s with heap := h', toks := tk } := fun h' tk hk =>
    h h' tk (I.turnedL (t' := tk) (ch := [z, TI, TO, i1, i2]) hk hf)
  cases T0 with
  | none =>
    obtain ⟨hz, x0, y0, hTO⟩ := hzo
    exact wpAny_pyNext_zipD2_end S D1 D2 hz hTI hTO st1 st2 hx hy he fun h' tk hk => fin h' tk fun c o hb q => hk c o (fun q' => hb (by simp [q'])) (fun q' => hb (by simp [q'])) (fun q' => hb (by simp [q'])) (fun q' => hb (by simp [q'])) q
  | some T =>
    obtain ⟨f, oT, hz, hgT⟩ := hzo
    exact pyNext_end_held S D1 D2 hz hgT hTI st1 st2 hx hy he fun h' tk hk => fin h' tk fun c o hb q => hk c o (fun q' => hb (by simp [q'])) (fun q' => hb (by simp [q'])) (fun q' => hb (by simp [q'])) q
/-- a pair of things, by value -/
def PqV (H : Hp) (v : V) (q : V × V) : Prop := ∃ t, v = .ref t ∧ H t = some (.tup [q.1, q.2])
instance : Imm PqV := ⟨fun t h => h.imp fun p z => ⟨z.1, t _ _ z.2⟩⟩
theorem zip_take {α β : Type} {xs : List α} {ys : List β} {i : Nat} {x : α} {y : β} (h1 : xs[i]? = some x) (h2 : ys[i]? = some y) : (xs.zip ys).take (i + 1) = (xs.zip ys).take i ++ [(x, y)] := by
  rw [List.take_add_one, (List.getElem?_zip_eq_some (z := (x, y))).mpr ⟨h1, h2⟩]
  rfl
theorem zl_loop {R : Result → Shared → Prop} {H1 : Hp} {k1 k2 : Kd} {xs ys : List V} (hx1 : k1.has X.K H1 xs) (hy1 : k2.has X.K H1 ys) {z TI TO i1 i2 : Addr} (D : Ap z TI TO i1 i2 k1 k2) {tk1 tk2 : Tok} {S : Addr} (hS1 : H1 S = none) (hSn : S ∉ [z, TI, TO, i1, i2]) (hh : A.in1.in1.handled = none)
    (hz : xs.length ≤ sizeLine) (hz2 : ys.length ≤ sizeLine) (res : Value) (hR : ∀ H' s' acc, Inv X pins σ H' s' → Ex H1 H' → H' S = some (.lst acc) → P2 (PqV H') acc (xs.zip ys) → R (.ok (.ret res)) s') :
    ∀ (k i : Nat) (s : Shared) (H : Hp) (acc : List V) (T0 : Option Addr), min xs.length ys.length - i = k → i ≤ min xs.length ys.length → Inv X pins σ H s → Ex H1 H → H S = some (.lst acc) → P2 (PqV H) acc ((xs.zip ys).take i) → (∀ T, T0 = some T → T ∉ [z, TI, TO, i1, i2] ∧ T ≠ S) →
      ZSt k1 k2 tk1 tk2 z TI TO i1 i2 T0 i s.heap → (∀ c ∈ [z, TI, TO, i1, i2], FpOk X pins H c) → codeAny (model X.prog X.w) A (.builtin "list.extend.loop" ⟨[.ref S, .ref z, res], []⟩) R s := by
  intro k
  induction k with
  | zero =>
    intro i s H acc T0 hk hi I e hS hP hT0 st hf
    refine codeAny_builtin PySem.F.entry_extend_loop ?_
    rw [Around.under_plainId PySem.F.plain_extend_loop _]
    show wpAny _ A.in1 (pyNext (.ref z) >>= _) _ _ _
    refine wpAny_bind (zs_done (A := A.in1) hh I (has_up e hx1) (has_up e hy1) D st hf (by omega) (by omega) (by omega) fun h' tk I' => ?_)
    refine wpAny_pure (hR _ _ acc I' e hS ?_)
    rw [List.take_of_length_le (by rw [List.length_zip]; omega)] at hP
    exact hP
  | succ k ih =>
    intro i s H acc T0 hk hi I e hS hP hT0 st hf
    have al := hP.len
    rw [List.length_take, List.length_zip] at al
    refine codeAny_builtin PySem.F.entry_extend_loop ?_
    rw [Around.under_plainId PySem.F.plain_extend_loop _]
    show wpAny _ A.in1 (pyNext (.ref z) >>= _) _ _ _
    refine wpAny_bind (zs_item (A := A.in1) hh I (has_up e hx1) (has_up e hy1) D (fun T h => (hT0 T h).1) st hf (by omega) (by omega) fun x y h' tk T1 hx hy I1 n1 n2 st' hf' hk' => ?_)
    have hSs : S ≠ s.heap.objs.size := fun q => by
      have z := I.fresh
      rw [← q, hS] at z
      cases z
    have hS2 : (upd H s.heap.objs.size (.tup [x, y])) S = some (.lst acc) := by rw [upd_ne hSs]; exact hS
    obtain ⟨z1, its, n, r, hl, eS⟩ := I1.lstM hS2
    have T1S : T1 ≠ S := by
      rcases n2 with q | q
      · rw [q]; exact Ne.symm hSs
      · exact (hT0 T1 q).2
    show wpAny _ A.in1 (updateSeq S (·.push (Value.ref s.heap.objs.size)) >>= _) _ _ { s with heap := h', toks := tk }
    refine wpAny_bind ?_
    have I2 := I1.lset (ys := acc ++ [.ref s.heap.objs.size]) (its' := its ++ [.ref s.heap.objs.size]) (f := fun a => a.push (Value.ref s.heap.objs.size)) (t' := tk) hS2 eS (by simp) (r.append (.cons (show L2.RelV (V.ref s.heap.objs.size) (Value.ref s.heap.objs.size) from rfl) .nil)) (by rw [List.length_append, List.length_singleton]; omega)
    refine wpAny_updateSeq eS rfl (wpAny_pure ⟨plainId_quiet PySem.F.plain_extend_loop _, ih (i + 1) _ _ (acc ++ [.ref s.heap.objs.size]) (some T1) (by omega) (by omega) I2 ?_ upd_same ?_ ?_ ?_ ?_⟩) ?_ ?_
    · exact Same.mut (e.trans (Same.new (Same.refl H) I.fresh)) hS1
    · rw [zip_take hx hy]
      have tn : Tk H (upd H s.heap.objs.size (.tup [x, y])) := .ex (Same.new (Same.refl H) I.fresh)
      have tp := Tk.put (o := .lst (acc ++ [.ref s.heap.objs.size])) hS2
      exact (p2_imm (tn.trans tp) hP).snoc (imm tp ⟨_, rfl, upd_same⟩)
    · intro T hT
      cases hT
      exact ⟨n1, T1S⟩
    · refine st'.keep fun b hb o q => (Heap.get?_update_other _ _ ?_).trans q
      rcases hb with hb | hb
      · exact fun q0 => hSn (by rw [q0]; exact hb)
      · cases hb
        exact Ne.symm T1S
    · intro c hc
      exact ⟨by rw [upd_ne fun q0 => hSn (by rw [← q0]; exact hc)]; exact (hf' c hc).1, (hf' c hc).2⟩
    · rw [List.size_toArray]
      omega
    · show (its.toArray.push _).size ≤ sizeLine + 1
      rw [Array.size_push, List.size_toArray]
      omega
def tListZip (K : PySem.W.Frag) (ta : TA) : TE := fun σ H Q => ta σ H fun vs H1 => ∃ (k1 k2 : Kd) (xs ys : List V), vs = [k1.v, k2.v] ∧ k1.has K H1 xs ∧ k2.has K H1 ys ∧ xs.length ≤ sizeLine ∧ ys.length ≤ sizeLine ∧
  ∀ p H' acc, Ex H1 H' → H1 p = none → H' p = some (.lst acc) → P2 (PqV H') acc (xs.zip ys) → Q (.ref p) H'
theorem pe_listZip {e e2 : Expr} {ta : TA} {p p2 pos pos2 : Pos} (hc : X.calm = true) (hg : Gl X "list") (hm : X.mg "list" = none) (hgz : Gl X "zip") (hmz : X.mg "zip" = none) (ha : PA X [e, e2] ta)
    (hs : starEach [.Call (.Name "zip" p2) [e, e2] [] pos2] X.env = (false, eval (.Call (.Name "zip" p2) [e, e2] [] pos2) X.env) :: starEach [] X.env := by rfl)
    (hs2 : starEach [e, e2] X.env = (false, eval e X.env) :: starEach [e2] X.env := by rfl) (hpl : (backTo pos2 (starEach [e2] X.env)).any (·.1) = false := by rfl) :
    PE X (.Call (.Name "list" p) [.Call (.Name "zip" p2) [e, e2] [] pos2] [] pos) (tListZip X.K ta) := by
  refine ⟨fun pins s σ H Q I h => ?_⟩
  refine wpAny_Call_Name_kw (ld_blt I hg hm boot_list ?_)
  refine PyProof.Rows.callWith_type1 ?_ hs rfl
  rw [hs]
  show wpAny _ _ (spliced ((false, eval (.Call (.Name "zip" p2) [e, e2] [] pos2) X.env) :: backTo pos (starEach [] X.env))) _ _ s
  refine Calls.spliced_cons ?_
  refine Call_ (ld_blt I hgz hmz PyProof.Rows.boot_zip (PyProof.Rows.callWith_type1 (thn (ha.run pos2 pins s σ H _ I h) fun us s1 ⟨vs, H1, I1, r1, q1⟩ => ?_) hs2 hpl))
  obtain ⟨k1, k2, xs, ys, ex, hx, hy, lx, ly, q⟩ := q1
  subst ex
  cases r1 with
  | cons r rr =>
    cases rr with
    | cons r' rr =>
      cases rr
      obtain ⟨o1, HH1, tk1, B1, g1, st1, ap1⟩ := Kd.begins I1 hx r
      obtain ⟨o2, HH2, tk2, B2, g2, st2, ap2⟩ := Kd.begins I1 hy r'
      refine zip_begins2 B1 B2 g1 g2 fun h' hz hTI hTO h1 h2 hsz hk => ?_
      have I2 : Inv X pins σ H1 { s1 with heap := h' } := I1.kept (t' := s1.toks) hk
      have fresh5 : ∀ c, c ∈ [s1.heap.objs.size + 4, s1.heap.objs.size + 2, s1.heap.objs.size + 3, s1.heap.objs.size, s1.heap.objs.size + 1] → FpOk X pins H1 c := fun c hcm => by
        have hle : s1.heap.objs.size ≤ c := by
          have e' : c = s1.heap.objs.size + 4 ∨ c = s1.heap.objs.size + 2 ∨ c = s1.heap.objs.size + 3 ∨ c = s1.heap.objs.size ∨ c = s1.heap.objs.size + 1 := by simpa using hcm
          omega
        exact I1.fpOk hle (I1.hok.fresh hle)
      have ap : Ap (s1.heap.objs.size + 4) (s1.heap.objs.size + 2) (s1.heap.objs.size + 3) s1.heap.objs.size (s1.heap.objs.size + 1) k1 k2 :=
        ⟨ne_nat (by omega), ne_nat (by omega), ne_nat (by omega), ne_nat (by omega), ne_nat (by omega), ne_nat (by omega), ne_nat (by omega), ne_nat (by omega), ne_nat (by omega), ne_nat (by omega), ⟨ap1 _ (by omega), ap1 _ (by omega), ap1 _ (by omega), ap1 _ (by omega)⟩, ⟨ap2 _ (by omega), ap2 _ (by omega), ap2 _ (by omega), ap2 _ (by omega)⟩⟩
      have zst : ZSt k1 k2 tk1 tk2 (s1.heap.objs.size + 4) (s1.heap.objs.size + 2) (s1.heap.objs.size + 3) s1.heap.objs.size (s1.heap.objs.size + 1) none 0 h' := ⟨⟨hz, _, _, hTO⟩, ⟨_, hTO⟩, hTI, st1 _ _ h1, st2 _ _ h2⟩
      have lt : ∀ c, c ∈ [s1.heap.objs.size + 4, s1.heap.objs.size + 2, s1.heap.objs.size + 3, s1.heap.objs.size, s1.heap.objs.size + 1] → c < h'.objs.size := fun c hcm => by
        have e' : c = s1.heap.objs.size + 4 ∨ c = s1.heap.objs.size + 2 ∨ c = s1.heap.objs.size + 3 ∨ c = s1.heap.objs.size ∨ c = s1.heap.objs.size + 1 := by simpa using hcm
        have hzl := Heap.lt_size hz
        omega
      generalize hzz : s1.heap.objs.size + 4 = z at *
      generalize s1.heap.objs.size + 2 = TI at *
      generalize s1.heap.objs.size + 3 = TO at *
      generalize s1.heap.objs.size + 1 = i2 at *
      generalize hi1 : s1.heap.objs.size = i1 at *
      refine Calls.spliced_nil ?_
      refine callType_codes (Q₁ := fun obj s₁ => obj = .ref h'.objs.size ∧ s₁ = { s1 with heap := h'.push { cls := .type "list", data := .seq #[] } }) PySem.F.called_list (PySem.F.typeCall_list_1 _) PySem.F.entry_list_init
        (code_list_new _ ⟨rfl, rfl⟩) fun obj s₁ h₁ => ?_
      obtain ⟨rfl, rfl⟩ := h₁
      have hSn : H1 h'.objs.size = none := I2.hok.fresh (Nat.le_refl _)
      have I3 := I2.lnew (ys := []) (its := []) (t' := s1.toks) .nil (Nat.zero_le _)
      have hS : (h'.push { cls := .type "list", data := .seq #[] }).get? h'.objs.size = some { cls := .type "list", data := .seq ([] : List Value).toArray } := Heap.get?_push_size _ rfl
      have sn : h'.objs.size ∉ [z, TI, TO, i1, i2] := fun hcm => Nat.lt_irrefl _ (lt _ hcm)
      refine ⟨⟨_, hS, rfl⟩, PySem.F.args_list_init_2 _ _, ?_⟩
      show wpAny _ X.A.in1.in1 (do let old ← Builtin.List.listItems (.ref h'.objs.size); Builtin.List.listUpdate (.ref h'.objs.size) (fun _ => #[]); letGo old.toList.reverse; Builtin.List.listExtendWith (.ref h'.objs.size) (.ref z) .none) _ _ _
      refine wpAny_bind ?_
      unfold Builtin.List.listItems
      refine wpAny_bind (wpAny_seqItems hS rfl (wpAny_pure ?_))
      show wpAny _ X.A.in1.in1 (updateSeq h'.objs.size (fun _ => #[]) >>= fun _ => letGo (#[] : Array Value).toList.reverse >>= fun _ => Builtin.List.listExtendWith (.ref h'.objs.size) (.ref z) .none) _ _ _
      refine wpAny_bind (wpAny_updateSeq hS rfl ?_)
      have I4 := I3.lset (l := h'.objs.size) (xs := []) (ys := []) (its := []) (its' := []) (f := fun _ => #[]) (t' := s1.toks) upd_same hS rfl .nil (Nat.zero_le _)
      have hS2 := Heap.get?_update_self (Obj.mapSeq (fun _ => (#[] : Array Value))) hS rfl
      refine wpAny_bind (wpAny_letGo ?_)
      unfold Builtin.List.listExtendWith
      have up : ∀ (hh : Heap) (f : Obj → Obj), (∀ b o, b ≠ h'.objs.size → h'.get? b = some o → hh.get? b = some o) → ∀ b o, b ≠ h'.objs.size → h'.get? b = some o → (hh.update h'.objs.size f).get? b = some o := fun hh f q b o n e =>
        (Heap.get?_update_other _ _ (Ne.symm n)).trans (q b o n e)
      have u1 : ∀ b o, b ≠ h'.objs.size → h'.get? b = some o → (h'.push { cls := .type "list", data := .seq #[] }).get? b = some o := fun b o _ e => Heap.get?_push_of_some _ e
      have u2 := up _ (Obj.mapSeq (fun _ => (#[] : Array Value))) u1
      have zS : z ≠ h'.objs.size := Nat.ne_of_lt (Heap.lt_size hz)
      have hz2 := u2 _ _ zS hz
      refine wpAny_bind (wpAny_typeOf (T := "zip") ⟨_, hz2, rfl⟩ ?_)
      have b1 : Builtin.List.listSameRef (.ref h'.objs.size) (.ref z) = false := by simp [Builtin.List.listSameRef, Ne.symm zS]
      have b2 : (Value.type "zip" == Value.type "list") = false := by decide
      have b3 : (Value.type "zip" == Value.type "tuple") = false := by decide
      simp only [b1, b2, b3, Bool.or_false, Bool.false_eq_true, if_false]
      refine wpAny_bind (wpAny_pyIter_zip hz2 ?_)
      refine wpAny_bind (wpAny_holding ?_)
      unfold Builtin.List.listLengthHint
      refine wpAny_bind (wpAny_specialOf (T := "zip") ⟨_, hz2, rfl⟩ zip_no_len ?_)
      show wpAny _ X.A.in1.in1 (specialOf (Value.ref z) (Str.ofString "__length_hint__") >>= _) _ _ _
      refine wpAny_bind (wpAny_specialOf (T := "zip") ⟨_, hz2, rfl⟩ zip_no_hint ?_)
      refine wpAny_pure ?_
      show wpAny _ X.A.in1.in1 (rule "list.extend.makes-room" >>= fun _ => Builtin.List.listTouch (.ref h'.objs.size) >>= fun _ =>
        again (.builtin "list.extend.loop" ⟨[.ref h'.objs.size, .ref z, .none], []⟩)) _ _ _
      refine wpAny_bind (wpAny_rule ?_)
      refine wpAny_bind ?_
      show wpAny _ X.A.in1.in1 (updateSeq h'.objs.size (·.push .none) >>= fun _ => updateSeq h'.objs.size (·.pop)) _ _ _
      refine wpAny_bind (wpAny_updateSeq hS2 rfl ?_)
      have I5 := I4.lset (l := h'.objs.size) (xs := []) (ys := [.non]) (its := []) (its' := [.none]) (f := (·.push .none)) (t' := s1.toks) upd_same hS2 rfl (.cons rfl .nil) (by decide)
      have hS3 := Heap.get?_update_self (Obj.mapSeq (·.push Value.none)) hS2 rfl
      refine wpAny_updateSeq (hz := by seq_fits) hS3 rfl ?_
      have I6 := I5.lset (l := h'.objs.size) (xs := [.non]) (ys := []) (its := [.none]) (its' := []) (f := (·.pop)) (t' := s1.toks) upd_same hS3 rfl .nil (Nat.zero_le _)
      have u4 := up _ (Obj.mapSeq (·.pop)) (up _ (Obj.mapSeq (·.push Value.none)) u2)
      refine wpAny_pure ⟨plainId_quiet PySem.F.plain_extend_loop _, ?_⟩
      have eH : Ex H1 (upd (upd (upd (upd H1 h'.objs.size (.lst [])) h'.objs.size (.lst [])) h'.objs.size (.lst [.non])) h'.objs.size (.lst [])) :=
        Same.mut (Same.mut (Same.mut (Same.new (Same.refl H1) hSn) hSn) hSn) hSn
      refine zl_loop (X := X) (pins := pins) (σ := σ) (A := X.A.in1) (H1 := H1) hx hy ap hSn sn (I.ok.hd hc) lx ly .none (fun H' s' acc I' e' hS' hP => ⟨rfl, .ref _, H', I', rfl, q _ H' acc e' hSn hS' hP⟩)
        _ 0 _ _ [] none rfl (Nat.zero_le _) I6 eH upd_same .nil (fun T h => by cases h) (zst.keep fun b hb o q => u4 b o (fun z => ?_) q) (fun c hcm => ?_)
      · rcases hb with hb | hb
        · exact sn (z ▸ hb)
        · cases hb
      · have n : c ≠ h'.objs.size := Nat.ne_of_lt (lt c hcm)
        refine ⟨?_, (fresh5 c hcm).2⟩
        rw [upd_ne n, upd_ne n, upd_ne n, upd_ne n]
        exact (fresh5 c hcm).1
end
end Zl

namespace K26
open PySem PySem.Spec PyProof.Rows L2 Dk Tl
/-- one step of a reading -/
local macro_rules | `(tactic| walk_at "rd1") => `(tactic| first
  | ((with_reducible refine r_var (v := ?rv) ?rh ?_); (case rh => rfl))
  | with_reducible refine r_c ?_
  | with_reducible refine r_seq ?_
  | with_reducible refine r_asg ?_
  | with_reducible refine r_par ?_
  | with_reducible refine r_gname ?_
  | with_reducible refine r_op ?_
  | with_reducible refine r_forLo ?_
  | with_reducible refine r_forTo ?_
  | with_reducible refine r_forSo ?_
  | with_reducible refine r_forRo ?_
  | with_reducible refine r_forRvo ?_
  | with_reducible refine r_forZo ?_
  | with_reducible refine r_revS ?_
  | with_reducible refine r_lcRo ?_
  | with_reducible refine r_lcLo ?_
  | with_reducible refine r_yes ?_
  | with_reducible refine r_callK0 ?_
  | with_reducible refine r_break ?_
  | with_reducible refine r_forR2o ?_
  | with_reducible refine r_forEo ?_
  | with_reducible refine r_forESo ?_
  | with_reducible refine r_xfo ?_
  | with_reducible refine r_noP ?_
  | with_reducible refine r_part ?_
  | with_reducible refine r_pI ?_
  | with_reducible refine r_gcons ?_
  | with_reducible refine r_gnil ?_
  | with_reducible refine r_mkO ?_
  | with_reducible refine r_un ?_
  | with_reducible refine r_addI ?_
  | with_reducible refine r_I0 ?_
  | with_reducible refine r_U ?_
  | with_reducible refine r_cons ?_
  | with_reducible refine r_nil ?_
  | with_reducible refine r_CB ?_
  | with_reducible refine r_call ?_
  | with_reducible refine r_callS ?_
  | with_reducible refine r_int ?_
  | with_reducible refine r_max ?_
  | with_reducible refine r_min ?_
  | with_reducible refine r_test ?_
  | with_reducible refine r_B ?_
  | with_reducible refine r_blv ?_
  | with_reducible refine r_and ?_
  | with_reducible refine r_or ?_
  | with_reducible refine r_not ?_
  | with_reducible refine r_andV ?_
  | with_reducible refine r_orV ?_
  | with_reducible refine r_notV ?_
  | with_reducible refine r_ifE ?_
  | with_reducible refine r_ifS ?_
  | with_reducible refine r_ret ?_
  | with_reducible refine r_retN ?_
  | with_reducible refine r_drop ?_
  | with_reducible refine r_next ?_
  | with_reducible refine r_sl ?_
  | with_reducible refine r_gsub ?_
  | with_reducible refine r_bm ?_
  | with_reducible refine r_tup ?_
  | with_reducible refine r_lst ?_
  | with_reducible refine r_isN ?_
  | with_reducible refine r_notN ?_
  | with_reducible refine r_itt ?_
  | with_reducible refine r_iff ?_
  | with_reducible refine r_ittN ?_
  | with_reducible refine r_iffN ?_
  | ((with_reducible refine r_ittD ?rh ?_); (case rh => rfl))
  | ((with_reducible refine r_iffD ?rh ?_); (case rh => rfl))
  | ((with_reducible refine r_modP ?rh ?_); (case rh => decide))
  | ((with_reducible refine r_eq ?rh ?_); (case rh => rfl))
  | ((with_reducible refine r_eqP ?rh ?_); (case rh => rfl))
  | ((with_reducible refine r_ne ?rh ?_); (case rh => rfl)))
local macro_rules | `(tactic| walk_at "rd") => `(tactic| repeat walk_at "rd1")
local macro_rules | `(tactic| walk_at "isi") => `(tactic| first | refine r_isi (b := true) (by assumption) (by decide +kernel) ?_ | refine r_isi (b := false) (by assumption) (by decide +kernel) ?_)
local macro_rules | `(tactic| walk_at "rs1") => `(tactic| first
  | with_reducible refine r_seq ?_
  | with_reducible refine r_asg ?_
  | with_reducible refine r_gname ?_
  | with_reducible refine r_ret ?_)
local macro_rules | `(tactic| walk_at "rs") => `(tactic| repeat walk_at "rs1")

/-! ### zips -/
theorem r_lcZo {K : PySem.W.Frag} {ta : TA} {g : TG} {tt : TT} {te : TE} {vs : List Nat} {σ : L2.St} {H : Hp} {Q : VK} (h : ta σ H fun us H1 => ∃ k1 k2 : Zp.Kd, us = [k1.v, k2.v] ∧ (∃ xs, k1.has K H1 xs) ∧ (∃ ys, k2.has K H1 ys) ∧ ∀ D, H1 D = none → ∃ W : Nat → Nat → Hp → Prop, (∃ m, W 0 m (upd H1 D (.lst []))) ∧ ∀ i m H, W i m H →
  ((Zp.ItzK K k1 k2).stop i H ∧ Q (.ref D) H) ∨ ((Zp.ItzK K k1 k2).go i H ∧ ∃ Nx : Hp → Prop, (∀ H', Nx H' → ∃ m', m' < m ∧ W (i + 1) m' H') ∧ ∀ x H', (Zp.ItzK K k1 k2).yld i H x H' → g x (wipe σ vs) H' fun σ2 H2 => wipe σ2 vs = wipe σ vs ∧ tt σ2 H2 fun b H3 =>
    if b = true then te σ2 H3 fun y H4 => ∃ acc, H4 D = some (.lst acc) ∧ acc.length < sizeLine ∧ Nx (upd H4 D (.lst (acc ++ [y]))) else Nx H3)) : tLc (Zp.iZipK K ta) g tt te vs σ H Q := h
theorem l_lcZ {K : PySem.W.Frag} (k1 k2 : Zp.Kd) {xs ys : List V} {g : TG} {tt : TT} {te : TE} {vs : List Nat} {σ : L2.St} {H1 : Hp} {Qd : Addr → Hp → Prop} (hx : k1.has K H1 xs) (hy : k2.has K H1 ys) (Pv : Addr → Nat → Hp → Prop) (h0 : ∀ D, H1 D = none → Pv D 0 (upd H1 D (.lst [])))
    (hl : ∀ D i H, Pv D i H → k1.has K H xs ∧ k2.has K H ys)
    (hs : ∀ D (i : Nat) x y H p, H1 D = none → xs[i]? = some x → ys[i]? = some y → Pv D i H → H p = none → g (.ref p) (wipe σ vs) (upd H p (.tup [x, y])) fun σ2 H2 => wipe σ2 vs = wipe σ vs ∧ tt σ2 H2 fun b H3 =>
      if b = true then te σ2 H3 fun y H4 => ∃ acc, H4 D = some (.lst acc) ∧ acc.length < sizeLine ∧ Pv D (i + 1) (upd H4 D (.lst (acc ++ [y]))) else Pv D (i + 1) H3) (hd : ∀ D H, H1 D = none → Pv D (min xs.length ys.length) H → Qd D H) :
    ∃ k1' k2' : Zp.Kd, [k1.v, k2.v] = [k1'.v, k2'.v] ∧ (∃ xs, k1'.has K H1 xs) ∧ (∃ ys, k2'.has K H1 ys) ∧ ∀ D, H1 D = none → ∃ W : Nat → Nat → Hp → Prop, (∃ m, W 0 m (upd H1 D (.lst []))) ∧ ∀ i m H, W i m H →
  ((Zp.ItzK K k1' k2').stop i H ∧ Qd D H) ∨ ((Zp.ItzK K k1' k2').go i H ∧ ∃ Nx : Hp → Prop, (∀ H', Nx H' → ∃ m', m' < m ∧ W (i + 1) m' H') ∧ ∀ x H', (Zp.ItzK K k1' k2').yld i H x H' → g x (wipe σ vs) H' fun σ2 H2 => wipe σ2 vs = wipe σ vs ∧ tt σ2 H2 fun b H3 =>
    if b = true then te σ2 H3 fun y H4 => ∃ acc, H4 D = some (.lst acc) ∧ acc.length < sizeLine ∧ Nx (upd H4 D (.lst (acc ++ [y]))) else Nx H3) :=
  ⟨k1, k2, rfl, ⟨_, hx⟩, ⟨_, hy⟩, fun D hD => lc_it (Zp.walk_zipK rfl) (Pv D) (h0 D hD) (fun i H _ p => hl D i H p) (fun i v H H' hi p y => by
    obtain ⟨T, a, b, rfl, hT, rfl, ha, hb⟩ := y
    exact hs D i a b H T hD ha hb p hT) fun H p => hd D H hD p⟩
/-- over zip(tuple, tuple) -/
theorem l_ZK {K : PySem.W.Frag} (k1 k2 : Zp.Kd) {xs ys : List V} {g : TG} {tb : TS} {D : Ends} {σ : L2.St} {H : Hp} (hx : k1.has K H xs) (hy : k2.has K H ys) (Pv : Nat → L2.St → Hp → Prop) (p0 : Pv 0 σ H) (hl : ∀ i σ H, Pv i σ H → k1.has K H xs ∧ k2.has K H ys)
    (ht : ∀ i x y σ H p, xs[i]? = some x → ys[i]? = some y → Pv i σ H → H p = none → g (.ref p) σ (upd H p (.tup [x, y])) fun σ2 H2 => tb { D with nx := Pv (i + 1), ct := Pv (i + 1), bk := D.nx } σ2 H2)
    (hd : ∀ σ H, Pv (min xs.length ys.length) σ H → D.nx σ H) :
    ∃ k1' k2' : Zp.Kd, [k1.v, k2.v] = [k1'.v, k2'.v] ∧ (∃ xs, k1'.has K H xs) ∧ (∃ ys, k2'.has K H ys) ∧ LoopW (Zp.ItzK K k1' k2') g tb D σ H := by
  refine ⟨k1, k2, rfl, ⟨_, hx⟩, ⟨_, hy⟩, for_it (Zp.walk_zipK (xs := xs) (ys := ys) rfl) Pv p0 (fun i σ H _ p => hl i σ H p) (fun i v σ H H' hi p yy => ?_) hd⟩
  obtain ⟨T, a, b, rfl, hT, rfl, ha, hb⟩ := yy
  exact ht i a b σ H T ha hb p hT
/-! ### hops as a paper may make them -/
abbrev Pr := Sg × Sg
def nxt (L R : Nat → Sg) (p : Pr) : List Pr := (if 0 < p.2.1 then [(p.1, L p.2.1)] else []) ++ (if 0 < p.1.1 then [(R p.1.1, p.2)] else [])
theorem mem_nxt {L R : Nat → Sg} {p q : Pr} : q ∈ nxt L R p ↔ (0 < p.2.1 ∧ q = (p.1, L p.2.1)) ∨ (0 < p.1.1 ∧ q = (R p.1.1, p.2)) := by
  unfold nxt
  rw [List.mem_append]
  by_cases a : 0 < p.2.1
  · rw [if_pos a]
    by_cases b : 0 < p.1.1
    · rw [if_pos b]; simp [a, b]
    · rw [if_neg b]; simp [a, b]
  · rw [if_neg a]
    by_cases b : 0 < p.1.1
    · rw [if_pos b]; simp [a, b]
    · rw [if_neg b]; simp [a, b]
def Ends2 (p : Pr) (many : Nat) : Prop := p.1.1 = p.2.1 ∧ (p.1.2 < p.2.2 ∨ (p.1.2 = p.2.2 ∧ 1 < many))
/-- an entry proves its pair -/
structure EF (L R : Nat → Sg) (p : Pr) (l : List Pr) : Prop where
  head : l[0]? = some p
  hop : ∀ k a b, l[k]? = some a → l[k + 1]? = some b → b ∈ nxt L R a
  last : ∀ z, l[l.length - 1]? = some z → Ends2 z l.length
def Ok2 (sz : Nat → Nat) (n : Nat) (p : Pr) : Prop := Ok sz n p.1 ∧ Ok sz n p.2
section
variable {P : Program} {w : World} {K : PySem.W.Frag} {mg : Str → Option Value} {base : Heap}
theorem ok_nxt {L R : Nat → Sg} {sz : Nat → Nat} {n : Nat} (wv : Wv L R sz n) {p q : Pr} (h : Ok2 sz n p) (hq : q ∈ nxt L R p) : Ok2 sz n q := by
  rcases mem_nxt.mp hq with ⟨h0, rfl⟩ | ⟨h0, rfl⟩
  · exact ⟨h.1, wv.okL h0 h.2.1⟩
  · exact ⟨wv.okR h0 h.1.1, h.2⟩
def spHop : Sp := fun vs H Q _ => ∃ (b : Addr) (v u : V) (L R : Nat → Sg) (sz : Nat → Nat) (n : Nat) (p q : Pr), vs = [.ref b, v, u] ∧ Wr H b L R sz n ∧ SpV H v p ∧ SpV H u q ∧ Ok2 sz n p ∧
  ∀ c H', Ex H H' → (c = true ↔ q ∈ nxt L R p) → Q (.bl c) H'
theorem ok_is_hop (T : Txt K mg) : FnOk P w K mg base CX0 1 T.a_is_hop T.d_is_hop ["births", "before", "after"] spHop := by
  refine T.F_is_hop.ok sc_is_hop (fun vs H Q E h => ?_) (fun cdv A outer s H vs Q E hr h => ?_)
  · obtain ⟨b, v, u, L, R, sz, n, p, q, rfl, _⟩ := h
    rfl
  · obtain ⟨b, v, u, L, R, sz, n, p, q, rfl, wr, hv, hu, ok, qq⟩ := h
    refine ⟨_, (pss_cons (ps_asg (pv 1) (pg_tup rfl (pgs_cons (pg_name (i := 3) sc_is_hop.nd rfl (Or.inl rfl)) (pgs_cons (pg_name (i := 4) sc_is_hop.nd rfl (Or.inl rfl)) pgs_nil))))
        (pss_cons (ps_if (PW.pt (pw_and (pt_cmpR op_gt (pe_ix ix_seq (pv 4) pe_int (fun _ _ => rfl)) pe_int (nomark _)) (pw_and1 (pt_cmpR (op_eqU hr.units) (pv 2) (pe_tup (pa_cons (pv 3) (pa_cons (pe_ix ix_seq (pe_ix ix_seq (pv 0) (pe_ix ix_seq (pv 4) pe_int (fun _ _ => rfl)) (fun _ _ => rfl)) pe_int (fun _ _ => rfl)) pa_nil))) (nomark _))))) (pss_one (ps_ret pe_bl)) pss_nil)
        (pss_one (ps_ret (pe_and (pe_cmpR op_gt (pe_ix ix_seq (pv 3) pe_int (fun _ _ => rfl)) pe_int (nomark _)) (pe_one (pe_cmpR (op_eqU hr.units) (pv 2) (pe_tup (pa_cons (pe_ix ix_seq (pe_ix ix_seq (pv 0) (pe_ix ix_seq (pv 3) pe_int (fun _ _ => rfl)) (fun _ _ => rfl)) pe_int (fun _ _ => rfl)) (pa_cons (pv 4) pa_nil))) (nomark _)))))))), ?_⟩
    walk_at "rd"
    refine r_gP hv fun x1 x2 h1 h2 => ?_
    repeat (first | with_reducible refine r_gcons ?_ | with_reducible refine r_gname ?_ | with_reducible refine r_gnil ?_ | with_reducible refine r_seq ?_)
    with_reducible refine r_ifS ?_
    refine any_test (S := fun c H1 => Ex H H1 ∧ (c = true ↔ 0 < p.2.1 ∧ q = (p.1, L p.2.1))) (fun QB kk => ?_) (fun c H1 hS => ?_)
    · walk_at "rd"
      refine r_ixS0 h2 ?_
      walk_at "rd"
      refine r_ite (fun hp => ?_) (fun hn => ?_)
      · walk_at "rd"
        refine r_ixS0 h2 ?_
        obtain ⟨ws, hws, br⟩ := wr
        obtain ⟨bv, hbv⟩ : ∃ bv, ws[p.2.1]? = some bv := ⟨_, List.getElem?_eq_getElem (by rw [br.len]; exact ok.2.1)⟩
        obtain ⟨q4, who, lv, rv, tx, rfl, hq4, hL, hR, _⟩ := br.at_ _ _ hbv
        walk_at "rd"
        refine r_ixT (sqT hws) (atI_nat hbv) ?_
        walk_at "rd"
        refine r_ixT (sqT hq4) (atI_nat (j := 1) rfl) ?_
        walk_at "rd"
        refine r_small nsz fun pt np => ?_
        obtain ⟨H2, k2, e2, hP⟩ := nP (R := SgV) (S := SgV) (x := p.1) (y := L p.2.1) np h1 hL
        rw [← k2]
        walk_at "rd"
        refine r_eqSp (imm (.ex e2) hu) hP ?_
        refine ⟨_, rfl, kk _ _ ⟨e2, ?_⟩⟩
        rw [decide_eq_true_iff]
        exact ⟨fun z => ⟨by omega, z⟩, fun z => z.2⟩
      · exact kk _ _ ⟨Same.refl H, ⟨(fun z => nomatch z), fun z => absurd z.1 (by omega)⟩⟩
    obtain ⟨e1, iff1⟩ := hS
    refine r_iteB (fun ht => ?_) (fun hf => ?_)
    · walk_at "rd"
      exact qq _ _ e1 ⟨fun _ => mem_nxt.mpr (.inl (iff1.mp ht)), fun _ => rfl⟩
    · have hno : ¬ (0 < p.2.1 ∧ q = (p.1, L p.2.1)) := fun z => by
        rw [iff1.mpr z] at hf
        cases hf
      have h1' := h1.up e1
      have h2' := h2.up e1
      walk_at "rd"
      refine r_ixS0 h1' ?_
      walk_at "rd"
      refine r_ite (fun hp => ?_) (fun hn => ?_)
      · walk_at "rd"
        refine r_ixS0 h1' ?_
        obtain ⟨ws, hws, br⟩ := wr.up e1
        obtain ⟨bv, hbv⟩ : ∃ bv, ws[p.1.1]? = some bv := ⟨_, List.getElem?_eq_getElem (by rw [br.len]; exact ok.1.1)⟩
        obtain ⟨q4, who, lv, rv, tx, rfl, hq4, hL, hR, _⟩ := br.at_ _ _ hbv
        walk_at "rd"
        refine r_ixT (sqT hws) (atI_nat hbv) ?_
        walk_at "rd"
        refine r_ixT (sqT hq4) (atI_nat (j := 2) rfl) ?_
        walk_at "rd"
        refine r_small nsz fun pt np => ?_
        obtain ⟨H2, k2, e2, hP⟩ := nP (R := SgV) (S := SgV) (x := R p.1.1) (y := p.2) np hR h2'
        rw [← k2]
        walk_at "rd"
        refine r_eqSp (imm (.ex (e1.trans e2)) hu) hP ?_
        refine qq _ _ (e1.trans e2) ?_
        rw [decide_eq_true_iff, mem_nxt]
        exact ⟨fun z => .inr ⟨by omega, z⟩, fun z => z.elim (fun z => absurd z hno) fun z => z.2⟩
      · walk_at "rd"
        refine qq _ _ e1 ?_
        rw [mem_nxt]
        exact ⟨(fun z => nomatch z), fun z => z.elim (fun z => absurd z hno) fun z => absurd z.1 (by omega)⟩
theorem r_ixTm {α : Type} {R : Hp → V → α → Prop} {H : Hp} {Q : VK} {v : V} {l : List α} {x : α} (h : TupV R H v l) (hx : l[l.length - 1]? = some x) (q : ∀ u, R H u x → Q u H) : rIx K v (.int (-1)) H Q := by
  obtain ⟨t, xs, rfl, ht, hP⟩ := h
  obtain ⟨u, hu, hr⟩ := hP.get' hx
  rw [← hP.len] at hu
  rcases List.eq_nil_or_concat xs with e | ⟨ys, w, e⟩
  · rw [e] at hu
    cases hu
  · rw [List.concat_eq_append] at e
    subst e
    rw [List.length_append, List.length_singleton, Nat.add_sub_cancel, List.getElem?_append_right (Nat.le_refl _), Nat.sub_self] at hu
    have e2 : w = u := Option.some.inj hu
    subst e2
    exact r_ixT (sqT ht) (atI_last _ _) (q w hr)
def spEF : Sp := fun vs H Q _ => ∃ (b : Addr) (v u : V) (L R : Nat → Sg) (sz : Nat → Nat) (n : Nat) (p : Pr) (l : List Pr), vs = [.ref b, v, u] ∧ Wr H b L R sz n ∧ SpV H v p ∧ Ok2 sz n p ∧ TupV SpV H u l ∧ l.length ≤ 1000 ∧
  ∀ c H', Ex H H' → (c = true ↔ EF L R p l) → Q (.bl c) H'
theorem ok_entry_fits (T : Txt K mg) : FnOk P w K mg base CX0 2 T.a_entry_fits T.d_entry_fits ["births", "pair", "entry"] spEF := by
  refine T.F_entry_fits.ok sc_entry_fits (fun vs H Q E h => ?_) (fun cdv A outer s H vs Q E hr h => ?_)
  · obtain ⟨b, v, u, L, R, sz, n, p, l, rfl, _⟩ := h
    rfl
  · obtain ⟨b, v, u, L, R, sz, n, p, l, rfl, wr, hv, ok, hu, hl, q⟩ := h
    refine ⟨_, (pss_cons (ps_if (PW.pt (pw_or (pt_cmpR (op_eqU hr.units) (pe_callB call_lenU (by rfl) T.n_len (by decide +kernel) (pa_cons (pv 2) pa_nil)) pe_int (nomark _)) (pw_or1 (pt_cmpR (op_neU hr.units) (pe_ix ix_seq (pv 2) pe_int (fun _ _ => rfl)) (pv 1) (nomark _))))) (pss_one (ps_ret pe_bl)) pss_nil)
        (pss_cons (ps_for PassesOwn.never rfl (Zp.pi_zipK (by rfl) T.n_zip (pa_cons (pv 2) (pa_cons (pe_slice sl_U (pv 2) (po_some pe_int) po_none) pa_nil))) (pg_tup rfl (pgs_cons (pg_name (i := 3) sc_entry_fits.nd rfl (Or.inl rfl)) (pgs_cons (pg_name (i := 4) sc_entry_fits.nd rfl (Or.inl rfl)) pgs_nil))) (pss_one (ps_if (pt_not (pt_val (pe_call (ok_is_hop T) hr (by rfl) T.g_is_hop T.F_is_hop.kp T.b_is_hop .nil pass0 (pa_cons (pv 0) (pa_cons (pv 3) (pa_cons (pv 4) pa_nil)))))) (pss_one (ps_ret pe_bl)) pss_nil)))
        (pss_cons (ps_asg (pe_ix ix_seq (pv 2) (pe_un un_neg pe_int) (fun _ _ => rfl)) (pg_tup rfl (pgs_cons (pg_name (i := 5) sc_entry_fits.nd rfl (Or.inl rfl)) (pgs_cons (pg_name (i := 6) sc_entry_fits.nd rfl (Or.inl rfl)) pgs_nil))))
        (pss_cons (ps_if (pt_cmpR (op_neU hr.units) (pe_ix ix_seq (pv 5) pe_int (fun _ _ => rfl)) (pe_ix ix_seq (pv 6) pe_int (fun _ _ => rfl)) (nomark _)) (pss_one (ps_ret pe_bl)) pss_nil)
        (pss_one (ps_ret (pe_or (pe_cmpR op_lt (pe_ix ix_seq (pv 5) pe_int (fun _ _ => rfl)) (pe_ix ix_seq (pv 6) pe_int (fun _ _ => rfl)) (nomark _)) (pe_one (pe_and (pe_cmpR (op_eqU hr.units) (pe_ix ix_seq (pv 5) pe_int (fun _ _ => rfl)) (pe_ix ix_seq (pv 6) pe_int (fun _ _ => rfl)) (nomark _)) (pe_one (pe_cmpR op_gt (pe_callB call_lenU (by rfl) T.n_len (by decide +kernel) (pa_cons (pv 2) pa_nil)) pe_int (nomark _)))))))))))), ?_⟩
    have wv : Wv L R sz n := by obtain ⟨_, _, br⟩ := wr; exact br.wv
    walk_at "rd"
    refine r_lenTV hu ?_
    walk_at "rd"
    refine r_ite (fun h0 => ?_) (fun h0 => ?_)
    · have l0 : l = [] := List.eq_nil_of_length_eq_zero (by have := V.int.inj h0; omega)
      walk_at "rd"
      refine q _ H (Same.refl H) ⟨(fun z => nomatch z), fun z => ?_⟩
      have := z.head
      rw [l0] at this
      cases this
    · have l0 : l.length ≠ 0 := fun z => h0 (by rw [z]; rfl)
      obtain ⟨x0, hx0⟩ : ∃ x0, l[0]? = some x0 := ⟨_, List.getElem?_eq_getElem (by omega)⟩
      walk_at "rd"
      refine r_ixTV (i := 0) hu hx0 fun w0 hw0 => ?_
      walk_at "rd"
      refine r_neSp hw0 hv ?_
      walk_at "rd"
      refine r_iteN (fun hne => ?_) (fun heq => ?_)
      · walk_at "rd"
        refine q _ H (Same.refl H) ⟨(fun z => nomatch z), fun z => ?_⟩
        have y := z.head
        rw [hx0] at y
        exact absurd (Option.some.inj y) hne
      · have ep : x0 = p := heq
        subst ep
        walk_at "rd"
        refine r_slFrom (k := 1) hu fun w2 H2 e2 hw2 => ?_
        obtain ⟨t1, xs, rfl, ht1, hP1⟩ := imm (R := TupV SpV) (.ex e2) hu
        obtain ⟨t2, ys, rfl, ht2, hP2⟩ := hw2
        have xl := hP1.len
        have yl := hP2.len
        rw [List.length_drop] at yl
        walk_at "rd"
        refine l_ZK (.t t1) (.t t2) (xs := xs) (ys := ys) (sqT ht1) (sqT ht2) (fun i σ H' => ∃ y3 y4, σ = [some (.ref b), some v, some (.ref t1), y3, y4, none, none] ∧ Ex H2 H' ∧ (∀ k a c, k < i → l[k]? = some a → l[k + 1]? = some c → c ∈ nxt L R a) ∧ ∀ k a, k ≤ i → l[k]? = some a → Ok2 sz n a)
          ⟨none, none, rfl, Same.refl H2, (fun k a c h _ _ => absurd h (Nat.not_lt_zero _)), fun k a hk ha => by
            have : k = 0 := by omega
            subst this
            rw [hx0] at ha
            rw [← Option.some.inj ha]
            exact ok⟩ (fun i σ H' hW => ?_) (fun i x y σ H' pz hx hy hW np => ?_) (fun σ H' hW => ?_)
        · obtain ⟨_, _, _, e, _⟩ := hW
          exact ⟨sqT (e _ _ ht1), sqT (e _ _ ht2)⟩
        · obtain ⟨y3, y4, rfl, e, hop, oks⟩ := hW
          obtain ⟨a, ha, sa⟩ := hP1.get hx
          obtain ⟨c, hc, sc⟩ := hP2.get hy
          rw [List.getElem?_drop, Nat.add_comm] at hc
          have ez := Same.new (o := .tup [x, y]) e np
          refine r_gtup (sqT upd_same) rfl ?_
          walk_at "rd"
          refine ⟨b, x, y, L, R, sz, n, a, c, rfl, (wr.up e2).up ez, imm (.ex ez) sa, imm (.ex ez) sc, oks i a (Nat.le_refl _) ha, fun r H3 e3 hr => ?_⟩
          walk_at "rd"
          cases r with
          | false =>
            walk_at "rd"
            refine q _ _ (e2.trans (ez.trans e3)) ⟨(fun z => nomatch z), fun z => ?_⟩
            exact hr.mpr (z.hop i a c ha hc)
          | true =>
            walk_at "rd"
            have hac := hr.mp rfl
            refine ⟨_, _, rfl, ez.trans e3, fun k a' c' hk h1 h2 => ?_, fun k a' hk h1 => ?_⟩
            · by_cases ek : k = i
              · subst ek
                rw [ha] at h1
                rw [hc] at h2
                rw [← Option.some.inj h1, ← Option.some.inj h2]
                exact hac
              · exact hop k a' c' (by omega) h1 h2
            · by_cases ek : k = i + 1
              · subst ek
                rw [hc] at h1
                rw [← Option.some.inj h1]
                exact ok_nxt wv (oks i a (Nat.le_refl _) ha) hac
              · exact oks k a' (by omega) h1
        · obtain ⟨y3, y4, rfl, e, hop, oks⟩ := hW
          obtain ⟨z, hz⟩ : ∃ z, l[l.length - 1]? = some z := ⟨_, List.getElem?_eq_getElem (by omega)⟩
          have hu' : TupV SpV H' (.ref t1) l := ⟨t1, xs, rfl, e _ _ ht1, p2_imm (.ex e) hP1⟩
          have iff : EF L R x0 l ↔ Ends2 z l.length := ⟨fun g => g.last z hz, fun g => ⟨hx0, fun k a c h1 h2 => hop k a c (by have := (List.getElem?_eq_some_iff.mp h2).1; omega) h1 h2, fun z' hz' => by
            rw [hz] at hz'
            rw [← Option.some.inj hz']
            exact g⟩⟩
          walk_at "rd"
          refine r_ixTm hu' hz fun w3 hw3 => ?_
          refine r_gP hw3 fun x1 x2 h1 h2 => ?_
          walk_at "rd"
          refine r_ixS0 h1 ?_
          walk_at "rd"
          refine r_ixS0 h2 ?_
          walk_at "rd"
          refine r_iteN (fun hne => ?_) (fun heq => ?_)
          · walk_at "rd"
            refine q _ _ (e2.trans e) ⟨(fun z => nomatch z), fun g => ?_⟩
            exact absurd (congrArg (fun m : Nat => V.int (m : Int)) (iff.mp g).1) hne
          · have h12 : z.1.1 = z.2.1 := by have := V.int.inj heq; omega
            walk_at "rd"
            refine r_ixS1 h1 ?_
            walk_at "rd"
            refine r_ixS1 h2 ?_
            walk_at "rd"
            by_cases hlt : z.1.2 < z.2.2
            · rw [decide_eq_true (show ((z.1.2 : Nat) : Int) < ((z.2.2 : Nat) : Int) by omega)]
              walk_at "rd"
              exact q _ _ (e2.trans e) ⟨fun _ => iff.mpr ⟨h12, .inl hlt⟩, fun _ => rfl⟩
            · rw [decide_eq_false (show ¬ ((z.1.2 : Nat) : Int) < ((z.2.2 : Nat) : Int) by omega)]
              walk_at "rd"
              refine r_ixS1 h1 ?_
              walk_at "rd"
              refine r_ixS1 h2 ?_
              walk_at "rd"
              by_cases he : z.1.2 = z.2.2
              · rw [decide_eq_true (show V.int ((z.1.2 : Nat) : Int) = V.int ((z.2.2 : Nat) : Int) by rw [he])]
                walk_at "rd"
                refine r_lenTV hu' ?_
                walk_at "rd"
                refine q _ _ (e2.trans e) ?_
                rw [decide_eq_true_iff, iff]
                exact ⟨fun g => ⟨h12, .inr ⟨he, by omega⟩⟩, fun g => by
                  rcases g.2 with g | g
                  · exact absurd g hlt
                  · have := g.2
                    omega⟩
              · rw [decide_eq_false (show ¬ V.int ((z.1.2 : Nat) : Int) = V.int ((z.2.2 : Nat) : Int) from fun g => he (by have := V.int.inj g; omega))]
                walk_at "rd"
                refine q _ _ (e2.trans e) ⟨(fun z => nomatch z), fun g => ?_⟩
                rcases (iff.mp g).2 with g | g
                · exact absurd g hlt
                · exact absurd g.1 he
end
end K26

namespace K26
open PySem PySem.Spec PyProof.Rows L2 Dk Tl
/-- one step of a reading -/
local macro_rules | `(tactic| walk_at "rd1") => `(tactic| first
  | ((with_reducible refine r_var (v := ?rv) ?rh ?_); (case rh => rfl))
  | with_reducible refine r_c ?_
  | with_reducible refine r_seq ?_
  | with_reducible refine r_asg ?_
  | with_reducible refine r_par ?_
  | with_reducible refine r_gname ?_
  | with_reducible refine r_op ?_
  | with_reducible refine r_forLo ?_
  | with_reducible refine r_forTo ?_
  | with_reducible refine r_forSo ?_
  | with_reducible refine r_forRo ?_
  | with_reducible refine r_forRvo ?_
  | with_reducible refine r_forZo ?_
  | with_reducible refine r_revS ?_
  | with_reducible refine r_lcRo ?_
  | with_reducible refine r_lcLo ?_
  | with_reducible refine r_yes ?_
  | with_reducible refine r_callK0 ?_
  | with_reducible refine r_break ?_
  | with_reducible refine r_forR2o ?_
  | with_reducible refine r_forEo ?_
  | with_reducible refine r_forESo ?_
  | with_reducible refine r_xfo ?_
  | with_reducible refine r_noP ?_
  | with_reducible refine r_part ?_
  | with_reducible refine r_pI ?_
  | with_reducible refine r_gcons ?_
  | with_reducible refine r_gnil ?_
  | with_reducible refine r_mkO ?_
  | with_reducible refine r_un ?_
  | with_reducible refine r_addI ?_
  | with_reducible refine r_I0 ?_
  | with_reducible refine r_U ?_
  | with_reducible refine r_cons ?_
  | with_reducible refine r_nil ?_
  | with_reducible refine r_CB ?_
  | with_reducible refine r_call ?_
  | with_reducible refine r_callS ?_
  | with_reducible refine r_int ?_
  | with_reducible refine r_max ?_
  | with_reducible refine r_min ?_
  | with_reducible refine r_test ?_
  | with_reducible refine r_B ?_
  | with_reducible refine r_blv ?_
  | with_reducible refine r_and ?_
  | with_reducible refine r_or ?_
  | with_reducible refine r_not ?_
  | with_reducible refine r_andV ?_
  | with_reducible refine r_orV ?_
  | with_reducible refine r_notV ?_
  | with_reducible refine r_ifE ?_
  | with_reducible refine r_ifS ?_
  | with_reducible refine r_ret ?_
  | with_reducible refine r_retN ?_
  | with_reducible refine r_drop ?_
  | with_reducible refine r_next ?_
  | with_reducible refine r_sl ?_
  | with_reducible refine r_gsub ?_
  | with_reducible refine r_bm ?_
  | with_reducible refine r_tup ?_
  | with_reducible refine r_lst ?_
  | with_reducible refine r_isN ?_
  | with_reducible refine r_notN ?_
  | with_reducible refine r_itt ?_
  | with_reducible refine r_iff ?_
  | with_reducible refine r_ittN ?_
  | with_reducible refine r_iffN ?_
  | ((with_reducible refine r_ittD ?rh ?_); (case rh => rfl))
  | ((with_reducible refine r_iffD ?rh ?_); (case rh => rfl))
  | ((with_reducible refine r_modP ?rh ?_); (case rh => decide))
  | ((with_reducible refine r_eq ?rh ?_); (case rh => rfl))
  | ((with_reducible refine r_eqP ?rh ?_); (case rh => rfl))
  | ((with_reducible refine r_ne ?rh ?_); (case rh => rfl)))
local macro_rules | `(tactic| walk_at "rd") => `(tactic| repeat walk_at "rd1")
local macro_rules | `(tactic| walk_at "isi") => `(tactic| first | refine r_isi (b := true) (by assumption) (by decide +kernel) ?_ | refine r_isi (b := false) (by assumption) (by decide +kernel) ?_)
local macro_rules | `(tactic| walk_at "rs1") => `(tactic| first
  | with_reducible refine r_seq ?_
  | with_reducible refine r_asg ?_
  | with_reducible refine r_gname ?_
  | with_reducible refine r_ret ?_)
local macro_rules | `(tactic| walk_at "rs") => `(tactic| repeat walk_at "rs1")

local macro_rules | `(tactic| walk_at "rd1") => `(tactic| with_reducible refine r_lcZo ?_)
theorem r_lz {K : PySem.W.Frag} {ta : TA} {σ : L2.St} {H : Hp} {Q : VK} (h : ta σ H fun vs H1 => ∃ (k1 k2 : Zp.Kd) (xs ys : List V), vs = [k1.v, k2.v] ∧ k1.has K H1 xs ∧ k2.has K H1 ys ∧ xs.length ≤ sizeLine ∧ ys.length ≤ sizeLine ∧
  ∀ p H' acc, Ex H1 H' → H1 p = none → H' p = some (.lst acc) → P2 (Zl.PqV H') acc (xs.zip ys) → Q (.ref p) H') : Zl.tListZip K ta σ H Q := h
local macro_rules | `(tactic| walk_at "rd1") => `(tactic| with_reducible refine r_lz ?_)
/-- a paper proves a row -/
structure CF (L R : Nat → Sg) (row : List Sg) (paper : List (List Pr)) : Prop where
  len : paper.length = row.length - 1
  each : ∀ k x y e, row[k]? = some x → row[k + 1]? = some y → paper[k]? = some e → EF L R (x, y) e
structure HP (L R : Nat → Sg) (row : List Sg) (paper : List (List Pr)) : Prop where
  len : paper.length = row.length - 1
  each : ∀ k x y e, row[k]? = some x → row[k + 1]? = some y → paper[k]? = some e → Hps L R x y e ∧ e.length ≤ 250
abbrev LfV := TupV (TupV SpV)
section
variable {P : Program} {w : World} {K : PySem.W.Frag} {mg : Str → Option Value} {base : Heap}
def spCF : Sp := fun vs H Q _ => ∃ (b : Addr) (v u : V) (L R : Nat → Sg) (sz : Nat → Nat) (n : Nat) (row : List Sg) (paper : List (List Pr)), vs = [.ref b, v, u] ∧ Wr H b L R sz n ∧ TupV SgV H v row ∧ LfV H u paper ∧ (∀ x ∈ row, Ok sz n x) ∧ row.length ≤ 100 ∧ paper.length ≤ 200 ∧ (∀ e ∈ paper, e.length ≤ 1000) ∧
  ∀ c H', Ex H H' → (c = true ↔ CF L R row paper) → Q (.bl c) H'
theorem ok_chain_fits (T : Txt K mg) : FnOk P w K mg base CX0 3 T.a_chain_fits T.d_chain_fits ["births", "row", "paper"] spCF := by
  refine T.F_chain_fits.ok sc_chain_fits (fun vs H Q E h => ?_) (fun cdv A outer s H vs Q E hr h => ?_)
  · obtain ⟨b, v, u, L, R, sz, n, row, paper, rfl, _⟩ := h
    rfl
  · obtain ⟨b, v, u, L, R, sz, n, row, paper, rfl, wr, hv, hu, oks, hl, hl2, he, q⟩ := h
    refine ⟨_, (pss_cons (ps_set (i := 3) sc_chain_fits.nd rfl (Or.inl rfl) (Zl.pe_listZip rfl (by rfl) T.n_list (by rfl) T.n_zip (pa_cons (pv 1) (pa_cons (pe_slice sl_U (pv 1) (po_some pe_int) po_none) pa_nil))))
        (pss_cons (ps_if (pt_cmpR (op_neU hr.units) (pe_callB call_lenU (by rfl) T.n_len (by decide +kernel) (pa_cons (pv 2) pa_nil)) (pe_callB call_lenU (by rfl) T.n_len (by decide +kernel) (pa_cons (pv 3) pa_nil)) (nomark _)) (pss_one (ps_ret pe_bl)) pss_nil)
        (pss_one (ps_ret (pe_callB (cr_all rfl) (by rfl) T.n_all (by decide +kernel) (pa_cons (pe_lc (own := [("pair", 4), ("entry", 5)]) (g := gTup K 2 (gCons (gName 4) (gCons (gName 5) gNil))) rfl sc_chain_fits.nd (Zp.pi_zipK (by rfl) T.n_zip (pa_cons (pv 3) (pa_cons (pv 2) pa_nil))) (blkOk_by (N := N_chain_fits) (sc := defScope s_chain_fits) (by decide +kernel)) (fun _ _ _ _ _ => pg_tup rfl (pgs_cons (pg_name (i := 4) sc_chain_fits.nd rfl (Or.inl rfl)) (pgs_cons (pg_name (i := 5) sc_chain_fits.nd rfl (Or.inl rfl)) pgs_nil))) (fun _ _ _ _ _ => pts_nil) (fun _ _ _ _ _ => (pe_call (ok_entry_fits T) hr (by rfl) T.g_entry_fits T.F_entry_fits.kp T.b_entry_fits .nil pass0 (pa_cons (pv 0) (pa_cons (pv 4) (pa_cons (pv 5) pa_nil)))))) pa_nil)))))), ?_⟩
    walk_at "rd"
    refine r_slFrom (k := 1) hv fun w2 H2 e2 hw2 => ?_
    obtain ⟨t1, xs, rfl, ht1, hP1⟩ := imm (R := TupV SgV) (.ex e2) hv
    obtain ⟨t2, ys, rfl, ht2, hP2⟩ := hw2
    have xl := hP1.len
    have yl := hP2.len
    rw [List.length_drop] at yl
    walk_at "rd"
    refine ⟨.t t1, .t t2, xs, ys, rfl, sqT ht1, sqT ht2, Nat.le_trans (show xs.length ≤ 1000 by omega) (by decide), Nat.le_trans (show ys.length ≤ 1000 by omega) (by decide), fun pp H3 acc e3 npp hpp hA => ?_⟩
    have al := hA.len
    rw [List.length_zip] at al
    have hu3 := imm (R := LfV) (.ex (e2.trans e3)) hu
    -- the pairs
    have prs : ∀ k w, acc[k]? = some w → ∃ x y, row[k]? = some x ∧ row[k + 1]? = some y ∧ SpV H3 w (x, y) := fun k w hw => by
      obtain ⟨z, hz, t, rfl, ht⟩ := hA.get hw
      obtain ⟨h1, h2⟩ := List.getElem?_zip_eq_some.mp hz
      obtain ⟨x, hx, sx⟩ := hP1.get h1
      obtain ⟨y, hy, sy⟩ := hP2.get h2
      rw [List.getElem?_drop, Nat.add_comm] at hy
      exact ⟨x, y, hx, hy, t, _, _, rfl, ht, sx.up e3, sy.up e3⟩
    walk_at "rd"
    refine r_lenTV hu3 ?_
    walk_at "rd"
    refine r_lenL (sqL hpp) ?_
    walk_at "rd"
    refine r_iteN (fun hne => ?_) (fun heq => ?_)
    · walk_at "rd"
      refine q _ _ (e2.trans e3) ⟨(fun z => nomatch z), fun z => ?_⟩
      have y := z.len
      exact absurd (by rw [show paper.length = acc.length by omega]) hne
    · have hpl : paper.length = row.length - 1 := by have := V.int.inj heq; omega
      obtain ⟨t3, zs, rfl, ht3, hP3⟩ := id hu3
      have zl := hP3.len
      walk_at "rd"
      refine l_lcZ (.l pp) (.t t3) (xs := acc) (ys := zs) (sqL hpp) (sqT ht3) (fun D i H' => ∃ bs : List Bool, Ex H3 H' ∧ H' D = some (.lst (bs.map V.bl)) ∧ bs.length = i ∧ ∀ k c x y e, bs[k]? = some c → row[k]? = some x → row[k + 1]? = some y → paper[k]? = some e → (c = true ↔ EF L R (x, y) e)) (fun D hD => ⟨[], Same.new (Same.refl H3) hD, upd_same, rfl, fun k c x y e h => by simp at h⟩) (fun D i H' hW => ?_) (fun D i x y H' pz hD hx hy hW np => ?_) (fun D H' hD hW => ?_)
      · obtain ⟨_, e, _⟩ := hW
        exact ⟨sqL (e _ _ hpp), sqT (e _ _ ht3)⟩
      · obtain ⟨bs, e, hD', hbl, hb⟩ := hW
        obtain ⟨x1, y1, hx1, hy1, sp⟩ := prs i x hx
        obtain ⟨en, hen, sen⟩ := hP3.get hy
        have ez := Same.new (o := .tup [x, y]) (Same.refl H') np
        refine r_gtup (sqT upd_same) rfl ?_
        walk_at "rd"
        refine ⟨rfl, ?_⟩
        walk_at "rd"
        refine ⟨b, x, y, L, R, sz, n, (x1, y1), en, rfl, (((wr.up e2).up e3).up e).up ez, imm (.ex (e.trans ez)) sp, ⟨oks x1 (List.mem_of_getElem? hx1), oks y1 (List.mem_of_getElem? hy1)⟩, imm (.ex (e.trans ez)) sen, he en (List.mem_of_getElem? hen), fun c H4 e4 hc => ?_⟩
        refine ⟨_, (ez.trans e4) _ _ hD', by rw [List.length_map]; exact Nat.lt_of_le_of_lt (show bs.length ≤ 1000 by have := (List.getElem?_eq_some_iff.mp hx).1; omega) (by decide), bs ++ [c], Same.mut (e.trans (ez.trans e4)) hD, by rw [upd_same, List.map_append]; rfl, by rw [List.length_append, hbl]; rfl, fun k c' x' y' e' hk hx' hy' he' => ?_⟩
        by_cases ek : k < i
        · rw [List.getElem?_append_left (by omega)] at hk
          exact hb k c' x' y' e' hk hx' hy' he'
        · have hkl := (List.getElem?_eq_some_iff.mp hk).1
          rw [List.length_append, List.length_singleton] at hkl
          have eki : k = i := by omega
          subst eki
          rw [List.getElem?_append_right (by omega), hbl, Nat.sub_self] at hk
          have ec : c = c' := Option.some.inj hk
          rw [hx1] at hx'
          rw [hy1] at hy'
          rw [hen] at he'
          rw [← ec, ← Option.some.inj hx', ← Option.some.inj hy', ← Option.some.inj he']
          exact hc
      · obtain ⟨bs, e, hD', hbl, hb⟩ := hW
        walk_at "rd"
        refine ⟨D, bs, rfl, sqL hD', q _ H' ((e2.trans e3).trans e) ?_⟩
        rw [List.all_eq_true]
        constructor
        · intro h
          refine ⟨hpl, fun k x y en hx hy hen => ?_⟩
          have kl := (List.getElem?_eq_some_iff.mp hy).1
          obtain ⟨c, hc⟩ : ∃ c, bs[k]? = some c := ⟨_, List.getElem?_eq_getElem (by omega)⟩
          have := h c (List.mem_of_getElem? hc)
          exact (hb k c x y en hc hx hy hen).mp this
        · intro h c hc
          obtain ⟨k, hk⟩ := List.getElem?_of_mem hc
          have kl := (List.getElem?_eq_some_iff.mp hk).1
          have hx : row[k]? = some row[k] := List.getElem?_eq_getElem (by omega)
          have hy : row[k + 1]? = some row[k + 1] := List.getElem?_eq_getElem (by omega)
          have hen : paper[k]? = some paper[k] := List.getElem?_eq_getElem (by omega)
          exact (hb k c _ _ _ hk hx hy hen).mpr (h.each k _ _ _ hx hy hen)
def spPaper : Sp := fun vs H Q _ => ∃ (b : Addr) (v : V) (L R : Nat → Sg) (sz : Nat → Nat) (n : Nat) (row : List Sg), vs = [.ref b, v] ∧ Wr H b L R sz n ∧ TupV SgV H v row ∧ (∀ x ∈ row, Ok sz n x) ∧ row.length ≤ 100 ∧
  ∀ w H' ll, Ex H H' → LfV H' w ll → HP L R row ll → Q w H'
theorem ok_chain_paper (T : Txt K mg) : FnOk P w K mg base CX0 2 T.a_chain_paper T.d_chain_paper ["births", "row"] spPaper := by
  refine T.F_chain_paper.ok sc_chain_paper (fun vs H Q E h => ?_) (fun cdv A outer s H vs Q E hr h => ?_)
  · obtain ⟨b, v, L, R, sz, n, row, rfl, _⟩ := h
    rfl
  · obtain ⟨b, v, L, R, sz, n, row, rfl, wr, hv, oks, hl, q⟩ := h
    refine ⟨_, (pss_one (ps_ret (pe_callTy call_tupU (by rfl) T.n_tuple (by decide +kernel) (pa_cons (pe_lc (own := [("one", 2), ("other", 3)]) (g := gTup K 2 (gCons (gName 2) (gCons (gName 3) gNil))) rfl sc_chain_paper.nd (Zp.pi_zipK (by rfl) T.n_zip (pa_cons (pv 1) (pa_cons (pe_slice sl_U (pv 1) (po_some pe_int) po_none) pa_nil))) (blkOk_by (N := N_chain_paper) (sc := defScope s_chain_paper) (by decide +kernel)) (fun _ _ _ _ _ => pg_tup rfl (pgs_cons (pg_name (i := 2) sc_chain_paper.nd rfl (Or.inl rfl)) (pgs_cons (pg_name (i := 3) sc_chain_paper.nd rfl (Or.inl rfl)) pgs_nil))) (fun _ _ _ _ _ => pts_nil) (fun _ _ _ _ _ => (pe_call (ok_hops_of T) hr (by rfl) T.g_hops_of T.F_hops_of.kp T.b_hops_of .nil pass0 (pa_cons (pv 0) (pa_cons (pv 2) (pa_cons (pv 3) pa_nil)))))) pa_nil)))), ?_⟩
    have n250 : n ≤ 250 := by obtain ⟨_, _, br⟩ := wr; exact br.small
    walk_at "rd"
    refine r_slFrom (k := 1) hv fun w2 H2 e2 hw2 => ?_
    obtain ⟨t1, xs, rfl, ht1, hP1⟩ := imm (R := TupV SgV) (.ex e2) hv
    obtain ⟨t2, ys, rfl, ht2, hP2⟩ := hw2
    have xl := hP1.len
    have yl := hP2.len
    rw [List.length_drop] at yl
    walk_at "rd"
    refine l_lcZ (.t t1) (.t t2) (xs := xs) (ys := ys) (sqT ht1) (sqT ht2) (fun D i H' => ∃ acc ll, Ex H2 H' ∧ H' D = some (.lst acc) ∧ P2 (TupV SpV H') acc ll ∧ ll.length = i ∧ ∀ k x y e, row[k]? = some x → row[k + 1]? = some y → ll[k]? = some e → Hps L R x y e ∧ e.length ≤ 250) (fun D hD => ⟨[], [], Same.new (Same.refl H2) hD, upd_same, .nil, rfl, fun k x y e _ _ h => by simp at h⟩) (fun D i H' hW => ?_) (fun D i x y H' pz hD hx hy hW np => ?_) (fun D H' hD hW => ?_)
    · obtain ⟨_, _, e, _⟩ := hW
      exact ⟨sqT (e _ _ ht1), sqT (e _ _ ht2)⟩
    · obtain ⟨acc, ll, e, hD', hA, hll, hh⟩ := hW
      obtain ⟨x1, hx1, sx⟩ := hP1.get hx
      obtain ⟨y1, hy1, sy⟩ := hP2.get hy
      rw [List.getElem?_drop, Nat.add_comm] at hy1
      have ez := Same.new (o := .tup [x, y]) (Same.refl H') np
      have al := hA.len
      refine r_gtup (sqT upd_same) rfl ?_
      walk_at "rd"
      refine ⟨rfl, ?_⟩
      walk_at "rd"
      refine ⟨b, x, y, L, R, sz, n, x1, y1, rfl, ((wr.up e2).up e).up ez, (sx.up e).up ez, (sy.up e).up ez, oks x1 (List.mem_of_getElem? hx1), oks y1 (List.mem_of_getElem? hy1), fun p H4 xs4 hs e4 hp4 hP4 hH hn => ?_⟩
      have e14 := ez.trans e4
      have tp := Tk.put (o := .lst (acc ++ [.ref p])) (e14 _ _ hD')
      have s4 : TupV SpV H4 (.ref p) hs := ⟨p, xs4, rfl, hp4, hP4.imp fun _ _ z => z⟩
      refine ⟨acc, e14 _ _ hD', Nat.lt_of_le_of_lt (show acc.length ≤ 1000 by have := (List.getElem?_eq_some_iff.mp hx).1; omega) (by decide), acc ++ [.ref p], ll ++ [hs], Same.mut (e.trans e14) hD, upd_same, (p2_imm ((Tk.ex e14).trans tp) hA).snoc (imm tp s4), by rw [List.length_append, hll]; rfl, fun k x' y' e' hx' hy' he' => ?_⟩
      by_cases ek : k < i
      · rw [List.getElem?_append_left (by omega)] at he'
        exact hh k x' y' e' hx' hy' he'
      · have hkl := (List.getElem?_eq_some_iff.mp he').1
        rw [List.length_append, List.length_singleton] at hkl
        have eki : k = i := by omega
        subst eki
        rw [List.getElem?_append_right (by omega), hll, Nat.sub_self] at he'
        have ec : hs = e' := Option.some.inj he'
        rw [hx1] at hx'
        rw [hy1] at hy'
        rw [← ec, ← Option.some.inj hx', ← Option.some.inj hy']
        exact ⟨hH, by omega⟩
    · obtain ⟨acc, ll, e, hD', hA, hll, hh⟩ := hW
      walk_at "rd"
      exact r_tupLV hD' hA fun p H3 np e3 hT => q _ H3 ll ((e2.trans e).trans e3) hT ⟨by omega, hh⟩
theorem ok_law_paper (T : Txt K mg) : FnOk P w K mg base CX0 2 T.a_law_paper T.d_law_paper ["_law_world_here", "_law_line"] spPaper := by
  refine T.F_law_paper.ok sc_law_paper (fun vs H Q E h => ?_) (fun cdv A outer s H vs Q E hr h => ?_)
  · obtain ⟨b, v, L, R, sz, n, row, rfl, _⟩ := h
    rfl
  · obtain ⟨b, v, L, R, sz, n, row, rfl, wr, hv, oks, hl, q⟩ := h
    refine ⟨_, (pss_one (ps_ret (pe_callTy call_tupU (by rfl) T.n_tuple (by decide +kernel) (pa_cons (pe_lc (own := [("_law_k", 2)]) (g := gName 2) rfl sc_law_paper.nd (pi_range1 (by rfl) T.n_range (pa_cons (pe_op op_sub (pe_callB call_lenU (by rfl) T.n_len (by decide +kernel) (pa_cons (pv 1) pa_nil)) pe_int) pa_nil)) (blkOk_by (N := N_law_paper) (sc := defScope s_law_paper) (by decide +kernel)) (fun _ _ _ _ _ => pg_name (i := 2) sc_law_paper.nd rfl (Or.inl rfl)) (fun _ _ _ _ _ => pts_nil) (fun _ _ _ _ _ => (pe_call (ok_law_hops T) hr (by rfl) T.g_law_hops T.F_law_hops.kp T.b_law_hops .nil pass0 (pa_cons (pv 0) (pa_cons (pe_ix (k_ix (K := K) rfl) (pv 1) (pv 2) (fun _ _ => rfl)) (pa_cons (pe_ix (k_ix (K := K) rfl) (pv 1) (pe_op (k_add (K := K) rfl) (pv 2) pe_int) (fun _ _ => rfl)) pa_nil)))))) pa_nil)))), ?_⟩
    have n250 : n ≤ 250 := by obtain ⟨_, _, br⟩ := wr; exact br.small
    walk_at "rd"
    refine r_lenTV hv ?_
    walk_at "rd"
    refine l_lcR (by omega) (by omega) (fun D i H' => ∃ acc ll, Ex H H' ∧ H' D = some (.lst acc) ∧ P2 (TupV SpV H') acc ll ∧ ll.length = i ∧ ∀ k x y e, row[k]? = some x → row[k + 1]? = some y → ll[k]? = some e → Hps L R x y e ∧ e.length ≤ 250) (fun D hD => ⟨[], [], Same.new (Same.refl H) hD, upd_same, .nil, rfl, fun k x y e _ _ h => by simp at h⟩) (fun D i H' hD hi hW => ?_) (fun D H' hD hW => ?_)
    · obtain ⟨acc, ll, e, hD', hA, hll, hh⟩ := hW
      have hx1 : row[i]? = some row[i] := List.getElem?_eq_getElem (by omega)
      have hy1 : row[i + 1]? = some row[i + 1] := List.getElem?_eq_getElem (by omega)
      have al := hA.len
      have hv' := imm (R := TupV SgV) (.ex e) hv
      walk_at "rd"
      refine ⟨rfl, ?_⟩
      walk_at "rd"
      refine r_ixTV hv' hx1 fun x sx => ?_
      walk_at "rd"
      rw [show ((i : Nat) : Int) + 1 = ((i + 1 : Nat) : Int) by omega]
      refine r_ixTV hv' hy1 fun y sy => ?_
      walk_at "rd"
      refine ⟨b, x, y, L, R, sz, n, row[i], row[i + 1], rfl, wr.up e, sx, sy, oks _ (List.mem_of_getElem? hx1), oks _ (List.mem_of_getElem? hy1), fun p H4 xs4 hs e4 hp4 hP4 hH hn => ?_⟩
      have tp := Tk.put (o := .lst (acc ++ [.ref p])) (e4 _ _ hD')
      have s4 : TupV SpV H4 (.ref p) hs := ⟨p, xs4, rfl, hp4, hP4.imp fun _ _ z => z⟩
      refine ⟨acc, e4 _ _ hD', Nat.lt_of_le_of_lt (show acc.length ≤ 1000 by omega) (by decide), acc ++ [.ref p], ll ++ [hs], Same.mut (e.trans e4) hD, upd_same, (p2_imm ((Tk.ex e4).trans tp) hA).snoc (imm tp s4), by rw [List.length_append, hll]; rfl, fun k x' y' e' hx' hy' he' => ?_⟩
      by_cases ek : k < i
      · rw [List.getElem?_append_left (by omega)] at he'
        exact hh k x' y' e' hx' hy' he'
      · have hkl := (List.getElem?_eq_some_iff.mp he').1
        rw [List.length_append, List.length_singleton] at hkl
        have eki : k = i := by omega
        subst eki
        rw [List.getElem?_append_right (by omega), hll, Nat.sub_self] at he'
        have ec : hs = e' := Option.some.inj he'
        rw [hx1] at hx'
        rw [hy1] at hy'
        rw [← ec, ← Option.some.inj hx', ← Option.some.inj hy']
        exact ⟨hH, by omega⟩
    · obtain ⟨acc, ll, e, hD', hA, hll, hh⟩ := hW
      walk_at "rd"
      exact r_tupLV hD' hA fun p H3 np e3 hT => q _ H3 ll (e.trans e3) hT ⟨by omega, hh⟩
end
end K26

namespace K26
open PySem PySem.Spec PyProof.Rows L2 Dk Tl
/-- one step of a reading -/
local macro_rules | `(tactic| walk_at "rd1") => `(tactic| first
  | ((with_reducible refine r_var (v := ?rv) ?rh ?_); (case rh => rfl))
  | with_reducible refine r_c ?_
  | with_reducible refine r_seq ?_
  | with_reducible refine r_asg ?_
  | with_reducible refine r_par ?_
  | with_reducible refine r_gname ?_
  | with_reducible refine r_op ?_
  | with_reducible refine r_forLo ?_
  | with_reducible refine r_forTo ?_
  | with_reducible refine r_forSo ?_
  | with_reducible refine r_forRo ?_
  | with_reducible refine r_forRvo ?_
  | with_reducible refine r_forZo ?_
  | with_reducible refine r_revS ?_
  | with_reducible refine r_lcRo ?_
  | with_reducible refine r_lcLo ?_
  | with_reducible refine r_yes ?_
  | with_reducible refine r_callK0 ?_
  | with_reducible refine r_break ?_
  | with_reducible refine r_forR2o ?_
  | with_reducible refine r_forEo ?_
  | with_reducible refine r_forESo ?_
  | with_reducible refine r_xfo ?_
  | with_reducible refine r_noP ?_
  | with_reducible refine r_part ?_
  | with_reducible refine r_pI ?_
  | with_reducible refine r_gcons ?_
  | with_reducible refine r_gnil ?_
  | with_reducible refine r_mkO ?_
  | with_reducible refine r_un ?_
  | with_reducible refine r_addI ?_
  | with_reducible refine r_I0 ?_
  | with_reducible refine r_U ?_
  | with_reducible refine r_cons ?_
  | with_reducible refine r_nil ?_
  | with_reducible refine r_CB ?_
  | with_reducible refine r_call ?_
  | with_reducible refine r_callS ?_
  | with_reducible refine r_int ?_
  | with_reducible refine r_max ?_
  | with_reducible refine r_min ?_
  | with_reducible refine r_test ?_
  | with_reducible refine r_B ?_
  | with_reducible refine r_blv ?_
  | with_reducible refine r_and ?_
  | with_reducible refine r_or ?_
  | with_reducible refine r_not ?_
  | with_reducible refine r_andV ?_
  | with_reducible refine r_orV ?_
  | with_reducible refine r_notV ?_
  | with_reducible refine r_ifE ?_
  | with_reducible refine r_ifS ?_
  | with_reducible refine r_ret ?_
  | with_reducible refine r_retN ?_
  | with_reducible refine r_drop ?_
  | with_reducible refine r_next ?_
  | with_reducible refine r_sl ?_
  | with_reducible refine r_gsub ?_
  | with_reducible refine r_bm ?_
  | with_reducible refine r_tup ?_
  | with_reducible refine r_lst ?_
  | with_reducible refine r_isN ?_
  | with_reducible refine r_notN ?_
  | with_reducible refine r_itt ?_
  | with_reducible refine r_iff ?_
  | with_reducible refine r_ittN ?_
  | with_reducible refine r_iffN ?_
  | ((with_reducible refine r_ittD ?rh ?_); (case rh => rfl))
  | ((with_reducible refine r_iffD ?rh ?_); (case rh => rfl))
  | ((with_reducible refine r_modP ?rh ?_); (case rh => decide))
  | ((with_reducible refine r_eq ?rh ?_); (case rh => rfl))
  | ((with_reducible refine r_eqP ?rh ?_); (case rh => rfl))
  | ((with_reducible refine r_ne ?rh ?_); (case rh => rfl)))
local macro_rules | `(tactic| walk_at "rd") => `(tactic| repeat walk_at "rd1")
local macro_rules | `(tactic| walk_at "isi") => `(tactic| first | refine r_isi (b := true) (by assumption) (by decide +kernel) ?_ | refine r_isi (b := false) (by assumption) (by decide +kernel) ?_)
local macro_rules | `(tactic| walk_at "rs1") => `(tactic| first
  | with_reducible refine r_seq ?_
  | with_reducible refine r_asg ?_
  | with_reducible refine r_gname ?_
  | with_reducible refine r_ret ?_)
local macro_rules | `(tactic| walk_at "rs") => `(tactic| repeat walk_at "rs1")

/-! ### an entry proves -/
section
variable {L R : Nat → Sg} {sz : Nat → Nat} {n : Nat}
theorem hop_sound (wv : Wv L R sz n) {p q : Pr} (ok : Ok2 sz n p) (hq : q ∈ nxt L R p) (h : E L R q.1 q.2) : A L R p.1 p.2 := by
  rcases mem_nxt.mp hq with ⟨h0, rfl⟩ | ⟨h0, rfl⟩
  · have a1 : A L R (L p.2.1) p.2 := (A.l_iff (wv.l _ h0 ok.2.1)).mpr (.inl rfl)
    rcases h with h | h
    · have h : p.1 = L p.2.1 := h
      rw [h]
      exact a1
    · exact wv.tr ok.1.1 (wv.okL h0 ok.2.1).1 ok.2.1 h a1
  · have a1 : A L R p.1 (R p.1.1) := (A.r_iff (wv.r _ h0 ok.1.1)).mpr (.inl rfl)
    rcases h with h | h
    · have h : R p.1.1 = p.2 := h
      rw [← h]
      exact a1
    · exact wv.tr ok.1.1 (wv.okR h0 ok.1.1).1 ok.2.1 a1 h
theorem EF.oks (wv : Wv L R sz n) {p : Pr} {l : List Pr} (ok : Ok2 sz n p) (h : EF L R p l) : ∀ (k : Nat) (a : Pr), l[k]? = some a → Ok2 sz n a := by
  intro k
  induction k with
  | zero =>
    intro a ha
    rw [h.head] at ha
    rw [← Option.some.inj ha]
    exact ok
  | succ k ih =>
    intro a ha
    have kl := (List.getElem?_eq_some_iff.mp ha).1
    have hb : l[k]? = some l[k] := List.getElem?_eq_getElem (by omega)
    exact ok_nxt wv (ih _ hb) (h.hop k _ _ hb ha)
theorem EF.sound (wv : Wv L R sz n) {p : Pr} {l : List Pr} (ok : Ok2 sz n p) (h : EF L R p l) : A L R p.1 p.2 := by
  have l0 := (List.getElem?_eq_some_iff.mp h.head).1
  have oks := h.oks wv ok
  obtain ⟨z, hz⟩ : ∃ z, l[l.length - 1]? = some z := ⟨_, List.getElem?_eq_getElem (by omega)⟩
  obtain ⟨e1, e2⟩ := h.last z hz
  by_cases l1 : l.length = 1
  · rw [l1] at hz
    have hz : l[0]? = some z := hz
    rw [h.head] at hz
    have ez := Option.some.inj hz
    subst ez
    refine (A.same_iff e1).mpr ?_
    rcases e2 with e2 | e2
    · exact e2
    · omega
  · have key : ∀ (d k : Nat) (a : Pr), k + d + 1 = l.length → l[k]? = some a → E L R a.1 a.2 ∧ (0 < d → A L R a.1 a.2) := by
      intro d
      induction d with
      | zero =>
        intro k a hk ha
        have ek : k = l.length - 1 := by omega
        rw [ek, hz] at ha
        have ez := Option.some.inj ha
        subst ez
        refine ⟨?_, fun z => absurd z (Nat.lt_irrefl 0)⟩
        rcases e2 with e2 | e2
        · exact .inr ((A.same_iff e1).mpr e2)
        · exact .inl (Prod.ext e1 e2.1)
      | succ d ih =>
        intro k a hk ha
        have hb : l[k + 1]? = some l[k + 1] := List.getElem?_eq_getElem (by omega)
        have q := hop_sound wv (oks k a ha) (h.hop k a _ ha hb) (ih (k + 1) _ (by omega) hb).1
        exact ⟨.inr q, fun _ => q⟩
    exact (key (l.length - 1) 0 p (by omega) h.head).2 (by omega)
theorem Hps.head {x y : Sg} {l : List Pr} (h : Hps L R x y l) : l[0]? = some (x, y) := by
  cases h <;> rfl
theorem Hps.hop {x y : Sg} {l : List Pr} (h : Hps L R x y l) : ∀ (k : Nat) (a b : Pr), l[k]? = some a → l[k + 1]? = some b → b ∈ nxt L R a := by
  induction h with
  | stop h =>
    intro k a b _ hb
    simp at hb
  | @rgo x y hs h t ih =>
    intro k a b ha hb
    cases k with
    | zero =>
      have ea : (x, y) = a := Option.some.inj ha
      have hb : hs[0]? = some b := hb
      rw [Hps.head t] at hb
      rw [← ea, ← Option.some.inj hb]
      exact mem_nxt.mpr (.inr ⟨Nat.lt_of_le_of_lt (Nat.zero_le _) h, rfl⟩)
    | succ k => exact ih k a b ha hb
  | @lgo x y hs h t ih =>
    intro k a b ha hb
    cases k with
    | zero =>
      have ea : (x, y) = a := Option.some.inj ha
      have hb : hs[0]? = some b := hb
      rw [Hps.head t] at hb
      rw [← ea, ← Option.some.inj hb]
      exact mem_nxt.mpr (.inl ⟨Nat.lt_of_le_of_lt (Nat.zero_le _) h, rfl⟩)
    | succ k => exact ih k a b ha hb
theorem Hps.same {x y : Sg} {l : List Pr} (h : Hps L R x y l) : ∀ (z : Pr), l[l.length - 1]? = some z → z.1.1 = z.2.1 := by
  induction h with
  | stop h =>
    intro z hz
    have ez := Option.some.inj (show some _ = some z from hz)
    rw [← ez]
    exact h
  | @rgo x y hs h t ih =>
    intro z hz
    have h0 := (List.getElem?_eq_some_iff.mp (Hps.head t)).1
    rw [List.length_cons, Nat.add_sub_cancel, show hs.length = hs.length - 1 + 1 by omega, List.getElem?_cons_succ] at hz
    exact ih z hz
  | @lgo x y hs h t ih =>
    intro z hz
    have h0 := (List.getElem?_eq_some_iff.mp (Hps.head t)).1
    rw [List.length_cons, Nat.add_sub_cancel, show hs.length = hs.length - 1 + 1 by omega, List.getElem?_cons_succ] at hz
    exact ih z hz
theorem Hps.fits {x y : Sg} {l : List Pr} (h : Hps L R x y l) : EF L R (x, y) l ↔ A L R x y := by
  obtain ⟨u, v, pre, e, _, iff⟩ := h.last
  have hz : l[l.length - 1]? = some (u, v) := by
    rw [e, List.length_append, List.length_singleton, Nat.add_sub_cancel, List.getElem?_append_right (Nat.le_refl _), Nat.sub_self]
    rfl
  have sm : u.1 = v.1 := Hps.same h _ hz
  rw [iff]
  constructor
  · intro g
    exact (g.last _ hz).2
  · intro g
    refine ⟨Hps.head h, Hps.hop h, fun z hz' => ?_⟩
    rw [hz] at hz'
    rw [← Option.some.inj hz']
    exact ⟨sm, g⟩
/-- each is told ahead of the next one -/
def Ch (L R : Nat → Sg) (row : List Sg) : Prop := ∀ k x y, row[k]? = some x → row[k + 1]? = some y → A L R x y
theorem HP.fits {row : List Sg} {ll : List (List Pr)} (h : HP L R row ll) : CF L R row ll ↔ Ch L R row := by
  have hl := h.len
  constructor
  · intro g k x y hx hy
    have kl := (List.getElem?_eq_some_iff.mp hy).1
    have he : ll[k]? = some ll[k] := List.getElem?_eq_getElem (by omega)
    exact (Hps.fits (h.each k x y _ hx hy he).1).mp (g.each k x y _ hx hy he)
  · intro g
    exact ⟨hl, fun k x y e hx hy he => (Hps.fits (h.each k x y e hx hy he).1).mpr (g k x y hx hy)⟩
theorem CF.sound (wv : Wv L R sz n) {row : List Sg} {ll : List (List Pr)} (ok : ∀ x ∈ row, Ok sz n x) (h : CF L R row ll) : Ch L R row := fun k x y hx hy => by
  have hl := h.len
  have kl := (List.getElem?_eq_some_iff.mp hy).1
  have he : ll[k]? = some ll[k] := List.getElem?_eq_getElem (by omega)
  exact (h.each k x y _ hx hy he).sound wv ⟨ok x (List.mem_of_getElem? hx), ok y (List.mem_of_getElem? hy)⟩
theorem HP.det {row : List Sg} {l1 l2 : List (List Pr)} (h1 : HP L R row l1) (h2 : HP L R row l2) : l1 = l2 := by
  apply List.ext_getElem?
  intro k
  have e1 := h1.len
  have e2 := h2.len
  by_cases c : k < l1.length
  · have a1 : l1[k]? = some l1[k] := List.getElem?_eq_getElem c
    have a2 : l2[k]? = some (l2[k]'(by omega)) := List.getElem?_eq_getElem (by omega)
    have hx : row[k]? = some (row[k]'(by omega)) := List.getElem?_eq_getElem (by omega)
    have hy : row[k + 1]? = some (row[k + 1]'(by omega)) := List.getElem?_eq_getElem (by omega)
    rw [a1, a2, (h1.each k _ _ _ hx hy a1).1.det (h2.each k _ _ _ hx hy a2).1]
  · rw [List.getElem?_eq_none (by omega), List.getElem?_eq_none (by omega)]
end
section
variable {P : Program} {w : World} {K : PySem.W.Frag} {mg : Str → Option Value} {base : Heap}
def spNext : Sp := fun vs H Q _ => ∃ (b : Addr) (v : V) (L R : Nat → Sg) (sz : Nat → Nat) (n : Nat) (p : Pr), vs = [.ref b, v] ∧ Wr H b L R sz n ∧ SpV H v p ∧ Ok2 sz n p ∧
  ∀ m H' xs, Ex H H' → H m = none → H' m = some (.lst xs) → P2 (SpV H') xs (nxt L R p) → Q (.ref m) H'
theorem ok_law_next (T : Txt K mg) : FnOk P w K mg base CX0 1 T.a_law_next T.d_law_next ["_law_world_here", "_law_pair_here"] spNext := by
  refine T.F_law_next.ok sc_law_next (fun vs H Q E h => ?_) (fun cdv A outer s H vs Q E hr h => ?_)
  · obtain ⟨b, v, L, R, sz, n, p, rfl, _⟩ := h
    rfl
  · obtain ⟨b, v, L, R, sz, n, p, rfl, wr, hv, ok, q⟩ := h
    refine ⟨_, (pss_cons (ps_set (i := 2) sc_law_next.nd rfl (Or.inl rfl) (pe_lst pa_nil))
        (Evl.pss_cut (ps_if (pt_cmpR op_gt (pe_ix ix_seq (pe_ix ix_seq (pv 1) pe_int (fun _ _ => rfl)) pe_int (fun _ _ => rfl)) pe_int (nomark _)) (pss_one (ps_expr (pe_bm PySem.F.plainAttrs_list PySem.F.slot_list_append PySem.F.type_list_append mt_append (pv 2) (pa_cons (pe_tup (pa_cons (pe_ix ix_seq (pv 1) pe_int (fun _ _ => rfl)) (pa_cons (pe_ix ix_seq (pe_ix ix_seq (pv 0) (pe_ix ix_seq (pe_ix ix_seq (pv 1) pe_int (fun _ _ => rfl)) pe_int (fun _ _ => rfl)) (fun _ _ => rfl)) pe_int (fun _ _ => rfl)) pa_nil))) pa_nil)))) pss_nil)
        (pss_cons (ps_if (pt_cmpR op_gt (pe_ix ix_seq (pe_ix ix_seq (pv 1) pe_int (fun _ _ => rfl)) pe_int (fun _ _ => rfl)) pe_int (nomark _)) (pss_one (ps_expr (pe_bm PySem.F.plainAttrs_list PySem.F.slot_list_append PySem.F.type_list_append mt_append (pv 2) (pa_cons (pe_tup (pa_cons (pe_ix ix_seq (pe_ix ix_seq (pv 0) (pe_ix ix_seq (pe_ix ix_seq (pv 1) pe_int (fun _ _ => rfl)) pe_int (fun _ _ => rfl)) (fun _ _ => rfl)) pe_int (fun _ _ => rfl)) (pa_cons (pe_ix ix_seq (pv 1) pe_int (fun _ _ => rfl)) pa_nil))) pa_nil)))) pss_nil)
        (pss_one (ps_ret (pv 2)))))), ?_⟩
    walk_at "rd"
    refine r_small nsz fun m hm => ?_
    have e0 := Same.new (o := .lst []) (Same.refl H) hm
    walk_at "rd"
    refine ⟨fun σ H' => ∃ xs, σ = [some (.ref b), some v, some (.ref m)] ∧ Ex H H' ∧ H' m = some (.lst xs) ∧ P2 (SpV H') xs (if 0 < p.2.1 then [(p.1, L p.2.1)] else []), ?_, ?_⟩
    · walk_at "rd"
      refine r_ixP1 (imm (.ex e0) hv) fun x2 h2 => ?_
      walk_at "rd"
      refine r_ixS0 h2 ?_
      walk_at "rd"
      refine r_ite (fun hp => ?_) (fun hn => ?_)
      · rw [if_pos (by omega)]
        walk_at "rd"
        refine r_tyL (sqL upd_same) ?_
        walk_at "rd"
        refine r_ixP0 (imm (.ex e0) hv) fun x1 h1 => ?_
        walk_at "rd"
        refine r_ixP1 (imm (.ex e0) hv) fun x3 h3 => ?_
        walk_at "rd"
        refine r_ixS0 h3 ?_
        obtain ⟨ws, hws, br⟩ := wr.up e0
        obtain ⟨bv, hbv⟩ : ∃ bv, ws[p.2.1]? = some bv := ⟨_, List.getElem?_eq_getElem (by rw [br.len]; exact ok.2.1)⟩
        obtain ⟨q4, who, lv, rv, tx, rfl, hq4, hL, hR, _⟩ := br.at_ _ _ hbv
        walk_at "rd"
        refine r_ixT (sqT hws) (atI_nat hbv) ?_
        walk_at "rd"
        refine r_ixT (sqT hq4) (atI_nat (j := 1) rfl) ?_
        walk_at "rd"
        refine r_small nsz fun pt np => ?_
        obtain ⟨H2, k2, e2, hP⟩ := nP (R := SgV) (S := SgV) (x := p.1) (y := L p.2.1) np h1 hL
        rw [← k2]
        walk_at "rd"
        have hm2 := e2 _ _ (show (upd H m (.lst [])) m = some (.lst []) from upd_same)
        refine r_app hm2 (by decide) ?_
        have tp := Tk.put (o := .lst ([] ++ [.ref pt])) hm2
        exact ⟨_, rfl, Same.mut (e0.trans e2) hm, upd_same, .cons (imm tp hP) .nil⟩
      · rw [if_neg (by omega)]
        walk_at "rd"
        exact ⟨[], rfl, e0, upd_same, .nil⟩
    rintro σ H1 ⟨xs, rfl, e1, hm1, hP1⟩
    have hv1 := imm (R := SpV) (.ex e1) hv
    have xl : xs.length ≤ 1 := by
      rw [hP1.len]
      split <;> simp
    walk_at "rd"
    refine r_ixP0 hv1 fun x1 h1 => ?_
    walk_at "rd"
    refine r_ixS0 h1 ?_
    walk_at "rd"
    refine r_ite (fun hp => ?_) (fun hn => ?_)
    · walk_at "rd"
      refine r_tyL (sqL hm1) ?_
      walk_at "rd"
      refine r_ixP0 hv1 fun x3 h3 => ?_
      walk_at "rd"
      refine r_ixS0 h3 ?_
      obtain ⟨ws, hws, br⟩ := wr.up e1
      obtain ⟨bv, hbv⟩ : ∃ bv, ws[p.1.1]? = some bv := ⟨_, List.getElem?_eq_getElem (by rw [br.len]; exact ok.1.1)⟩
      obtain ⟨q4, who, lv, rv, tx, rfl, hq4, hL, hR, _⟩ := br.at_ _ _ hbv
      walk_at "rd"
      refine r_ixT (sqT hws) (atI_nat hbv) ?_
      walk_at "rd"
      refine r_ixT (sqT hq4) (atI_nat (j := 2) rfl) ?_
      walk_at "rd"
      refine r_ixP1 hv1 fun x2 h2 => ?_
      walk_at "rd"
      refine r_small nsz fun pt np => ?_
      obtain ⟨H2, k2, e2, hP⟩ := nP (R := SgV) (S := SgV) (x := R p.1.1) (y := p.2) np hR h2
      rw [← k2]
      walk_at "rd"
      have hm2 := e2 _ _ hm1
      refine r_app hm2 (Nat.lt_of_le_of_lt xl (by decide)) ?_
      walk_at "rd"
      have tp := Tk.put (o := .lst (xs ++ [.ref pt])) hm2
      refine q m _ _ (Same.mut (e1.trans e2) hm) hm upd_same ?_
      unfold nxt
      rw [if_pos (show 0 < p.1.1 by omega)]
      exact (p2_imm ((Tk.ex e2).trans tp) hP1).snoc (imm tp hP)
    · walk_at "rd"
      refine q m _ xs e1 hm hm1 ?_
      unfold nxt
      rw [if_neg (show ¬ 0 < p.1.1 by omega), List.append_nil]
      exact hP1
def spEnds : Sp := fun vs H Q _ => ∃ (v : V) (m : Nat) (p : Pr), vs = [v, .int (m : Nat)] ∧ SpV H v p ∧ ∀ c, (c = true ↔ Ends2 p m) → Q (.bl c) H
theorem ok_law_ends (T : Txt K mg) : FnOk P w K mg base CX0 1 T.a_law_ends T.d_law_ends ["_law_pair_here", "_law_many"] spEnds := by
  refine T.F_law_ends.ok sc_law_ends (fun vs H Q E h => ?_) (fun cdv A outer s H vs Q E hr h => ?_)
  · obtain ⟨v, m, p, rfl, _⟩ := h
    rfl
  · obtain ⟨v, m, p, rfl, hv, q⟩ := h
    refine ⟨_, (pss_cons (ps_if (pt_cmpR (op_neU hr.units) (pe_ix ix_seq (pe_ix ix_seq (pv 0) pe_int (fun _ _ => rfl)) pe_int (fun _ _ => rfl)) (pe_ix ix_seq (pe_ix ix_seq (pv 0) pe_int (fun _ _ => rfl)) pe_int (fun _ _ => rfl)) (nomark _)) (pss_one (ps_ret pe_bl)) pss_nil)
        (pss_one (ps_ret (pe_or (pe_cmpR op_lt (pe_ix ix_seq (pe_ix ix_seq (pv 0) pe_int (fun _ _ => rfl)) pe_int (fun _ _ => rfl)) (pe_ix ix_seq (pe_ix ix_seq (pv 0) pe_int (fun _ _ => rfl)) pe_int (fun _ _ => rfl)) (nomark _)) (pe_one (pe_and (pe_cmpR op_gt (pv 1) pe_int (nomark _)) (pe_one (pe_cmpR (op_eqU hr.units) (pe_ix ix_seq (pe_ix ix_seq (pv 0) pe_int (fun _ _ => rfl)) pe_int (fun _ _ => rfl)) (pe_ix ix_seq (pe_ix ix_seq (pv 0) pe_int (fun _ _ => rfl)) pe_int (fun _ _ => rfl)) (nomark _))))))))), ?_⟩
    walk_at "rd"
    refine r_ixP0 hv fun x1 h1 => ?_
    walk_at "rd"
    refine r_ixS0 h1 ?_
    walk_at "rd"
    refine r_ixP1 hv fun x2 h2 => ?_
    walk_at "rd"
    refine r_ixS0 h2 ?_
    walk_at "rd"
    refine r_iteN (fun hne => ?_) (fun heq => ?_)
    · walk_at "rd"
      refine q _ ⟨(fun z => nomatch z), fun g => absurd (congrArg (fun m : Nat => V.int (m : Int)) g.1) hne⟩
    · have h12 : p.1.1 = p.2.1 := by have := V.int.inj heq; omega
      walk_at "rd"
      refine r_ixP0 hv fun x1 h1 => ?_
      walk_at "rd"
      refine r_ixS1 h1 ?_
      walk_at "rd"
      refine r_ixP1 hv fun x2 h2 => ?_
      walk_at "rd"
      refine r_ixS1 h2 ?_
      walk_at "rd"
      by_cases hlt : p.1.2 < p.2.2
      · rw [decide_eq_true (show ((p.1.2 : Nat) : Int) < ((p.2.2 : Nat) : Int) by omega)]
        walk_at "rd"
        exact q _ ⟨fun _ => ⟨h12, .inl hlt⟩, fun _ => rfl⟩
      · rw [decide_eq_false (show ¬ ((p.1.2 : Nat) : Int) < ((p.2.2 : Nat) : Int) by omega)]
        walk_at "rd"
        by_cases hm : 1 < m
        · rw [decide_eq_true (show (1 : Int) < ((m : Nat) : Int) by omega)]
          walk_at "rd"
          refine r_ixP0 hv fun x1 h1 => ?_
          walk_at "rd"
          refine r_ixS1 h1 ?_
          walk_at "rd"
          refine r_ixP1 hv fun x2 h2 => ?_
          walk_at "rd"
          refine r_ixS1 h2 ?_
          walk_at "rd"
          refine q _ ?_
          rw [decide_eq_true_iff]
          exact ⟨fun g => ⟨h12, .inr ⟨by have := V.int.inj g; omega, hm⟩⟩, fun g => by
            rcases g.2 with g | g
            · exact absurd g hlt
            · rw [g.1]⟩
        · rw [decide_eq_false (show ¬ (1 : Int) < ((m : Nat) : Int) by omega)]
          walk_at "rd"
          refine q _ ⟨(fun z => nomatch z), fun g => ?_⟩
          rcases g.2 with g | g
          · exact absurd g hlt
          · exact absurd g.2 hm
end
end K26

namespace K26
open PySem PySem.Spec PyProof.Rows L2 Dk Tl
/-- one step of a reading -/
local macro_rules | `(tactic| walk_at "rd1") => `(tactic| first
  | ((with_reducible refine r_var (v := ?rv) ?rh ?_); (case rh => rfl))
  | with_reducible refine r_c ?_
  | with_reducible refine r_seq ?_
  | with_reducible refine r_asg ?_
  | with_reducible refine r_par ?_
  | with_reducible refine r_gname ?_
  | with_reducible refine r_op ?_
  | with_reducible refine r_forLo ?_
  | with_reducible refine r_forTo ?_
  | with_reducible refine r_forSo ?_
  | with_reducible refine r_forRo ?_
  | with_reducible refine r_forRvo ?_
  | with_reducible refine r_forZo ?_
  | with_reducible refine r_revS ?_
  | with_reducible refine r_lcRo ?_
  | with_reducible refine r_lcLo ?_
  | with_reducible refine r_yes ?_
  | with_reducible refine r_callK0 ?_
  | with_reducible refine r_break ?_
  | with_reducible refine r_forR2o ?_
  | with_reducible refine r_forEo ?_
  | with_reducible refine r_forESo ?_
  | with_reducible refine r_xfo ?_
  | with_reducible refine r_noP ?_
  | with_reducible refine r_part ?_
  | with_reducible refine r_pI ?_
  | with_reducible refine r_gcons ?_
  | with_reducible refine r_gnil ?_
  | with_reducible refine r_mkO ?_
  | with_reducible refine r_un ?_
  | with_reducible refine r_addI ?_
  | with_reducible refine r_I0 ?_
  | with_reducible refine r_U ?_
  | with_reducible refine r_cons ?_
  | with_reducible refine r_nil ?_
  | with_reducible refine r_CB ?_
  | with_reducible refine r_call ?_
  | with_reducible refine r_callS ?_
  | with_reducible refine r_int ?_
  | with_reducible refine r_max ?_
  | with_reducible refine r_min ?_
  | with_reducible refine r_test ?_
  | with_reducible refine r_B ?_
  | with_reducible refine r_blv ?_
  | with_reducible refine r_and ?_
  | with_reducible refine r_or ?_
  | with_reducible refine r_not ?_
  | with_reducible refine r_andV ?_
  | with_reducible refine r_orV ?_
  | with_reducible refine r_notV ?_
  | with_reducible refine r_ifE ?_
  | with_reducible refine r_ifS ?_
  | with_reducible refine r_ret ?_
  | with_reducible refine r_retN ?_
  | with_reducible refine r_drop ?_
  | with_reducible refine r_next ?_
  | with_reducible refine r_sl ?_
  | with_reducible refine r_gsub ?_
  | with_reducible refine r_bm ?_
  | with_reducible refine r_tup ?_
  | with_reducible refine r_lst ?_
  | with_reducible refine r_isN ?_
  | with_reducible refine r_notN ?_
  | with_reducible refine r_itt ?_
  | with_reducible refine r_iff ?_
  | with_reducible refine r_ittN ?_
  | with_reducible refine r_iffN ?_
  | ((with_reducible refine r_ittD ?rh ?_); (case rh => rfl))
  | ((with_reducible refine r_iffD ?rh ?_); (case rh => rfl))
  | ((with_reducible refine r_modP ?rh ?_); (case rh => decide))
  | ((with_reducible refine r_eq ?rh ?_); (case rh => rfl))
  | ((with_reducible refine r_eqP ?rh ?_); (case rh => rfl))
  | ((with_reducible refine r_ne ?rh ?_); (case rh => rfl)))
local macro_rules | `(tactic| walk_at "rd") => `(tactic| repeat walk_at "rd1")
local macro_rules | `(tactic| walk_at "isi") => `(tactic| first | refine r_isi (b := true) (by assumption) (by decide +kernel) ?_ | refine r_isi (b := false) (by assumption) (by decide +kernel) ?_)
local macro_rules | `(tactic| walk_at "rs1") => `(tactic| first
  | with_reducible refine r_seq ?_
  | with_reducible refine r_asg ?_
  | with_reducible refine r_gname ?_
  | with_reducible refine r_ret ?_)
local macro_rules | `(tactic| walk_at "rs") => `(tactic| repeat walk_at "rs1")

section
variable {P : Program} {w : World} {K : PySem.W.Frag} {mg : Str → Option Value} {base : Heap}
def spTold : Sp := fun vs H Q _ => ∃ (mk tb : Addr) (va vb : V) (xs : List V) (L R : Nat → Sg) (sz : Nat → Nat) (n : Nat) (U : List Nat) (x y : Sg), vs = [.ref mk, .ref tb, va, vb] ∧ H mk = some (.lst xs) ∧ SgL H xs (marks sz n) ∧ H tb = some (.lst (tbv U)) ∧ Tells L R sz n U ∧ U.length ≤ 1000 ∧ SgV H va x ∧ SgV H vb y ∧ Ok sz n x ∧ Ok sz n y ∧
  ∀ c, (c = true ↔ A L R x y) → Q (.bl c) H
theorem ps_lt {L R : Nat → Sg} {sz : Nat → Nat} {n : Nat} {U : List Nat} (tl : Tells L R sz n U) {x : Sg} (ok : Ok sz n x) : ps sz x < U.length := by
  have h := (List.getElem?_eq_some_iff.mp (marks_at ok)).1
  rw [marks_len] at h
  rw [tl.1]
  exact h
theorem ok_law_told (T : Txt K mg) : FnOk P w K mg base CX0 1 T.a_law_told T.d_law_told ["_law_marks", "_law_table", "_law_a", "_law_b"] spTold := by
  refine T.F_law_told.ok sc_law_told (fun vs H Q E h => ?_) (fun cdv A outer s H vs Q E hr h => ?_)
  · obtain ⟨mk, tb, va, vb, xs, L, R, sz, n, U, x, y, rfl, _⟩ := h
    rfl
  · obtain ⟨mk, tb, va, vb, xs, L, R, sz, n, U, x, y, rfl, hm, hms, ht, tl, hU, hx, hy, ox, oy, q⟩ := h
    refine ⟨_, (pss_one (ps_ret (pe_cmpR (op_eqU hr.units) (pe_op op_and (pe_op op_shr (pe_ix ix_seq (pv 1) (pe_bm PySem.F.plainAttrs_list PySem.F.slot_list_index PySem.F.type_list_index (mt_indexD hr.units65) (pv 0) (pa_cons (pv 2) pa_nil)) (fun _ _ => rfl)) (pe_bm PySem.F.plainAttrs_list PySem.F.slot_list_index PySem.F.type_list_index (mt_indexD hr.units65) (pv 0) (pa_cons (pv 3) pa_nil))) pe_int) pe_int (nomark _)))), ?_⟩
    have px := ps_lt tl ox
    have py := ps_lt tl oy
    walk_at "rd"
    refine r_tyL (sqL hm) ?_
    walk_at "rd"
    refine r_indexSg (sqL hm) hms hx (mark_first ox).1 (mark_first ox).2 ?_
    walk_at "rd"
    refine r_ixL (sqL ht) (atI_nat (tb_at px)) ?_
    walk_at "rd"
    refine r_tyL (sqL hm) ?_
    walk_at "rd"
    refine r_indexSg (sqL hm) hms hy (mark_first oy).1 (mark_first oy).2 ?_
    walk_at "rd"
    refine r_I (by omega) ?_
    walk_at "rd"
    rw [bit_val]
    exact q _ (tl.2 x y ox oy)
def spChained : Sp := fun vs H Q _ => ∃ (mk tb : Addr) (v : V) (xs : List V) (L R : Nat → Sg) (sz : Nat → Nat) (n : Nat) (U : List Nat) (row : List Sg), vs = [.ref mk, .ref tb, v] ∧ H mk = some (.lst xs) ∧ SgL H xs (marks sz n) ∧ H tb = some (.lst (tbv U)) ∧ Tells L R sz n U ∧ U.length ≤ 1000 ∧ TupV SgV H v row ∧ (∀ x ∈ row, Ok sz n x) ∧ row.length ≤ 100 ∧
  ∀ c, (c = true ↔ Ch L R row) → Q (.bl c) H
theorem ok_law_chained (T : Txt K mg) : FnOk P w K mg base CX0 2 T.a_law_chained T.d_law_chained ["_law_marks", "_law_table", "_law_line"] spChained := by
  refine T.F_law_chained.ok sc_law_chained (fun vs H Q E h => ?_) (fun cdv A outer s H vs Q E hr h => ?_)
  · obtain ⟨mk, tb, v, xs, L, R, sz, n, U, row, rfl, _⟩ := h
    rfl
  · obtain ⟨mk, tb, v, xs, L, R, sz, n, U, row, rfl, hm, hms, ht, tl, hU, hv, oks, hl, q⟩ := h
    refine ⟨_, (pss_cons (ps_for PassesOwn.never rfl (pi_range1 (by rfl) T.n_range (pa_cons (pe_op op_sub (pe_callB call_lenU (by rfl) T.n_len (by decide +kernel) (pa_cons (pv 2) pa_nil)) pe_int) pa_nil)) (pg_name (i := 3) sc_law_chained.nd rfl (Or.inl rfl)) (pss_one (ps_if (pt_not (pt_val (pe_call (ok_law_told T) hr (by rfl) T.g_law_told T.F_law_told.kp T.b_law_told .nil pass0 (pa_cons (pv 0) (pa_cons (pv 1) (pa_cons (pe_ix ix_seq (pv 2) (pv 3) (fun _ _ => rfl)) (pa_cons (pe_ix ix_seq (pv 2) (pe_op op_addU (pv 3) pe_int) (fun _ _ => rfl)) pa_nil))))))) (pss_one (ps_ret pe_bl)) pss_nil)))
        (pss_one (ps_ret pe_bl))), ?_⟩
    walk_at "rd"
    refine r_lenTV hv ?_
    walk_at "rd"
    refine l_R (by omega) (by omega) (fun i σ H' => ∃ y3, σ = [some (.ref mk), some (.ref tb), some v, y3] ∧ H' = H ∧ ∀ k x y, k < i → row[k]? = some x → row[k + 1]? = some y → Tl.A L R x y) ⟨none, rfl, rfl, fun k x y h => absurd h (Nat.not_lt_zero _)⟩ (fun i σ H' hi hW => ?_) (fun σ H' hW => ?_)
    · obtain ⟨y3, rfl, rfl, hch⟩ := hW
      have hx : row[i]? = some row[i] := List.getElem?_eq_getElem (by omega)
      have hy : row[i + 1]? = some row[i + 1] := List.getElem?_eq_getElem (by omega)
      walk_at "rd"
      refine r_ixTV hv hx fun va sa => ?_
      walk_at "rd"
      rw [show ((i : Nat) : Int) + 1 = ((i + 1 : Nat) : Int) by omega]
      refine r_ixTV hv hy fun vb sb => ?_
      walk_at "rd"
      refine ⟨mk, tb, va, vb, xs, L, R, sz, n, U, row[i], row[i + 1], rfl, hm, hms, ht, tl, hU, sa, sb, oks _ (List.mem_of_getElem? hx), oks _ (List.mem_of_getElem? hy), fun c hc => ?_⟩
      walk_at "rd"
      cases c with
      | false =>
        walk_at "rd"
        refine q _ ⟨(fun z => nomatch z), fun g => ?_⟩
        exact hc.mpr (g i _ _ hx hy)
      | true =>
        walk_at "rd"
        refine ⟨_, rfl, rfl, fun k x y hk h1 h2 => ?_⟩
        by_cases ek : k = i
        · subst ek
          rw [hx] at h1
          rw [hy] at h2
          rw [← Option.some.inj h1, ← Option.some.inj h2]
          exact hc.mp rfl
        · exact hch k x y (by omega) h1 h2
    · obtain ⟨y3, rfl, rfl, hch⟩ := hW
      walk_at "rd"
      refine q _ ⟨fun _ k x y h1 h2 => hch k x y ?_ h1 h2, fun _ => rfl⟩
      have := (List.getElem?_eq_some_iff.mp h2).1
      omega
def spLEF : Sp := fun vs H Q _ => ∃ (b : Addr) (va vb u : V) (L R : Nat → Sg) (sz : Nat → Nat) (n : Nat) (x y : Sg) (l : List Pr), vs = [.ref b, va, vb, u] ∧ Wr H b L R sz n ∧ SgV H va x ∧ SgV H vb y ∧ Ok sz n x ∧ Ok sz n y ∧ TupV SpV H u l ∧ l.length ≤ 1000 ∧
  ∀ c H', Ex H H' → (c = true ↔ EF L R (x, y) l) → Q (.bl c) H'
theorem ok_law_entry_fits (T : Txt K mg) : FnOk P w K mg base CX0 2 T.a_law_entry_fits T.d_law_entry_fits ["_law_world_here", "_law_a", "_law_b", "_law_entry"] spLEF := by
  refine T.F_law_entry_fits.ok sc_law_entry_fits (fun vs H Q E h => ?_) (fun cdv A outer s H vs Q E hr h => ?_)
  · obtain ⟨b, va, vb, u, L, R, sz, n, x, y, l, rfl, _⟩ := h
    rfl
  · obtain ⟨b, va, vb, u, L, R, sz, n, x, y, l, rfl, wr, ha, hb, okx, oky, hu, hl, q⟩ := h
    refine ⟨_, (pss_cons (ps_if (PW.pt (pw_or (pt_cmpR (op_eqU hr.units) (pe_callB call_lenU (by rfl) T.n_len (by decide +kernel) (pa_cons (pv 3) pa_nil)) pe_int (nomark _)) (pw_or1 (pt_cmpR (op_neU hr.units) (pe_ix ix_seq (pv 3) pe_int (fun _ _ => rfl)) (pe_tup (pa_cons (pv 1) (pa_cons (pv 2) pa_nil))) (nomark _))))) (pss_one (ps_ret pe_bl)) pss_nil)
        (pss_cons (ps_for PassesOwn.never rfl (pi_range1 (by rfl) T.n_range (pa_cons (pe_op op_sub (pe_callB call_lenU (by rfl) T.n_len (by decide +kernel) (pa_cons (pv 3) pa_nil)) pe_int) pa_nil)) (pg_name (i := 4) sc_law_entry_fits.nd rfl (Or.inl rfl)) (pss_one (ps_if (pt_cmpR (op_notInD hr.units65) (pe_ix ix_seq (pv 3) (pe_op op_addU (pv 4) pe_int) (fun _ _ => rfl)) (pe_call (ok_law_next T) hr (by rfl) T.g_law_next T.F_law_next.kp T.b_law_next .nil pass0 (pa_cons (pv 0) (pa_cons (pe_ix ix_seq (pv 3) (pv 4) (fun _ _ => rfl)) pa_nil))) (by rfl)) (pss_one (ps_ret pe_bl)) pss_nil)))
        (pss_one (ps_ret (pe_call (ok_law_ends T) hr (by rfl) T.g_law_ends T.F_law_ends.kp T.b_law_ends .nil pass0 (pa_cons (pe_ix ix_seq (pv 3) (pe_un un_neg pe_int) (fun _ _ => rfl)) (pa_cons (pe_callB call_lenU (by rfl) T.n_len (by decide +kernel) (pa_cons (pv 3) pa_nil)) pa_nil))))))), ?_⟩
    have wv : Wv L R sz n := by obtain ⟨_, _, br⟩ := wr; exact br.wv
    walk_at "rd"
    refine r_lenTV hu ?_
    walk_at "rd"
    refine r_ite (fun h0 => ?_) (fun h0 => ?_)
    · have l0 : l = [] := List.eq_nil_of_length_eq_zero (by have := V.int.inj h0; omega)
      walk_at "rd"
      refine q _ H (Same.refl H) ⟨(fun z => nomatch z), fun z => ?_⟩
      have := z.head
      rw [l0] at this
      cases this
    · have l0 : l.length ≠ 0 := fun z => h0 (by rw [z]; rfl)
      obtain ⟨x0, hx0⟩ : ∃ x0, l[0]? = some x0 := ⟨_, List.getElem?_eq_getElem (by omega)⟩
      walk_at "rd"
      refine r_ixTV (i := 0) hu hx0 fun w0 hw0 => ?_
      walk_at "rd"
      refine r_small nsz fun pt np => ?_
      obtain ⟨H1, k1, e1, hP⟩ := nP (R := SgV) (S := SgV) (x := x) (y := y) np ha hb
      rw [← k1]
      refine r_neSp (imm (.ex e1) hw0) hP ?_
      have hu1 := imm (R := TupV SpV) (.ex e1) hu
      walk_at "rd"
      refine r_iteN (fun hne => ?_) (fun heq => ?_)
      · walk_at "rd"
        refine q _ H1 e1 ⟨(fun z => nomatch z), fun z => ?_⟩
        have y := z.head
        rw [hx0] at y
        exact absurd (Option.some.inj y) hne
      · have ep : x0 = (x, y) := heq
        subst ep
        walk_at "rd"
        refine r_lenTV hu1 ?_
        walk_at "rd"
        refine l_R (by omega) (by omega) (fun i σ H' => ∃ y4, σ = [some (.ref b), some va, some vb, some u, y4] ∧ Ex H1 H' ∧ (∀ k a c, k < i → l[k]? = some a → l[k + 1]? = some c → c ∈ nxt L R a) ∧ ∀ k a, k ≤ i → l[k]? = some a → Ok2 sz n a)
          ⟨none, rfl, Same.refl H1, (fun k a c h _ _ => absurd h (Nat.not_lt_zero _)), fun k a hk ha => by
            have : k = 0 := by omega
            subst this
            rw [hx0] at ha
            rw [← Option.some.inj ha]
            exact ⟨okx, oky⟩⟩ (fun i σ H' hi hW => ?_) (fun σ H' hW => ?_)
        · obtain ⟨y4, rfl, e, hop, oks⟩ := hW
          have hu' := imm (R := TupV SpV) (.ex e) hu1
          have h1 : l[i]? = some l[i] := List.getElem?_eq_getElem (by omega)
          have h2 : l[i + 1]? = some l[i + 1] := List.getElem?_eq_getElem (by omega)
          walk_at "rd"
          rw [show ((i : Nat) : Int) + 1 = ((i + 1 : Nat) : Int) by omega]
          refine r_ixTV hu' h2 fun w2 s2 => ?_
          walk_at "rd"
          refine r_ixTV hu' h1 fun w1 s1 => ?_
          walk_at "rd"
          refine ⟨b, w1, L, R, sz, n, l[i], rfl, (wr.up e1).up e, s1, oks i _ (Nat.le_refl _) h1, fun m H2 xs e2 nm hm hP => ?_⟩
          walk_at "rd"
          refine r_niSp (imm (.ex e2) s2) hm hP ?_
          walk_at "rd"
          refine r_iteN (fun hno => ?_) (fun hin => ?_)
          · walk_at "rd"
            refine q _ _ (e1.trans (e.trans e2)) ⟨(fun z => nomatch z), fun z => ?_⟩
            exact absurd (z.hop i _ _ h1 h2) hno
          · walk_at "rd"
            refine ⟨_, rfl, e.trans e2, fun k a' c' hk g1 g2 => ?_, fun k a' hk g1 => ?_⟩
            · by_cases ek : k = i
              · subst ek
                rw [h1] at g1
                rw [h2] at g2
                rw [← Option.some.inj g1, ← Option.some.inj g2]
                exact hin
              · exact hop k a' c' (by omega) g1 g2
            · by_cases ek : k = i + 1
              · subst ek
                rw [h2] at g1
                rw [← Option.some.inj g1]
                exact ok_nxt wv (oks i _ (Nat.le_refl _) h1) hin
              · exact oks k a' (by omega) g1
        · obtain ⟨y4, rfl, e, hop, oks⟩ := hW
          obtain ⟨z, hz⟩ : ∃ z, l[l.length - 1]? = some z := ⟨_, List.getElem?_eq_getElem (by omega)⟩
          have hu' := imm (R := TupV SpV) (.ex e) hu1
          have iff : EF L R (x, y) l ↔ Ends2 z l.length := ⟨fun g => g.last z hz, fun g => ⟨hx0, fun k a c h1 h2 => hop k a c (by have := (List.getElem?_eq_some_iff.mp h2).1; omega) h1 h2, fun z' hz' => by
            rw [hz] at hz'
            rw [← Option.some.inj hz']
            exact g⟩⟩
          walk_at "rd"
          refine r_ixTm hu' hz fun w3 hw3 => ?_
          walk_at "rd"
          refine r_lenTV hu' ?_
          walk_at "rd"
          exact ⟨w3, l.length, z, rfl, hw3, fun c hc => q _ _ (e1.trans e) (by rw [iff]; exact hc)⟩
theorem ok_law_fits (T : Txt K mg) : FnOk P w K mg base CX0 3 T.a_law_fits T.d_law_fits ["_law_world_here", "_law_line", "_law_leaf"] spCF := by
  refine T.F_law_fits.ok sc_law_fits (fun vs H Q E h => ?_) (fun cdv A outer s H vs Q E hr h => ?_)
  · obtain ⟨b, v, u, L, R, sz, n, row, paper, rfl, _⟩ := h
    rfl
  · obtain ⟨b, v, u, L, R, sz, n, row, paper, rfl, wr, hv, hu, oks, hl, hl2, he, q⟩ := h
    refine ⟨_, (pss_cons (ps_if (pt_cmpR (op_neU hr.units) (pe_callB call_lenU (by rfl) T.n_len (by decide +kernel) (pa_cons (pv 2) pa_nil)) (pe_callB (call_maxU rfl) (by rfl) T.n_max (by decide +kernel) (pa_cons pe_int (pa_cons (pe_op op_sub (pe_callB call_lenU (by rfl) T.n_len (by decide +kernel) (pa_cons (pv 1) pa_nil)) pe_int) pa_nil))) (nomark _)) (pss_one (ps_ret pe_bl)) pss_nil)
        (pss_cons (ps_for PassesOwn.never rfl (pi_range1 (by rfl) T.n_range (pa_cons (pe_callB call_lenU (by rfl) T.n_len (by decide +kernel) (pa_cons (pv 2) pa_nil)) pa_nil)) (pg_name (i := 3) sc_law_fits.nd rfl (Or.inl rfl)) (pss_one (ps_if (pt_not (pt_val (pe_call (ok_law_entry_fits T) hr (by rfl) T.g_law_entry_fits T.F_law_entry_fits.kp T.b_law_entry_fits .nil pass0 (pa_cons (pv 0) (pa_cons (pe_ix ix_seq (pv 1) (pv 3) (fun _ _ => rfl)) (pa_cons (pe_ix ix_seq (pv 1) (pe_op op_addU (pv 3) pe_int) (fun _ _ => rfl)) (pa_cons (pe_ix ix_seq (pv 2) (pv 3) (fun _ _ => rfl)) pa_nil))))))) (pss_one (ps_ret pe_bl)) pss_nil)))
        (pss_one (ps_ret pe_bl)))), ?_⟩
    walk_at "rd"
    refine r_lenTV hu ?_
    walk_at "rd"
    refine r_lenTV hv ?_
    walk_at "rd"
    rw [show max 0 (((row.length : Nat) : Int) - 1) = ((row.length - 1 : Nat) : Int) by omega]
    refine r_iteN (fun hne => ?_) (fun heq => ?_)
    · walk_at "rd"
      exact q _ _ (Same.refl H) ⟨(fun z => nomatch z), fun z => absurd (by rw [z.len]) hne⟩
    · have hpl : paper.length = row.length - 1 := by have := V.int.inj heq; omega
      walk_at "rd"
      refine r_lenTV hu ?_
      walk_at "rd"
      refine l_R (by omega) (by omega) (fun i σ H' => ∃ y3, σ = [some (.ref b), some v, some u, y3] ∧ Ex H H' ∧ ∀ k x y e, k < i → row[k]? = some x → row[k + 1]? = some y → paper[k]? = some e → EF L R (x, y) e) ⟨none, rfl, Same.refl H, fun k x y e h => absurd h (Nat.not_lt_zero _)⟩ (fun i σ H' hi hW => ?_) (fun σ H' hW => ?_)
      · obtain ⟨y3, rfl, e, hef⟩ := hW
        have hx : row[i]? = some row[i] := List.getElem?_eq_getElem (by omega)
        have hy : row[i + 1]? = some row[i + 1] := List.getElem?_eq_getElem (by omega)
        have hp : paper[i]? = some paper[i] := List.getElem?_eq_getElem (by omega)
        have hv' := imm (R := TupV SgV) (.ex e) hv
        have hu' := imm (R := LfV) (.ex e) hu
        walk_at "rd"
        refine r_ixTV hv' hx fun va sa => ?_
        walk_at "rd"
        rw [show ((i : Nat) : Int) + 1 = ((i + 1 : Nat) : Int) by omega]
        refine r_ixTV hv' hy fun vb sb => ?_
        walk_at "rd"
        refine r_ixTV hu' hp fun ve se => ?_
        walk_at "rd"
        refine ⟨b, va, vb, ve, L, R, sz, n, row[i], row[i + 1], paper[i], rfl, wr.up e, sa, sb, oks _ (List.mem_of_getElem? hx), oks _ (List.mem_of_getElem? hy), se, he _ (List.mem_of_getElem? hp), fun c H2 e2 hc => ?_⟩
        walk_at "rd"
        cases c with
        | false =>
          walk_at "rd"
          refine q _ _ (e.trans e2) ⟨(fun z => nomatch z), fun g => ?_⟩
          exact hc.mpr (g.each i _ _ _ hx hy hp)
        | true =>
          walk_at "rd"
          refine ⟨_, rfl, e.trans e2, fun k x y en hk h1 h2 h3 => ?_⟩
          by_cases ek : k = i
          · subst ek
            rw [hx] at h1
            rw [hy] at h2
            rw [hp] at h3
            rw [← Option.some.inj h1, ← Option.some.inj h2, ← Option.some.inj h3]
            exact hc.mp rfl
          · exact hef k x y en (by omega) h1 h2 h3
      · obtain ⟨y3, rfl, e, hef⟩ := hW
        walk_at "rd"
        exact q _ _ e ⟨fun _ => ⟨hpl, fun k x y en h1 h2 h3 => hef k x y en (by have := (List.getElem?_eq_some_iff.mp h3).1; omega) h1 h2 h3⟩, fun _ => rfl⟩
end
end K26

namespace K26
open PySem PySem.Spec PyProof.Rows L2 Dk Tl
/-- one step of a reading -/
local macro_rules | `(tactic| walk_at "rd1") => `(tactic| first
  | ((with_reducible refine r_var (v := ?rv) ?rh ?_); (case rh => rfl))
  | with_reducible refine r_c ?_
  | with_reducible refine r_seq ?_
  | with_reducible refine r_asg ?_
  | with_reducible refine r_par ?_
  | with_reducible refine r_gname ?_
  | with_reducible refine r_op ?_
  | with_reducible refine r_forLo ?_
  | with_reducible refine r_forTo ?_
  | with_reducible refine r_forSo ?_
  | with_reducible refine r_forRo ?_
  | with_reducible refine r_forRvo ?_
  | with_reducible refine r_forZo ?_
  | with_reducible refine r_revS ?_
  | with_reducible refine r_lcRo ?_
  | with_reducible refine r_lcLo ?_
  | with_reducible refine r_yes ?_
  | with_reducible refine r_callK0 ?_
  | with_reducible refine r_break ?_
  | with_reducible refine r_forR2o ?_
  | with_reducible refine r_forEo ?_
  | with_reducible refine r_forESo ?_
  | with_reducible refine r_xfo ?_
  | with_reducible refine r_noP ?_
  | with_reducible refine r_part ?_
  | with_reducible refine r_pI ?_
  | with_reducible refine r_gcons ?_
  | with_reducible refine r_gnil ?_
  | with_reducible refine r_mkO ?_
  | with_reducible refine r_un ?_
  | with_reducible refine r_addI ?_
  | with_reducible refine r_I0 ?_
  | with_reducible refine r_U ?_
  | with_reducible refine r_cons ?_
  | with_reducible refine r_nil ?_
  | with_reducible refine r_CB ?_
  | with_reducible refine r_call ?_
  | with_reducible refine r_callS ?_
  | with_reducible refine r_int ?_
  | with_reducible refine r_max ?_
  | with_reducible refine r_min ?_
  | with_reducible refine r_test ?_
  | with_reducible refine r_B ?_
  | with_reducible refine r_blv ?_
  | with_reducible refine r_and ?_
  | with_reducible refine r_or ?_
  | with_reducible refine r_not ?_
  | with_reducible refine r_andV ?_
  | with_reducible refine r_orV ?_
  | with_reducible refine r_notV ?_
  | with_reducible refine r_ifE ?_
  | with_reducible refine r_ifS ?_
  | with_reducible refine r_ret ?_
  | with_reducible refine r_retN ?_
  | with_reducible refine r_drop ?_
  | with_reducible refine r_next ?_
  | with_reducible refine r_sl ?_
  | with_reducible refine r_gsub ?_
  | with_reducible refine r_bm ?_
  | with_reducible refine r_tup ?_
  | with_reducible refine r_lst ?_
  | with_reducible refine r_isN ?_
  | with_reducible refine r_notN ?_
  | with_reducible refine r_itt ?_
  | with_reducible refine r_iff ?_
  | with_reducible refine r_ittN ?_
  | with_reducible refine r_iffN ?_
  | ((with_reducible refine r_ittD ?rh ?_); (case rh => rfl))
  | ((with_reducible refine r_iffD ?rh ?_); (case rh => rfl))
  | ((with_reducible refine r_modP ?rh ?_); (case rh => decide))
  | ((with_reducible refine r_eq ?rh ?_); (case rh => rfl))
  | ((with_reducible refine r_eqP ?rh ?_); (case rh => rfl))
  | ((with_reducible refine r_ne ?rh ?_); (case rh => rfl)))
local macro_rules | `(tactic| walk_at "rd") => `(tactic| repeat walk_at "rd1")
local macro_rules | `(tactic| walk_at "isi") => `(tactic| first | refine r_isi (b := true) (by assumption) (by decide +kernel) ?_ | refine r_isi (b := false) (by assumption) (by decide +kernel) ?_)
local macro_rules | `(tactic| walk_at "rs1") => `(tactic| first
  | with_reducible refine r_seq ?_
  | with_reducible refine r_asg ?_
  | with_reducible refine r_gname ?_
  | with_reducible refine r_ret ?_)
local macro_rules | `(tactic| walk_at "rs") => `(tactic| repeat walk_at "rs1")

section
variable {L R : Nat → Sg} {sz : Nat → Nat} {n : Nat}
/-- a way of hops from a pair -/
def Gd (L R : Nat → Sg) (p : Pr) (e : List Pr) : Prop := e[0]? = some p ∧ ∀ (k : Nat) (a c : Pr), e[k]? = some a → e[k + 1]? = some c → c ∈ nxt L R a
theorem Gd.ne {p : Pr} {e : List Pr} (h : Gd L R p e) : 0 < e.length := (List.getElem?_eq_some_iff.mp h.1).1
theorem Gd.oks (wv : Wv L R sz n) {p : Pr} {e : List Pr} (ok : Ok2 sz n p) (h : Gd L R p e) : ∀ (k : Nat) (a : Pr), e[k]? = some a → Ok2 sz n a := by
  intro k
  induction k with
  | zero =>
    intro a ha
    rw [h.1] at ha
    rw [← Option.some.inj ha]
    exact ok
  | succ k ih =>
    intro a ha
    have kl := (List.getElem?_eq_some_iff.mp ha).1
    have hb : e[k]? = some e[k] := List.getElem?_eq_getElem (by omega)
    exact ok_nxt wv (ih _ hb) (h.2 k _ _ hb ha)
theorem Gd.snoc {p z c : Pr} {e : List Pr} (h : Gd L R p e) (hz : e[e.length - 1]? = some z) (hc : c ∈ nxt L R z) : Gd L R p (e ++ [c]) := by
  have h0 := h.ne
  refine ⟨by rw [List.getElem?_append_left h0]; exact h.1, fun k a b ha hb => ?_⟩
  by_cases hk : k + 1 < e.length
  · rw [List.getElem?_append_left (by omega)] at ha
    rw [List.getElem?_append_left hk] at hb
    exact h.2 k a b ha hb
  · have kl := (List.getElem?_eq_some_iff.mp hb).1
    rw [List.length_append, List.length_singleton] at kl
    have ek : k + 1 = e.length := by omega
    rw [List.getElem?_append_left (by omega), show k = e.length - 1 by omega, hz] at ha
    rw [List.getElem?_append_right (by omega), ek, Nat.sub_self] at hb
    rw [← Option.some.inj ha, ← Option.some.inj (show some c = some b from hb)]
    exact hc
theorem Gd.fits {p z : Pr} {e : List Pr} (h : Gd L R p e) (hz : e[e.length - 1]? = some z) : EF L R p e ↔ Ends2 z e.length :=
  ⟨fun g => g.last z hz, fun g => ⟨h.1, h.2, fun z' hz' => by
    rw [hz] at hz'
    rw [← Option.some.inj hz']
    exact g⟩⟩
end
section
variable {P : Program} {w : World} {K : PySem.W.Frag} {mg : Str → Option Value} {base : Heap}
def spWalks : Sp := fun vs H Q _ => ∃ (b : Addr) (va vb : V) (L R : Nat → Sg) (sz : Nat → Nat) (n : Nat) (x y : Sg), vs = [.ref b, va, vb] ∧ Wr H b L R sz n ∧ SgV H va x ∧ SgV H vb y ∧ Ok sz n x ∧ Ok sz n y ∧
  ∀ p H' xs ls, Ex H H' → H p = none → H' p = some (.lst xs) → P2 (TupV SpV H') xs ls → (∀ e ∈ ls, Gd L R (x, y) e ∧ e.length ≤ 30) → ls.length ≤ 24 → Q (.ref p) H'
theorem ok_law_walks (T : Txt K mg) : FnOk P w K mg base CX0 2 T.a_law_walks T.d_law_walks ["_law_world_here", "_law_a", "_law_b"] spWalks := by
  refine T.F_law_walks.ok sc_law_walks (fun vs H Q E h => ?_) (fun cdv A outer s H vs Q E hr h => ?_)
  · obtain ⟨b, va, vb, L, R, sz, n, x, y, rfl, _⟩ := h
    rfl
  · obtain ⟨b, va, vb, L, R, sz, n, x, y, rfl, wr, ha, hb, okx, oky, q⟩ := h
    refine ⟨_, (pss_cons (ps_set (i := 3) sc_law_walks.nd rfl (Or.inl rfl) (pe_lst (pa_cons (pe_tup (pa_cons (pe_tup (pa_cons (pv 1) (pa_cons (pv 2) pa_nil))) pa_nil)) pa_nil)))
        (pss_cons (ps_set (i := 4) sc_law_walks.nd rfl (Or.inl rfl) (pe_lst pa_nil))
        (pss_cons (ps_for PassesOwn.never rfl (pi_range1 (by rfl) T.n_range (pa_cons pe_int pa_nil)) (pg_name (i := 5) sc_law_walks.nd rfl (Or.inl rfl)) (pss_one (ps_if (pt_cmpR op_lt (pv 5) (pe_callB call_lenU (by rfl) T.n_len (by decide +kernel) (pa_cons (pv 3) pa_nil)) (nomark _)) (pss_cons (ps_expr (pe_bm PySem.F.plainAttrs_list PySem.F.slot_list_append PySem.F.type_list_append mt_append (pv 4) (pa_cons (pe_ix ix_seq (pv 3) (pv 5) (fun _ _ => rfl)) pa_nil)))
        (pss_one (ps_for PassesOwn.never rfl (pi_list (pe_call (ok_law_next T) hr (by rfl) T.g_law_next T.F_law_next.kp T.b_law_next .nil pass0 (pa_cons (pv 0) (pa_cons (pe_ix ix_seq (pe_ix ix_seq (pv 3) (pv 5) (fun _ _ => rfl)) (pe_un un_neg pe_int) (fun _ _ => rfl)) pa_nil)))) (pg_name (i := 6) sc_law_walks.nd rfl (Or.inl rfl)) (pss_one (ps_expr (pe_bm PySem.F.plainAttrs_list PySem.F.slot_list_append PySem.F.type_list_append mt_append (pv 3) (pa_cons (pe_op op_addU (pe_ix ix_seq (pv 3) (pv 5) (fun _ _ => rfl)) (pe_tup (pa_cons (pv 6) pa_nil))) pa_nil))))))) pss_nil)))
        (pss_one (ps_ret (pv 4)))))), ?_⟩
    have wv : Wv L R sz n := by obtain ⟨_, _, br⟩ := wr; exact br.wv
    walk_at "rd"
    refine r_small nsz fun p1 n1 => ?_
    obtain ⟨H1, k1, e1, hP1⟩ := nP (R := SgV) (S := SgV) (x := x) (y := y) n1 ha hb
    rw [← k1]
    walk_at "rd"
    refine r_small nsz fun p2 n2 => ?_
    obtain ⟨H2, k2, e2, hP2⟩ := nT (R := SpV) (l := [(x, y)]) n2 (.cons hP1 .nil)
    rw [← k2]
    walk_at "rd"
    refine r_small nsz fun pr nr => ?_
    obtain ⟨H3, k3, e3, h3⟩ := nL (.lst [.ref p2]) nr
    rw [← k3]
    walk_at "rd"
    refine r_small nsz fun pd nd => ?_
    obtain ⟨H4, k4, e4, h4⟩ := nL (.lst []) nd
    rw [← k4]
    have e02 := e1.trans e2
    have e04 := (e02.trans e3).trans e4
    have nr0 : H pr = none := e02.free nr
    have nd0 : H pd = none := (e02.trans e3).free nd
    have rd : pr ≠ pd := fun z => by rw [← z, h3] at nd; cases nd
    walk_at "rd"
    refine l_R (by decide) (by decide) (fun i σ H' => ∃ y5 y6 xs ls ds dl, σ = [some (.ref b), some va, some vb, some (.ref pr), some (.ref pd), y5, y6] ∧ Ex H H' ∧ H' pr = some (.lst xs) ∧ P2 (TupV SpV H') xs ls ∧ H' pd = some (.lst ds) ∧ P2 (TupV SpV H') ds dl ∧ (∀ e ∈ ls, Gd L R (x, y) e ∧ e.length ≤ i + 1) ∧ (∀ e ∈ dl, Gd L R (x, y) e ∧ e.length ≤ 30) ∧ ls.length ≤ 1 + 2 * i ∧ dl.length ≤ i)
      ⟨none, none, [.ref p2], [[(x, y)]], [], [], rfl, e04, e4 _ _ h3, .cons (imm (.ex (e3.trans e4)) hP2) .nil, h4, .nil, (fun e he => by
        rw [List.mem_singleton.mp he]
        exact ⟨⟨rfl, fun k a c _ hc => by simp at hc⟩, Nat.le_refl _⟩), (fun e he => absurd he List.not_mem_nil), by simp, Nat.zero_le _⟩ (fun i σ H' hi hW => ?_) (fun σ H' hW => ?_)
    · obtain ⟨y5, y6, xs, ls, ds, dl, rfl, e, hpr, hX, hpd, hD, gl, gd, ln, dn⟩ := hW
      have xl := hX.len
      have dl' := hD.len
      walk_at "rd"
      refine r_lenL (sqL hpr) ?_
      walk_at "rd"
      refine r_ite (fun hlt => ?_) (fun hge => ?_)
      · have il : i < ls.length := by omega
        have hei : ls[i]? = some ls[i] := List.getElem?_eq_getElem il
        obtain ⟨ge, le⟩ := gl _ (List.mem_of_getElem? hei)
        obtain ⟨z, hz⟩ : ∃ z, (ls[i])[(ls[i]).length - 1]? = some z := ⟨_, List.getElem?_eq_getElem (show (ls[i]).length - 1 < (ls[i]).length by have := ge.ne; omega)⟩
        have okz := ge.oks wv ⟨okx, oky⟩ _ z hz
        obtain ⟨u, hu, su⟩ := hX.get' hei
        walk_at "rd"
        refine r_tyL (sqL hpd) ?_
        walk_at "rd"
        refine r_ixL (sqL hpr) (atI_nat hu) ?_
        walk_at "rd"
        refine r_app hpd (Nat.lt_of_le_of_lt (show ds.length ≤ 1000 by omega) (by decide)) ?_
        have tp := Tk.put (o := .lst (ds ++ [u])) hpd
        obtain ⟨H5, k5⟩ : ∃ y, y = upd H' pd (.lst (ds ++ [u])) := ⟨_, rfl⟩
        rw [← k5] at tp ⊢
        have e5 : Ex H H5 := by rw [k5]; exact Same.mut e nd0
        have hpd5 : H5 pd = some (.lst (ds ++ [u])) := by rw [k5]; exact upd_same
        have hpr5 : H5 pr = some (.lst xs) := by rw [k5, upd_ne rd]; exact hpr
        have hX5 := p2_imm tp hX
        have hD5 : P2 (TupV SpV H5) (ds ++ [u]) (dl ++ [ls[i]]) := (p2_imm tp hD).snoc (imm tp su)
        have su5 := imm tp su
        clear k5
        walk_at "rd"
        refine r_ixL (sqL hpr5) (atI_nat hu) ?_
        walk_at "rd"
        refine r_ixTm su5 hz fun wz hwz => ?_
        walk_at "rd"
        refine ⟨b, wz, L, R, sz, n, z, rfl, wr.up e5, hwz, okz, fun m H6 zs e6 nm hm hZ => ?_⟩
        have npm : pr ≠ m := fun q => by rw [← q, hpr5] at nm; cases nm
        have ndm : pd ≠ m := fun q => by rw [← q, hpd5] at nm; cases nm
        have zl : zs.length ≤ 2 := by
          rw [hZ.len]
          unfold nxt
          rw [List.length_append]
          split <;> split <;> simp
        walk_at "rd"
        refine l_L (sqL hm) (fun j σ H' => ∃ y6 xs2 ls2, σ = [some (.ref b), some va, some vb, some (.ref pr), some (.ref pd), some (.int (i : Nat)), y6] ∧ Ex H H' ∧ Tk H6 H' ∧ H' m = some (.lst zs) ∧ H' pr = some (.lst xs2) ∧ P2 (TupV SpV H') xs2 ls2 ∧ H' pd = some (.lst (ds ++ [u])) ∧ xs2[i]? = some u ∧ (∀ e ∈ ls2, Gd L R (x, y) e ∧ e.length ≤ i + 2) ∧ ls2.length = ls.length + j)
          ⟨y6, xs, ls, rfl, e5.trans e6, .ex (Same.refl H6), hm, e6 _ _ hpr5, p2_imm (.ex e6) hX5, e6 _ _ hpd5, hu, (fun e he => ⟨(gl e he).1, by have := (gl e he).2; omega⟩), rfl⟩ (fun j σ H' hW => ?_) (fun j v σ H' hv hW => ?_) (fun σ H' hW => ?_)
        · obtain ⟨_, _, _, _, _, _, hm', _⟩ := hW
          exact sqL hm'
        · obtain ⟨y6, xs2, ls2, rfl, e', t', hm', hpr', hX', hpd', hu', gl', ln'⟩ := hW
          obtain ⟨c, hc, sc⟩ := hZ.get hv
          have sc' := imm t' sc
          have su' := imm ((Tk.ex e6).trans t') su5
          have jl := (List.getElem?_eq_some_iff.mp hv).1
          have x2l := hX'.len
          walk_at "rd"
          refine r_tyL (sqL hpr') ?_
          walk_at "rd"
          refine r_ixL (sqL hpr') (atI_nat hu') ?_
          walk_at "rd"
          refine r_small nsz fun p7 n7 => ?_
          obtain ⟨H7, k7, e7, hP7⟩ := nT (R := SpV) (l := [c]) n7 (.cons sc' .nil)
          rw [← k7]
          refine r_catTV (imm (.ex e7) su') hP7 (by simp; omega) fun w8 H8 e8 hw8 => ?_
          walk_at "rd"
          have e78 := e7.trans e8
          have hpr8 := e78 _ _ hpr'
          refine r_app hpr8 (Nat.lt_of_le_of_lt (show xs2.length ≤ 1000 by omega) (by decide)) ?_
          have tp8 := Tk.put (o := .lst (xs2 ++ [w8])) hpr8
          have t78 := (Tk.ex e78).trans tp8
          refine ⟨_, xs2 ++ [w8], ls2 ++ [ls[i] ++ [c]], rfl, Same.mut (e'.trans e78) nr0, t'.trans t78, by rw [upd_ne (Ne.symm npm)]; exact e78 _ _ hm', upd_same, (p2_imm t78 hX').snoc (imm tp8 hw8), by rw [upd_ne (Ne.symm rd)]; exact e78 _ _ hpd', by rw [List.getElem?_append_left (by omega)]; exact hu', fun e he => ?_, by rw [List.length_append, ln']; rfl⟩
          rcases List.mem_append.mp he with he | he
          · exact gl' e he
          · rw [List.mem_singleton.mp he]
            exact ⟨ge.snoc hz (List.mem_of_getElem? hc), by rw [List.length_append, List.length_singleton]; omega⟩
        · obtain ⟨y6, xs2, ls2, rfl, e', t', hm', hpr', hX', hpd', hu', gl', ln'⟩ := hW
          refine ⟨_, y6, xs2, ls2, ds ++ [u], dl ++ [ls[i]], rfl, e', hpr', hX', hpd', p2_imm ((Tk.ex e6).trans t') hD5, gl', fun e he => ?_, by omega, by rw [List.length_append, List.length_singleton]; omega⟩
          rcases List.mem_append.mp he with he | he
          · exact gd e he
          · rw [List.mem_singleton.mp he]
            exact ⟨ge, by omega⟩
      · walk_at "rd"
        exact ⟨_, y6, xs, ls, ds, dl, rfl, e, hpr, hX, hpd, hD, (fun e he => ⟨(gl e he).1, by have := (gl e he).2; omega⟩), gd, by omega, by omega⟩
    · obtain ⟨y5, y6, xs, ls, ds, dl, rfl, e, hpr, hX, hpd, hD, gl, gd, ln, dn⟩ := hW
      walk_at "rd"
      exact q pd H' ds dl e nd0 hpd hD gd dn
end
end K26

namespace K26
open PySem PySem.Spec PyProof.Rows L2 Dk Tl
/-- one step of a reading -/
local macro_rules | `(tactic| walk_at "rd1") => `(tactic| first
  | ((with_reducible refine r_var (v := ?rv) ?rh ?_); (case rh => rfl))
  | with_reducible refine r_c ?_
  | with_reducible refine r_seq ?_
  | with_reducible refine r_asg ?_
  | with_reducible refine r_par ?_
  | with_reducible refine r_gname ?_
  | with_reducible refine r_op ?_
  | with_reducible refine r_forLo ?_
  | with_reducible refine r_forTo ?_
  | with_reducible refine r_forSo ?_
  | with_reducible refine r_forRo ?_
  | with_reducible refine r_forRvo ?_
  | with_reducible refine r_forZo ?_
  | with_reducible refine r_revS ?_
  | with_reducible refine r_lcRo ?_
  | with_reducible refine r_lcLo ?_
  | with_reducible refine r_yes ?_
  | with_reducible refine r_callK0 ?_
  | with_reducible refine r_break ?_
  | with_reducible refine r_forR2o ?_
  | with_reducible refine r_forEo ?_
  | with_reducible refine r_forESo ?_
  | with_reducible refine r_xfo ?_
  | with_reducible refine r_noP ?_
  | with_reducible refine r_part ?_
  | with_reducible refine r_pI ?_
  | with_reducible refine r_gcons ?_
  | with_reducible refine r_gnil ?_
  | with_reducible refine r_mkO ?_
  | with_reducible refine r_un ?_
  | with_reducible refine r_addI ?_
  | with_reducible refine r_I0 ?_
  | with_reducible refine r_U ?_
  | with_reducible refine r_cons ?_
  | with_reducible refine r_nil ?_
  | with_reducible refine r_CB ?_
  | with_reducible refine r_call ?_
  | with_reducible refine r_callS ?_
  | with_reducible refine r_int ?_
  | with_reducible refine r_max ?_
  | with_reducible refine r_min ?_
  | with_reducible refine r_test ?_
  | with_reducible refine r_B ?_
  | with_reducible refine r_blv ?_
  | with_reducible refine r_and ?_
  | with_reducible refine r_or ?_
  | with_reducible refine r_not ?_
  | with_reducible refine r_andV ?_
  | with_reducible refine r_orV ?_
  | with_reducible refine r_notV ?_
  | with_reducible refine r_ifE ?_
  | with_reducible refine r_ifS ?_
  | with_reducible refine r_ret ?_
  | with_reducible refine r_retN ?_
  | with_reducible refine r_drop ?_
  | with_reducible refine r_next ?_
  | with_reducible refine r_sl ?_
  | with_reducible refine r_gsub ?_
  | with_reducible refine r_bm ?_
  | with_reducible refine r_tup ?_
  | with_reducible refine r_lst ?_
  | with_reducible refine r_isN ?_
  | with_reducible refine r_notN ?_
  | with_reducible refine r_itt ?_
  | with_reducible refine r_iff ?_
  | with_reducible refine r_ittN ?_
  | with_reducible refine r_iffN ?_
  | ((with_reducible refine r_ittD ?rh ?_); (case rh => rfl))
  | ((with_reducible refine r_iffD ?rh ?_); (case rh => rfl))
  | ((with_reducible refine r_modP ?rh ?_); (case rh => decide))
  | ((with_reducible refine r_eq ?rh ?_); (case rh => rfl))
  | ((with_reducible refine r_eqP ?rh ?_); (case rh => rfl))
  | ((with_reducible refine r_ne ?rh ?_); (case rh => rfl)))
local macro_rules | `(tactic| walk_at "rd") => `(tactic| repeat walk_at "rd1")
local macro_rules | `(tactic| walk_at "isi") => `(tactic| first | refine r_isi (b := true) (by assumption) (by decide +kernel) ?_ | refine r_isi (b := false) (by assumption) (by decide +kernel) ?_)
local macro_rules | `(tactic| walk_at "rs1") => `(tactic| first
  | with_reducible refine r_seq ?_
  | with_reducible refine r_asg ?_
  | with_reducible refine r_gname ?_
  | with_reducible refine r_ret ?_)
local macro_rules | `(tactic| walk_at "rs") => `(tactic| repeat walk_at "rs1")

section
variable {H : Hp}
theorem sm_sg (d : Nat) {v u : V} {x : Sg} (h1 : SgV H v x) (h2 : SgV H u x) : Sm H (d + 2) v u := by
  obtain ⟨p, rfl, hp⟩ := h1
  obtain ⟨q, rfl, hq⟩ := h2
  exact .inr (.inr ⟨p, q, _, _, rfl, rfl, hp, hq, by simp, .cons (.inr (.inl ⟨_, rfl, rfl⟩)) (.cons (.inr (.inl ⟨_, rfl, rfl⟩)) .nil)⟩)
theorem sm_sp (d : Nat) {v u : V} {x : Pr} (h1 : SpV H v x) (h2 : SpV H u x) : Sm H (d + 3) v u := by
  obtain ⟨p, a, b, rfl, hp, ha, hb⟩ := h1
  obtain ⟨q, a', b', rfl, hq, ha', hb'⟩ := h2
  exact .inr (.inr ⟨p, q, _, _, rfl, rfl, hp, hq, by simp, .cons (sm_sg d ha ha') (.cons (sm_sg d hb hb') .nil)⟩)
theorem sm_en (d : Nat) {v u : V} {l : List Pr} (hl : l.length ≤ 1000) (h1 : TupV SpV H v l) (h2 : TupV SpV H u l) : Sm H (d + 4) v u := by
  obtain ⟨p, xs, rfl, hp, hx⟩ := h1
  obtain ⟨q, ys, rfl, hq, hy⟩ := h2
  exact .inr (.inr ⟨p, q, _, _, rfl, rfl, hp, hq, by rw [hx.len]; exact hl, hx.join (fun a b c h g => sm_sp d h g) hy⟩)
theorem p2_mem {α β : Type} {R S : α → β → Prop} {l : List α} {m : List β} (h : P2 R l m) (k : ∀ a b, b ∈ m → R a b → S a b) : P2 S l m := by
  induction h with
  | nil => exact .nil
  | @cons a b l m h t ih => exact .cons (k a b (List.mem_cons_self ..) h) (ih fun a b hb => k a b (List.mem_cons_of_mem _ hb))
theorem sm_lf (d : Nat) {v u : V} {ll : List (List Pr)} (hl : ll.length ≤ 1000) (he : ∀ e ∈ ll, e.length ≤ 1000) (h1 : LfV H v ll) (h2 : LfV H u ll) : Sm H (d + 5) v u := by
  obtain ⟨p, xs, rfl, hp, hx⟩ := h1
  obtain ⟨q, ys, rfl, hq, hy⟩ := h2
  refine .inr (.inr ⟨p, q, _, _, rfl, rfl, hp, hq, by rw [hx.len]; exact hl, ?_⟩)
  exact (p2_mem (S := fun a (b : List Pr) => TupV SpV H a b ∧ b.length ≤ 1000) hx fun a b hb h => ⟨h, he b hb⟩).join (fun a b c h g => sm_en d h.2 h.1 g) hy
theorem sm_b (d : Nat) {c e : Bool} (h : c = e) : Sm H (d + 1) (.bl c) (.bl e) := .inl ⟨c, rfl, by rw [h]⟩
end
section
variable {P : Program} {w : World} {K : PySem.W.Frag} {mg : Str → Option Value} {base : Heap}
def spPH : Sp := fun vs H Q _ => ∃ (b mk tb : Addr) (va vb : V) (xs : List V) (L R : Nat → Sg) (sz : Nat → Nat) (n : Nat) (U : List Nat) (x y : Sg), vs = [.ref b, .ref mk, .ref tb, va, vb] ∧ Wr H b L R sz n ∧ H mk = some (.lst xs) ∧ SgL H xs (marks sz n) ∧ H tb = some (.lst (tbv U)) ∧ Tells L R sz n U ∧ U.length ≤ 1000 ∧ SgV H va x ∧ SgV H vb y ∧ Ok sz n x ∧ Ok sz n y ∧
  ∀ H', Ex H H' → Q (.bl true) H'
theorem ok_law_pair_holds (T : Txt K mg) : FnOk P w K mg base CX0 6 T.a_law_pair_holds T.d_law_pair_holds ["_law_world_here", "_law_marks", "_law_table", "_law_a", "_law_b"] spPH := by
  refine T.F_law_pair_holds.ok sc_law_pair_holds (fun vs H Q E h => ?_) (fun cdv A outer s H vs Q E hr h => ?_)
  · obtain ⟨b, mk, tb, va, vb, xs, L, R, sz, n, U, x, y, rfl, _⟩ := h
    rfl
  · obtain ⟨b, mk, tb, va, vb, xs, L, R, sz, n, U, x, y, rfl, wr, hm, hms, ht, tl, hU, ha, hb, ox, oy, q⟩ := h
    refine ⟨_, (pss_cons (ps_set (i := 5) sc_law_pair_holds.nd rfl (Or.inl rfl) pe_int)
        (pss_cons (ps_for PassesOwn.never rfl (pi_list (pe_call (ok_law_walks T) (hr.mono (by decide)) (by rfl) T.g_law_walks T.F_law_walks.kp T.b_law_walks .nil pass0 (pa_cons (pv 0) (pa_cons (pv 3) (pa_cons (pv 4) pa_nil))))) (pg_name (i := 6) sc_law_pair_holds.nd rfl (Or.inl rfl)) (pss_cons (ps_set (i := 7) sc_law_pair_holds.nd rfl (Or.inl rfl) (pe_call (ok_law_ends T) (hr.mono (by decide)) (by rfl) T.g_law_ends T.F_law_ends.kp T.b_law_ends .nil pass0 (pa_cons (pe_ix ix_seq (pv 6) (pe_un un_neg pe_int) (fun _ _ => rfl)) (pa_cons (pe_callB call_lenU (by rfl) T.n_len (by decide +kernel) (pa_cons (pv 6) pa_nil)) pa_nil))))
        (pss_cons (ps_set (i := 5) sc_law_pair_holds.nd rfl (Or.inl rfl) (pe_op op_addU (pv 5) (pe_callTy call_intU (by rfl) T.n_int (by decide +kernel) (pa_cons (pv 7) pa_nil))))
        (pss_one (ps_if (pt_not (pt_val (pe_call (ok_law_same T) hr (by rfl) T.g_law_same T.F_law_same.kp T.b_law_same .nil pass0 (pa_cons (pe_call (ok_chain_fits T) (hr.mono (by decide)) (by rfl) T.g_chain_fits T.F_chain_fits.kp T.b_chain_fits .nil pass0 (pa_cons (pv 0) (pa_cons (pe_tup (pa_cons (pv 3) (pa_cons (pv 4) pa_nil))) (pa_cons (pe_tup (pa_cons (pv 6) pa_nil)) pa_nil)))) (pa_cons (pv 7) pa_nil))))) (pss_one (ps_ret pe_bl)) pss_nil)))))
        (pss_cons (ps_if (pt_not (pt_val (pe_call (ok_law_same T) hr (by rfl) T.g_law_same T.F_law_same.kp T.b_law_same .nil pass0 (pa_cons (pe_callK0 (ok_chain_paper T) (hr.mono (by decide)) (by rfl) T.g_chain_paper T.F_chain_paper.kp T.kb_chain_paper pass0 (pk_cons (pe_tup (pa_cons (pv 3) (pa_cons (pv 4) pa_nil))) (pk_cons (pv 0) pk_nil))) (pa_cons (pe_tup (pa_cons (pe_call (ok_law_hops T) (hr.mono (by decide)) (by rfl) T.g_law_hops T.F_law_hops.kp T.b_law_hops .nil pass0 (pa_cons (pv 0) (pa_cons (pv 3) (pa_cons (pv 4) pa_nil)))) pa_nil)) pa_nil))))) (pss_one (ps_ret pe_bl)) pss_nil)
        (pss_one (ps_ret (pe_or (pe_cmpR (op_eqU hr.units) (pv 5) pe_int (nomark _)) (pe_one (pe_call (ok_law_told T) (hr.mono (by decide)) (by rfl) T.g_law_told T.F_law_told.kp T.b_law_told .nil pass0 (pa_cons (pv 1) (pa_cons (pv 2) (pa_cons (pv 3) (pa_cons (pv 4) pa_nil)))))))))))), ?_⟩
    have wv : Wv L R sz n := by obtain ⟨_, _, br⟩ := wr; exact br.wv
    walk_at "rd"
    refine ⟨b, va, vb, L, R, sz, n, x, y, rfl, wr, ha, hb, ox, oy, fun pw H1 es ls e1 npw hpw hE gl ll => ?_⟩
    have el := hE.len
    refine l_L (sqL hpw) (fun i σ H' => ∃ (f : Nat) (y6 y7 : Option V), σ = [some (.ref b), some (.ref mk), some (.ref tb), some va, some vb, some (.int (f : Nat)), y6, y7] ∧ Ex H1 H' ∧ (f = 0 ∨ Tl.A L R x y)) ⟨0, none, none, rfl, Same.refl H1, .inl rfl⟩ (fun i σ H' hW => ?_) (fun i v σ H' hv hW => ?_) (fun σ H' hW => ?_)
    · obtain ⟨_, _, _, _, e, _⟩ := hW
      exact sqL (e _ _ hpw)
    · obtain ⟨f, y6, y7, rfl, e, hf⟩ := hW
      obtain ⟨en, hen, sen⟩ := hE.get hv
      obtain ⟨ge, le⟩ := gl en (List.mem_of_getElem? hen)
      obtain ⟨z, hz⟩ : ∃ z, en[en.length - 1]? = some z := ⟨_, List.getElem?_eq_getElem (show en.length - 1 < en.length by have := ge.ne; omega)⟩
      have sen' := imm (R := TupV SpV) (.ex e) sen
      have e01 := e1.trans e
      walk_at "rd"
      refine r_ixTm sen' hz fun wz hwz => ?_
      walk_at "rd"
      refine r_lenTV sen' ?_
      walk_at "rd"
      refine ⟨wz, en.length, z, rfl, hwz, fun c hc => ?_⟩
      have cef : c = true ↔ EF L R (x, y) en := by rw [ge.fits hz]; exact hc
      walk_at "rd"
      refine r_bool ?_
      walk_at "rd"
      refine r_small nsz fun p1 n1 => ?_
      obtain ⟨H2, k2, e2, hT1⟩ := nT (R := SgV) (l := [x, y]) n1 (.cons (ha.up e01) (.cons (hb.up e01) .nil))
      rw [← k2]
      walk_at "rd"
      refine r_small nsz fun p2 n2 => ?_
      obtain ⟨H3, k3, e3, hT2⟩ := nT (R := TupV SpV) (l := [en]) n2 (.cons (imm (.ex e2) sen') .nil)
      rw [← k3]
      have e03 := (e01.trans e2).trans e3
      walk_at "rd"
      refine ⟨b, _, _, L, R, sz, n, [x, y], [en], rfl, wr.up e03, imm (.ex e3) hT1, hT2, (fun t ht => by
        rcases List.mem_cons.mp ht with rfl | ht
        · exact ox
        · rw [List.mem_singleton.mp ht]; exact oy), by simp, by simp, (fun t ht => by rw [List.mem_singleton.mp ht]; omega), fun c2 H4 e4 hc2 => ?_⟩
      have cfe : CF L R [x, y] [en] ↔ EF L R (x, y) en := ⟨fun g => g.each 0 x y en rfl rfl rfl, fun g => ⟨rfl, fun k x' y' e' h1 h2 h3 => by
        cases k with
        | zero =>
          rw [← Option.some.inj (show some x = some x' from h1), ← Option.some.inj (show some y = some y' from h2), ← Option.some.inj (show some en = some e' from h3)]
          exact g
        | succ k => simp at h3⟩⟩
      walk_at "rd"
      refine ⟨_, _, rfl, sm_b 4 (by rw [Bool.eq_iff_iff, hc2, cfe, cef]), fun H5 e5 => ?_⟩
      walk_at "rd"
      refine ⟨f + (if c then 1 else 0), some v, some (.bl c), ?_, ((e.trans (e2.trans e3)).trans e4).trans e5, ?_⟩
      · cases c <;> rfl
      · cases c with
        | false => exact hf.imp (fun h => h) id
        | true => exact .inr ((cef.mp rfl).sound wv ⟨ox, oy⟩)
    · obtain ⟨f, y6, y7, rfl, e, hf⟩ := hW
      have e01 := e1.trans e
      have oks : ∀ t ∈ [x, y], Ok sz n t := fun t ht => by
        rcases List.mem_cons.mp ht with rfl | ht
        · exact ox
        · rw [List.mem_singleton.mp ht]; exact oy
      walk_at "rd"
      refine r_small nsz fun p1 n1 => ?_
      obtain ⟨H2, k2, e2, hT1⟩ := nT (R := SgV) (l := [x, y]) n1 (.cons (ha.up e01) (.cons (hb.up e01) .nil))
      rw [← k2]
      have e02 := e01.trans e2
      walk_at "rd"
      refine ⟨b, _, L, R, sz, n, [x, y], rfl, wr.up e02, hT1, oks, by simp, fun wp H3 lp e3 hwp hHP => ?_⟩
      have e03 := e02.trans e3
      walk_at "rd"
      refine ⟨b, va, vb, L, R, sz, n, x, y, rfl, wr.up e03, ha.up e03, hb.up e03, ox, oy, fun p4 H4 xs4 hs e4 hp4 hP4 hH hn => ?_⟩
      have n250 : n ≤ 250 := by obtain ⟨_, _, br⟩ := wr; exact br.small
      have s4 : TupV SpV H4 (.ref p4) hs := ⟨p4, xs4, rfl, hp4, hP4.imp fun _ _ z => z⟩
      walk_at "rd"
      refine r_small nsz fun p5 n5 => ?_
      obtain ⟨H5, k5, e5, hT5⟩ := nT (R := TupV SpV) (l := [hs]) n5 (.cons s4 .nil)
      rw [← k5]
      have elp : lp = [hs] := HP.det hHP ⟨rfl, fun k x' y' e' h1 h2 h3 => by
        cases k with
        | zero =>
          rw [← Option.some.inj (show some x = some x' from h1), ← Option.some.inj (show some y = some y' from h2), ← Option.some.inj (show some hs = some e' from h3)]
          exact ⟨hH, by omega⟩
        | succ k => simp at h3⟩
      subst elp
      walk_at "rd"
      refine ⟨_, _, rfl, sm_lf 0 (by simp) (fun t ht => by rw [List.mem_singleton.mp ht]; omega) (imm (R := LfV) (.ex (e4.trans e5)) hwp) hT5, fun H6 e6 => ?_⟩
      have e06 := ((e03.trans e4).trans e5).trans e6
      walk_at "rd"
      by_cases f0 : f = 0
      · rw [decide_eq_true (show V.int ((f : Nat) : Int) = V.int 0 by rw [f0]; rfl)]
        walk_at "rd"
        exact q _ e06
      · rw [decide_eq_false (show ¬ V.int ((f : Nat) : Int) = V.int 0 from fun g => f0 (by have := V.int.inj g; omega))]
        walk_at "rd"
        refine ⟨mk, tb, va, vb, xs, L, R, sz, n, U, x, y, rfl, e06 _ _ hm, hms.up e06, e06 _ _ ht, tl, hU, ha.up e06, hb.up e06, ox, oy, fun c hc => ?_⟩
        have ct : c = true := hc.mpr (hf.resolve_left f0)
        subst ct
        exact q _ e06
end
end K26

namespace K26
open PySem PySem.Spec PyProof.Rows L2 Dk Tl
/-- one step of a reading -/
local macro_rules | `(tactic| walk_at "rd1") => `(tactic| first
  | ((with_reducible refine r_var (v := ?rv) ?rh ?_); (case rh => rfl))
  | with_reducible refine r_c ?_
  | with_reducible refine r_seq ?_
  | with_reducible refine r_asg ?_
  | with_reducible refine r_par ?_
  | with_reducible refine r_gname ?_
  | with_reducible refine r_op ?_
  | with_reducible refine r_forLo ?_
  | with_reducible refine r_forTo ?_
  | with_reducible refine r_forSo ?_
  | with_reducible refine r_forRo ?_
  | with_reducible refine r_forRvo ?_
  | with_reducible refine r_forZo ?_
  | with_reducible refine r_revS ?_
  | with_reducible refine r_lcRo ?_
  | with_reducible refine r_lcLo ?_
  | with_reducible refine r_yes ?_
  | with_reducible refine r_callK0 ?_
  | with_reducible refine r_break ?_
  | with_reducible refine r_forR2o ?_
  | with_reducible refine r_forEo ?_
  | with_reducible refine r_forESo ?_
  | with_reducible refine r_xfo ?_
  | with_reducible refine r_noP ?_
  | with_reducible refine r_part ?_
  | with_reducible refine r_pI ?_
  | with_reducible refine r_gcons ?_
  | with_reducible refine r_gnil ?_
  | with_reducible refine r_mkO ?_
  | with_reducible refine r_un ?_
  | with_reducible refine r_addI ?_
  | with_reducible refine r_I0 ?_
  | with_reducible refine r_U ?_
  | with_reducible refine r_cons ?_
  | with_reducible refine r_nil ?_
  | with_reducible refine r_CB ?_
  | with_reducible refine r_call ?_
  | with_reducible refine r_callS ?_
  | with_reducible refine r_int ?_
  | with_reducible refine r_max ?_
  | with_reducible refine r_min ?_
  | with_reducible refine r_test ?_
  | with_reducible refine r_B ?_
  | with_reducible refine r_blv ?_
  | with_reducible refine r_and ?_
  | with_reducible refine r_or ?_
  | with_reducible refine r_not ?_
  | with_reducible refine r_andV ?_
  | with_reducible refine r_orV ?_
  | with_reducible refine r_notV ?_
  | with_reducible refine r_ifE ?_
  | with_reducible refine r_ifS ?_
  | with_reducible refine r_ret ?_
  | with_reducible refine r_retN ?_
  | with_reducible refine r_drop ?_
  | with_reducible refine r_next ?_
  | with_reducible refine r_sl ?_
  | with_reducible refine r_gsub ?_
  | with_reducible refine r_bm ?_
  | with_reducible refine r_tup ?_
  | with_reducible refine r_lst ?_
  | with_reducible refine r_isN ?_
  | with_reducible refine r_notN ?_
  | with_reducible refine r_itt ?_
  | with_reducible refine r_iff ?_
  | with_reducible refine r_ittN ?_
  | with_reducible refine r_iffN ?_
  | ((with_reducible refine r_ittD ?rh ?_); (case rh => rfl))
  | ((with_reducible refine r_iffD ?rh ?_); (case rh => rfl))
  | ((with_reducible refine r_modP ?rh ?_); (case rh => decide))
  | ((with_reducible refine r_eq ?rh ?_); (case rh => rfl))
  | ((with_reducible refine r_eqP ?rh ?_); (case rh => rfl))
  | ((with_reducible refine r_ne ?rh ?_); (case rh => rfl)))
local macro_rules | `(tactic| walk_at "rd") => `(tactic| repeat walk_at "rd1")
local macro_rules | `(tactic| walk_at "isi") => `(tactic| first | refine r_isi (b := true) (by assumption) (by decide +kernel) ?_ | refine r_isi (b := false) (by assumption) (by decide +kernel) ?_)
local macro_rules | `(tactic| walk_at "rs1") => `(tactic| first
  | with_reducible refine r_seq ?_
  | with_reducible refine r_asg ?_
  | with_reducible refine r_gname ?_
  | with_reducible refine r_ret ?_)
local macro_rules | `(tactic| walk_at "rs") => `(tactic| repeat walk_at "rs1")

section
variable {P : Program} {w : World} {K : PySem.W.Frag} {mg : Str → Option Value} {base : Heap}
/-- what the law asks of births with their marks and table -/
structure Wtb (H : Hp) (b mk tb : Addr) (xs : List V) (L R : Nat → Sg) (sz : Nat → Nat) (n : Nat) (U : List Nat) : Prop where
  wr : Wr H b L R sz n
  hm : H mk = some (.lst xs)
  hms : SgL H xs (marks sz n)
  ht : H tb = some (.lst (tbv U))
  tl : Tells L R sz n U
  ul : U.length ≤ 1000
theorem Wtb.up {H H' : Hp} {b mk tb : Addr} {xs : List V} {L R : Nat → Sg} {sz : Nat → Nat} {n : Nat} {U : List Nat} (e : Ex H H') (h : Wtb H b mk tb xs L R sz n U) : Wtb H' b mk tb xs L R sz n U :=
  ⟨h.wr.up e, e _ _ h.hm, h.hms.up e, e _ _ h.ht, h.tl, h.ul⟩
theorem Wtb.at_ {H : Hp} {b mk tb : Addr} {xs : List V} {L R : Nat → Sg} {sz : Nat → Nat} {n : Nat} {U : List Nat} (h : Wtb H b mk tb xs L R sz n U) {j : Nat} (hj : j < U.length) : ∃ x v, Ok sz n x ∧ ps sz x = j ∧ xs[j]? = some v ∧ SgV H v x := by
  obtain ⟨x, y, ox, oy, ex, ey, _⟩ := h.tl.bit_lt hj hj
  obtain ⟨v, hv, sv⟩ := h.hms.get' (marks_at ox)
  rw [ex] at hv
  exact ⟨x, v, ox, ex, hv, sv⟩
theorem Wtb.len {H : Hp} {b mk tb : Addr} {xs : List V} {L R : Nat → Sg} {sz : Nat → Nat} {n : Nat} {U : List Nat} (h : Wtb H b mk tb xs L R sz n U) : xs.length = U.length := by
  have z := P2.len h.hms
  rw [z, marks_len, h.tl.1]
theorem big_of {L R : Nat → Sg} {sz : Nat → Nat} {n : Nat} (wv : Wv L R sz n) {x : Sg} (ox : Ok sz n x) (h : 2 ≤ ps sz x) : 0 < x.1 := by
  rcases Nat.eq_zero_or_pos x.1 with z | z
  · exfalso
    have h2 := ox.2
    have s0 := wv.s0
    unfold ps at h
    rw [z] at h h2
    rw [s0] at h2
    have : off sz 0 = 0 := rfl
    omega
  · exact z
/-- for c in range(2, n) -/
theorem l_R2n {n : Nat} {g : TG} {tb : TS} {σ : L2.St} {H : Hp} {D : Ends} (h2 : n ≤ 1000000) (Pv : Nat → L2.St → Hp → Prop) (p0 : Pv 2 σ H)
    (ht : ∀ (c : Nat) σ H, 2 ≤ c → c < n → Pv c σ H → g (.int (c : Nat)) σ H fun σ2 H2 => tb { D with nx := Pv (c + 1), ct := Pv (c + 1), bk := D.nx } σ2 H2) (hd : ∀ σ H, Pv (max 2 n) σ H → D.nx σ H) :
    ∃ i j : Int, [V.int 2, V.int (n : Nat)] = [.int i, .int j] ∧ (-(2 ^ 62) ≤ i ∧ i < 2 ^ 62 ∧ -(2 ^ 62) ≤ j ∧ j < 2 ^ 62) ∧ LoopW (Itr i (j - i).toNat) g tb D σ H := by
  refine ⟨2, n, rfl, ⟨by omega, by omega, by omega, by omega⟩, for_range (fun i => Pv (i + 2)) p0 (fun i σ H hi p => ?_) fun σ H p => hd σ H ?_⟩
  · have z := ht (i + 2) σ H (by omega) (by omega) p
    rw [show (2 : Int) + (i : Nat) = ((i + 2 : Nat) : Int) by omega]
    exact z
  · have e : ((n : Int) - 2).toNat + 2 = max 2 n := by omega
    rw [e] at p
    exact p
def spRich : Sp := fun vs H Q _ => ∃ (b mk tb : Addr) (xs : List V) (L R : Nat → Sg) (sz : Nat → Nat) (n : Nat) (U : List Nat), vs = [.ref b, .ref mk, .ref tb] ∧ Wtb H b mk tb xs L R sz n U ∧
  ∀ p H' zs ls, Ex H H' → H p = none → H' p = some (.lst zs) → P2 (SpV H') zs ls → (∀ z ∈ ls, Ok2 sz n z) → ls.length ≤ 3000000 → Q (.ref p) H'
theorem ok_law_rich (T : Txt K mg) : FnOk P w K mg base CX0 1 T.a_law_rich T.d_law_rich ["_law_world_here", "_law_marks", "_law_table"] spRich := by
  refine T.F_law_rich.ok sc_law_rich (fun vs H Q E h => ?_) (fun cdv A outer s H vs Q E hr h => ?_)
  · obtain ⟨b, mk, tb, xs, L, R, sz, n, U, rfl, _⟩ := h
    rfl
  · obtain ⟨b, mk, tb, xs, L, R, sz, n, U, rfl, wt, q⟩ := h
    refine ⟨_, (pss_cons (ps_set (i := 3) sc_law_rich.nd rfl (Or.inl rfl) (pe_lst pa_nil))
        (pss_cons (ps_for PassesOwn.never rfl (pi_range2 (by rfl) T.n_range (pa_cons pe_int (pa_cons (pe_callB call_lenU (by rfl) T.n_len (by decide +kernel) (pa_cons (pv 1) pa_nil)) pa_nil))) (pg_name (i := 4) sc_law_rich.nd rfl (Or.inl rfl)) (pss_one (ps_for PassesOwn.never rfl (pi_range2 (by rfl) T.n_range (pa_cons pe_int (pa_cons (pe_callB call_lenU (by rfl) T.n_len (by decide +kernel) (pa_cons (pv 1) pa_nil)) pa_nil))) (pg_name (i := 5) sc_law_rich.nd rfl (Or.inl rfl)) (pss_one (ps_if (PW.pt (pw_and (pt_cmpR (op_eqU hr.units) (pe_op op_and (pe_op op_shr (pe_ix ix_seq (pv 2) (pv 4) (fun _ _ => rfl)) (pv 5)) pe_int) pe_int (nomark _)) (pw_and1 (pt_cmpR (op_neU hr.units) (pe_ix ix_seq (pe_ix ix_seq (pv 1) (pv 4) (fun _ _ => rfl)) pe_int (fun _ _ => rfl)) (pe_ix ix_seq (pe_ix ix_seq (pv 1) (pv 5) (fun _ _ => rfl)) pe_int (fun _ _ => rfl)) (nomark _))))) (pss_cons (ps_set (i := 6) sc_law_rich.nd rfl (Or.inl rfl) (pe_bm PySem.F.plainAttrs_list PySem.F.slot_list_index PySem.F.type_list_index (mt_indexD hr.units65) (pv 1) (pa_cons (pe_ix ix_seq (pe_ix ix_seq (pv 0) (pe_ix ix_seq (pe_ix ix_seq (pv 1) (pv 5) (fun _ _ => rfl)) pe_int (fun _ _ => rfl)) (fun _ _ => rfl)) pe_int (fun _ _ => rfl)) pa_nil)))
        (pss_cons (ps_set (i := 7) sc_law_rich.nd rfl (Or.inl rfl) (pe_bm PySem.F.plainAttrs_list PySem.F.slot_list_index PySem.F.type_list_index (mt_indexD hr.units65) (pv 1) (pa_cons (pe_ix ix_seq (pe_ix ix_seq (pv 0) (pe_ix ix_seq (pe_ix ix_seq (pv 1) (pv 4) (fun _ _ => rfl)) pe_int (fun _ _ => rfl)) (fun _ _ => rfl)) pe_int (fun _ _ => rfl)) pa_nil)))
        (Evl.pss_cut (ps_if (PW.pt (pw_and (pt_cmpR op_lt (pe_ix ix_seq (pe_ix ix_seq (pv 1) (pv 4) (fun _ _ => rfl)) pe_int (fun _ _ => rfl)) (pe_ix ix_seq (pe_ix ix_seq (pv 1) (pv 5) (fun _ _ => rfl)) pe_int (fun _ _ => rfl)) (nomark _)) (pw_and1 (PW.pt (pw_or (pt_cmpR (op_eqU hr.units) (pe_op op_and (pe_op op_shr (pe_ix ix_seq (pv 2) (pv 7) (fun _ _ => rfl)) (pv 5)) pe_int) pe_int (nomark _)) (pw_or1 (pt_cmpR (op_eqU hr.units) (pv 7) (pv 5) (nomark _)))))))) (pss_one (ps_expr (pe_bm PySem.F.plainAttrs_list PySem.F.slot_list_append PySem.F.type_list_append mt_append (pv 3) (pa_cons (pe_tup (pa_cons (pe_ix ix_seq (pv 1) (pv 4) (fun _ _ => rfl)) (pa_cons (pe_ix ix_seq (pv 1) (pv 5) (fun _ _ => rfl)) pa_nil))) pa_nil)))) pss_nil)
        (pss_one (ps_if (PW.pt (pw_and (pt_cmpR op_lt (pe_ix ix_seq (pe_ix ix_seq (pv 1) (pv 5) (fun _ _ => rfl)) pe_int (fun _ _ => rfl)) (pe_ix ix_seq (pe_ix ix_seq (pv 1) (pv 4) (fun _ _ => rfl)) pe_int (fun _ _ => rfl)) (nomark _)) (pw_and1 (PW.pt (pw_or (pt_cmpR (op_eqU hr.units) (pe_op op_and (pe_op op_shr (pe_ix ix_seq (pv 2) (pv 4) (fun _ _ => rfl)) (pv 6)) pe_int) pe_int (nomark _)) (pw_or1 (pt_cmpR (op_eqU hr.units) (pv 6) (pv 4) (nomark _)))))))) (pss_one (ps_expr (pe_bm PySem.F.plainAttrs_list PySem.F.slot_list_append PySem.F.type_list_append mt_append (pv 3) (pa_cons (pe_tup (pa_cons (pe_ix ix_seq (pv 1) (pv 4) (fun _ _ => rfl)) (pa_cons (pe_ix ix_seq (pv 1) (pv 5) (fun _ _ => rfl)) pa_nil))) pa_nil)))) pss_nil))))) pss_nil)))))
        (pss_one (ps_ret (pv 3))))), ?_⟩
    have wv : Wv L R sz n := by obtain ⟨_, _, br⟩ := wt.wr; exact br.wv
    have xl := wt.len
    have ul := wt.ul
    walk_at "rd"
    refine r_small nsz fun p np => ?_
    walk_at "rd"
    have e0 := Same.new (o := .lst []) (Same.refl H) np
    refine r_lenL (sqL (wt.up e0).hm) ?_
    walk_at "rd"
    refine l_R2n (by omega) (fun i σ H' => ∃ y4 y5 y6 y7 zs ls, σ = [some (.ref b), some (.ref mk), some (.ref tb), some (.ref p), y4, y5, y6, y7] ∧ Ex H H' ∧ H' p = some (.lst zs) ∧ P2 (SpV H') zs ls ∧ (∀ z ∈ ls, Ok2 sz n z) ∧ ls.length ≤ 2000 * i) ⟨none, none, none, none, [], [], rfl, e0, upd_same, .nil, (fun z hz => absurd hz List.not_mem_nil), Nat.zero_le _⟩ (fun i σ H' i2 hi hW => ?_) (fun σ H' hW => ?_)
    · obtain ⟨y4, y5, y6, y7, zs, ls, rfl, e, hp, hZ, hok, hl⟩ := hW
      have wt' := wt.up e
      walk_at "rd"
      refine r_lenL (sqL wt'.hm) ?_
      walk_at "rd"
      refine l_R2n (by omega) (fun j σ H' => ∃ y5 y6 y7 zs ls, σ = [some (.ref b), some (.ref mk), some (.ref tb), some (.ref p), some (.int (i : Nat)), y5, y6, y7] ∧ Ex H H' ∧ H' p = some (.lst zs) ∧ P2 (SpV H') zs ls ∧ (∀ z ∈ ls, Ok2 sz n z) ∧ ls.length ≤ 2000 * i + 2 * j) ⟨y5, y6, y7, zs, ls, rfl, e, hp, hZ, hok, by omega⟩ (fun j σ H' j2 hj hW => ?_) (fun σ H' hW => ?_)
      · obtain ⟨y5, y6, y7, zs, ls, rfl, e, hp, hZ, hok, hl⟩ := hW
        have wt' := wt.up e
        obtain ⟨x, va, ox, ex, hva, sa⟩ := wt'.at_ (j := i) (by omega)
        obtain ⟨y, vb, oy, ey, hvb, sb⟩ := wt'.at_ (j := j) (by omega)
        have zl := hZ.len
        have bx := big_of wv ox (by omega)
        have by_ := big_of wv oy (by omega)
        have okl := wv.okL by_ oy.1
        have okr := wv.okR bx ox.1
        have pl := ps_lt wt.tl okl
        have pr := ps_lt wt.tl okr
        repeat (first | with_reducible refine r_gname ?_ | with_reducible refine r_seq ?_)
        with_reducible refine r_ifS ?_
        refine any_test (S := fun _ H1 => H' = H1) (fun QB kk => ?_) (fun c H1 hS => ?_)
        · walk_at "rd"
          refine r_ixL (sqL wt'.ht) (atI_nat (tb_at (show i < U.length by omega))) ?_
          walk_at "rd"
          refine r_I (by omega) ?_
          walk_at "rd"
          rw [bit_val]
          refine r_iteB (fun _ => ?_) (fun _ => ?_)
          · walk_at "rd"
            refine r_ixL (sqL wt'.hm) (atI_nat hva) ?_
            walk_at "rd"
            refine r_ixS0 sa ?_
            walk_at "rd"
            refine r_ixL (sqL wt'.hm) (atI_nat hvb) ?_
            walk_at "rd"
            refine r_ixS0 sb ?_
            walk_at "rd"
            exact kk _ _ rfl
          · exact kk _ _ rfl
        subst hS
        refine r_iteB (fun _ => ?_) (fun _ => ?_)
        · obtain ⟨ws, hws, br⟩ := wt'.wr
          obtain ⟨bv, hbv⟩ : ∃ bv, ws[y.1]? = some bv := ⟨_, List.getElem?_eq_getElem (by rw [br.len]; exact oy.1)⟩
          obtain ⟨q4, who, lv, rv, tx, rfl, hq4, hL, hR, _⟩ := br.at_ _ _ hbv
          obtain ⟨cv, hcv⟩ : ∃ cv, ws[x.1]? = some cv := ⟨_, List.getElem?_eq_getElem (by rw [br.len]; exact ox.1)⟩
          obtain ⟨q5, who5, lv5, rv5, tx5, rfl, hq5, hL5, hR5, _⟩ := br.at_ _ _ hcv
          walk_at "rd"
          refine r_tyL (sqL wt'.hm) ?_
          walk_at "rd"
          refine r_ixL (sqL wt'.hm) (atI_nat hvb) ?_
          walk_at "rd"
          refine r_ixS0 sb ?_
          walk_at "rd"
          refine r_ixT (sqT hws) (atI_nat hbv) ?_
          walk_at "rd"
          refine r_ixT (sqT hq4) (atI_nat (j := 1) rfl) ?_
          walk_at "rd"
          refine r_indexSg (sqL wt'.hm) wt'.hms hL (mark_first okl).1 (mark_first okl).2 ?_
          walk_at "rd"
          refine r_tyL (sqL wt'.hm) ?_
          walk_at "rd"
          refine r_ixL (sqL wt'.hm) (atI_nat hva) ?_
          walk_at "rd"
          refine r_ixS0 sa ?_
          walk_at "rd"
          refine r_ixT (sqT hws) (atI_nat hcv) ?_
          walk_at "rd"
          refine r_ixT (sqT hq5) (atI_nat (j := 2) rfl) ?_
          walk_at "rd"
          refine r_indexSg (sqL wt'.hm) wt'.hms hR5 (mark_first okr).1 (mark_first okr).2 ?_
          repeat (first | with_reducible refine r_gname ?_ | with_reducible refine r_seq ?_)
          refine ⟨fun σ H9 => ∃ z9 l9, σ = [some (.ref b), some (.ref mk), some (.ref tb), some (.ref p), some (.int (i : Nat)), some (.int (j : Nat)), some (.int (ps sz (L y.1) : Nat)), some (.int (ps sz (R x.1) : Nat))] ∧ Ex H H9 ∧ H9 p = some (.lst z9) ∧ P2 (SpV H9) z9 l9 ∧ (∀ z ∈ l9, Ok2 sz n z) ∧ l9.length ≤ 2000 * i + 2 * j + 1, ?_, ?_⟩
          · repeat (first | with_reducible refine r_gname ?_ | with_reducible refine r_seq ?_)
            with_reducible refine r_ifS ?_
            refine any_test (S := fun _ H1 => H' = H1) (fun QB kk => ?_) (fun c H1 hS => ?_)
            · walk_at "rd"
              refine r_ixL (sqL wt'.hm) (atI_nat hva) ?_
              walk_at "rd"
              refine r_ixS0 sa ?_
              walk_at "rd"
              refine r_ixL (sqL wt'.hm) (atI_nat hvb) ?_
              walk_at "rd"
              refine r_ixS0 sb ?_
              walk_at "rd"
              refine r_iteB (fun _ => ?_) (fun _ => ?_)
              · walk_at "rd"
                refine r_ixL (sqL wt'.ht) (atI_nat (tb_at pr)) ?_
                walk_at "rd"
                refine r_I (by omega) ?_
                walk_at "rd"
                rw [bit_val]
                refine r_iteB (fun _ => ?_) (fun _ => ?_)
                · exact kk _ _ rfl
                · walk_at "rd"
                  exact kk _ _ rfl
              · exact kk _ _ rfl
            subst hS
            refine r_iteB (fun _ => ?_) (fun _ => ?_)
            · walk_at "rd"
              refine r_tyL (sqL hp) ?_
              walk_at "rd"
              refine r_ixL (sqL wt'.hm) (atI_nat hva) ?_
              walk_at "rd"
              refine r_ixL (sqL wt'.hm) (atI_nat hvb) ?_
              walk_at "rd"
              refine r_small nsz fun pt npt => ?_
              obtain ⟨H8, k8, e8, hP8⟩ := nP (R := SgV) (S := SgV) (x := x) (y := y) npt sa sb
              rw [← k8]
              walk_at "rd"
              have hp8 := e8 _ _ hp
              refine r_app hp8 (Nat.lt_of_le_of_lt (show zs.length ≤ 4000000 by omega) (by decide)) ?_
              have tp := Tk.put (o := .lst (zs ++ [.ref pt])) hp8
              have t8 := (Tk.ex e8).trans tp
              have okxy : ∀ z ∈ ls ++ [(x, y)], Ok2 sz n z := fun z hz => by
                rcases List.mem_append.mp hz with hz | hz
                · exact hok z hz
                · rw [List.mem_singleton.mp hz]
                  exact ⟨ox, oy⟩
              refine ⟨ zs ++ [.ref pt], ls ++ [(x, y)], rfl, Same.mut (e.trans e8) np, upd_same, (p2_imm t8 hZ).snoc (imm tp hP8), okxy, by rw [List.length_append, List.length_singleton]; omega⟩
            · walk_at "rd"
              exact ⟨ zs, ls, rfl, e, hp, hZ, hok, by omega⟩
          · rintro σ H9 ⟨z9, l9, rfl, e9, hp9, hZ9, hok9, hl9⟩
            have w9 := wt.up e9
            have sa9 : SgV H9 va x := by
              obtain ⟨x', va', ox', ex', hva', sa'⟩ := w9.at_ (j := i) (by omega)
              have exx : x' = x := ps_inj ox' ox (by rw [ex', ex])
              rw [hva] at hva'
              rw [Option.some.inj hva', ← exx]
              exact sa'
            have sb9 : SgV H9 vb y := by
              obtain ⟨x', va', ox', ex', hva', sa'⟩ := w9.at_ (j := j) (by omega)
              have exx : x' = y := ps_inj ox' oy (by rw [ex', ey])
              rw [hvb] at hva'
              rw [Option.some.inj hva', ← exx]
              exact sa'
            have zl9 := hZ9.len
            repeat (first | with_reducible refine r_gname ?_ | with_reducible refine r_seq ?_)
            with_reducible refine r_ifS ?_
            refine any_test (S := fun _ H1 => H9 = H1) (fun QB kk => ?_) (fun c H1 hS => ?_)
            · walk_at "rd"
              refine r_ixL (sqL w9.hm) (atI_nat hvb) ?_
              walk_at "rd"
              refine r_ixS0 sb9 ?_
              walk_at "rd"
              refine r_ixL (sqL w9.hm) (atI_nat hva) ?_
              walk_at "rd"
              refine r_ixS0 sa9 ?_
              walk_at "rd"
              refine r_iteB (fun _ => ?_) (fun _ => ?_)
              · walk_at "rd"
                refine r_ixL (sqL w9.ht) (atI_nat (tb_at (show i < U.length by omega))) ?_
                walk_at "rd"
                refine r_I (by omega) ?_
                walk_at "rd"
                rw [bit_val]
                refine r_iteB (fun _ => ?_) (fun _ => ?_)
                · exact kk _ _ rfl
                · walk_at "rd"
                  exact kk _ _ rfl
              · exact kk _ _ rfl
            subst hS
            refine r_iteB (fun _ => ?_) (fun _ => ?_)
            · walk_at "rd"
              refine r_tyL (sqL hp9) ?_
              walk_at "rd"
              refine r_ixL (sqL w9.hm) (atI_nat hva) ?_
              walk_at "rd"
              refine r_ixL (sqL w9.hm) (atI_nat hvb) ?_
              walk_at "rd"
              refine r_small nsz fun pt npt => ?_
              obtain ⟨H8, k8, e8, hP8⟩ := nP (R := SgV) (S := SgV) (x := x) (y := y) npt sa9 sb9
              rw [← k8]
              walk_at "rd"
              have hp8 := e8 _ _ hp9
              refine r_app hp8 (Nat.lt_of_le_of_lt (show z9.length ≤ 4000000 by omega) (by decide)) ?_
              have tp := Tk.put (o := .lst (z9 ++ [.ref pt])) hp8
              have t8 := (Tk.ex e8).trans tp
              have okxy : ∀ z ∈ l9 ++ [(x, y)], Ok2 sz n z := fun z hz => by
                rcases List.mem_append.mp hz with hz | hz
                · exact hok9 z hz
                · rw [List.mem_singleton.mp hz]
                  exact ⟨ox, oy⟩
              refine ⟨_, _, _, z9 ++ [.ref pt], l9 ++ [(x, y)], rfl, Same.mut (e9.trans e8) np, upd_same, (p2_imm t8 hZ9).snoc (imm tp hP8), okxy, by rw [List.length_append, List.length_singleton]; omega⟩
            · walk_at "rd"
              exact ⟨_, _, _, z9, l9, rfl, e9, hp9, hZ9, hok9, by omega⟩
        · walk_at "rd"
          exact ⟨_, _, _, zs, ls, rfl, e, hp, hZ, hok, by omega⟩
      · obtain ⟨y5, y6, y7, zs, ls, rfl, e, hp, hZ, hok, hl⟩ := hW
        exact ⟨_, _, _, _, zs, ls, rfl, e, hp, hZ, hok, by omega⟩
    · obtain ⟨y4, y5, y6, y7, zs, ls, rfl, e, hp, hZ, hok, hl⟩ := hW
      walk_at "rd"
      exact q p H' zs ls e np hp hZ hok (by omega)
end
end K26

/-! tuple[::-1] -/
namespace Dk
open PySem PySem.Spec PyProof.Rows L2 PySem.SeqAt PySem.W HT
section
variable {prog : Program} {w : World} {A : Around} {E : Value → Shared → Prop} {s : Shared}
theorem places_rev (n : Nat) : Builtin.Slice.slicePlaces ((n : Int) - 1) (-1) (-1) = n := by
  unfold Builtin.Slice.slicePlaces
  rw [if_neg (by decide)]
  by_cases h : (n : Int) - 1 > -1
  · rw [if_pos h]
    have : ((n : Int) - 1 - -1 - 1) / - -1 + 1 = (n : Int) := by
      rw [Int.neg_neg, Int.ediv_one]
      omega
    rw [this]
    rfl
  · rw [if_neg h]
    have : n = 0 := by omega
    rw [this]
    rfl
theorem sliceApplied_rev {sl : Addr} {vk : Value} {n : Nat} {Q : Int × Int × Nat → Shared → Prop} (hs : s.heap.IsSliceOf sl .none .none vk) (pk : IsPart vk (some (-1)))
    (h : Q ((n : Int) - 1, -1, n) s) : wpAny (model prog w) A (Builtin.Slice.sliceApplied (.ref sl) (pure (n : Int))) Q E s := by
  obtain ⟨os, hos, hcs, hds⟩ := id hs
  unfold Builtin.Slice.sliceApplied Builtin.Slice.sliceFields
  refine wpAny_bind (wpAny_bind (wpAny_field hos hds (x := .none) rfl (wpAny_bind (wpAny_field hos hds (x := .none) rfl (wpAny_bind (wpAny_field hos hds (x := vk) rfl (wpAny_pure ?_)))))))
  refine wpAny_bind (slicePart_ pk ?_)
  show wpAny _ _ (if ((-1 : Int) == 0) = true then _ else _) _ _ s
  rw [if_neg (by decide)]
  refine wpAny_bind (slicePart_ .none (wpAny_bind (slicePart_ .none (wpAny_bind (wpAny_pure ?_)))))
  show wpAny _ _ (pure ((n : Int) - 1, (-1 : Int), Builtin.Slice.slicePlaces ((n : Int) - 1) (-1) (-1))) _ _ s
  rw [places_rev]
  exact wpAny_pure h
theorem pick_rev (xs : Array Value) : ((List.range xs.size).filterMap fun (m : Nat) => xs[(((xs.size : Nat) : Int) - 1 + (m : Int) * -1).toNat]?).toArray = xs.toList.reverse.toArray := by
  have e : (fun (m : Nat) => xs[(((xs.size : Nat) : Int) - 1 + (m : Int) * -1).toNat]?) = fun m => xs[xs.size - 1 - m]? := by
    funext m
    have : (((xs.size : Nat) : Int) - 1 + (m : Int) * -1).toNat = xs.size - 1 - m := by omega
    rw [this]
  rw [e]
  congr 1
  have h1 : ((List.range xs.size).map (fun k => xs.size - 1 - k)).filterMap (xs[·]?) = xs.toList.reverse := by
    rw [krv_range, List.filterMap_reverse]
    congr 1
    exact krv_all xs
  rw [List.filterMap_map] at h1
  exact h1
theorem getItem_tuple_rev {t sl : Addr} {items : Array Value} {vk : Value} {Q : Value → Shared → Prop} (ht : IsTup s.heap t items) (hs : s.heap.IsSliceOf sl .none .none vk) (pk : IsPart vk (some (-1)))
    (h : Q (.ref s.heap.objs.size) { s with heap := s.heap.push { cls := .type "tuple", data := .seq items.toList.reverse.toArray } })
    (hsz : items.size ≤ sizeLine) : wpAny (model prog w) A (getItem (.ref t) (.ref sl)) Q E s := by
  have htake : sizeOk (.seq items.toList.reverse.toArray) := by
    show items.toList.reverse.toArray.size ≤ sizeLine
    rw [List.size_toArray, List.length_reverse, Array.length_toList]
    exact hsz
  obtain ⟨os, hos, hcs, hds⟩ := id hs
  have hTs : s.TypeIs (.ref sl) "slice" := ⟨os, hos, hcs⟩
  unfold getItem
  try with_reducible refine wpAny_holding ?_
  first | refine wpAny_bind (wpAny_pure ?_) | skip
  refine wpAny_bind (wpAny_sequenceKey ht.typeIs (by decide) ?_)
  refine wpAny_bind (wpAny_callSpecial?_slot (name := Str.ofString "__getitem__") ht.typeIs PyProof.Rows.slot_tuple_getitem
    (wpAny_call_entry PyProof.Rows.slot_tuple_getitem ht.typeIs entry_tuple_getitem ?_ (args_tuple_getitem _ _)))
  show wpAny _ _ (Builtin.Tuple.tupleItemsOf (.ref t) >>= _) _ _ s
  refine wpAny_bind (tupleItemsOf_ ht ?_)
  refine wpAny_bind (wpAny_typeOf hTs ?_)
  rw [if_pos (by decide)]
  refine wpAny_bind (sliceApplied_rev hs pk ?_)
  have hno : ¬ ((((items.size : Nat) : Int) - 1 == 0 && (-1 : Int) == 1 && items.size == items.size) = true) := by
    intro q
    rw [Bool.and_eq_true, Bool.and_eq_true] at q
    exact absurd q.1.2 (by decide)
  show wpAny _ _ (if (((items.size : Nat) : Int) - 1 == 0 && (-1 : Int) == 1 && items.size == items.size) = true then _ else _) _ _ s
  rw [if_neg hno, pick_rev]
  first
    | exact wpAny_bind (m := Builtin.Tuple.tupleExact _) (wpAny_newObj_type (wpAny_pure ⟨_, rfl, wpAny_pure h⟩) htake)
    | exact wpAny_bind (m := Builtin.Tuple.tupleExact _) (wpAny_newObj_type (wpAny_bind (wpAny_pure (wpAny_pure ⟨_, rfl, wpAny_pure h⟩))) htake)
    | exact wpAny_bind (wpAny_bind (m := Builtin.Tuple.tupleExact _) (wpAny_newObj_type (wpAny_pure (wpAny_pure ⟨_, rfl, wpAny_pure h⟩)) htake))
    | exact wpAny_bind (wpAny_bind (m := Builtin.Tuple.tupleExact _) (wpAny_newObj_type (wpAny_pure ⟨_, rfl, wpAny_pure h⟩) htake))
end
def tRevT (K : PySem.W.Frag) (te : TE) : TE := fun σ H Q => te σ H fun x H1 => ∃ a xs, x = .ref a ∧ SqT K H1 a xs ∧ ∀ p, H1 p = none → Q (.ref p) (upd H1 p (.tup xs.reverse))
theorem vals_rev : ∀ {xs : List V} {us : List Value}, Vals xs us → Vals xs.reverse us.reverse
  | _, _, .nil => .nil
  | _, _, .cons h t => by
    rw [List.reverse_cons, List.reverse_cons]
    exact (vals_rev t).append (.cons h .nil)
theorem pe_revT {X : Cx} {e st : Expr} {te ts : TE} {pos p2 : Pos} (he : PE X e te) (hst : PE X st ts) (hv : ∀ σ H (Q : VK), Q (.int (-1)) H → ts σ H Q) : PE X (.Subscript e (.Slice none none (some st) p2) pos) (tRevT X.K te) := by
  refine ⟨fun pins s σ H Q I h => ?_⟩
  refine Subscript_ (thn (he.run pins s σ H _ I h) fun v s1 ⟨x, H1, I1, r1, q1⟩ => ?_)
  obtain ⟨a, xs, rfl, hx, q⟩ := q1
  cases r1
  refine wpAny_Slice ?_
  rw [evalPart_none]
  refine wpAny_pure ?_
  refine wpAny_pure ?_
  rw [evalPart_some]
  refine thn (hst.run pins s1 σ H1 _ I1 (hv σ H1 (fun y H2 => y = .int (-1) ∧ H2 = H1) ⟨rfl, rfl⟩)) fun u s2 ⟨y, H2, I2, ry, qy, eH⟩ => ?_
  subst qy eH
  obtain ⟨tk, rfl⟩ := ry
  have I3 : Inv X pins σ H2 { s2 with heap := s2.heap.push { cls := .type "slice", data := .fields #[.none, .none, .int (-1) tk] } } := I2.kept (t' := s2.toks) fun b ob q => Heap.get?_push_of_some _ q
  obtain ⟨its, r, ht, hz⟩ := I3.tuple hx
  have hlen : its.toArray.size = xs.length := by rw [List.size_toArray]; exact r.length.symm
  show wpAny (model X.prog X.w) X.A (subscriptTail e (.Slice none none (some st) p2) (.ref a) (.ref s2.heap.objs.size)) (EP X pins σ Q) X.xe { s2 with heap := s2.heap.push { cls := .type "slice", data := .fields #[.none, .none, .int (-1) tk] } }
  refine tail_any (ops := [.ref a, .ref s2.heap.objs.size]) ht.typeIs PyProof.Rows.slot_tuple_getitem.lookup ?_ (by with_unfolding_all rfl)
  refine getItem_tuple_rev (s := { s2 with heap := s2.heap.push { cls := .type "slice", data := .fields #[.none, .none, .int (-1) tk] } }) ht ⟨_, Heap.get?_push_size _ rfl, rfl, rfl⟩ (.int (-1) tk) ?_ (by rw [hlen]; exact hz)
  refine ⟨.ref _, _, I3.laid (t' := s2.toks) (o := .tup xs.reverse) (fun b ob q => Heap.get?_push_of_some _ q) (Nat.le_refl _) ?_, rfl, q _ (I3.hok.fresh (Nat.le_refl _))⟩
  exact ⟨by rw [List.length_reverse]; exact hz, _, vals_rev r, IsTup.new _ _⟩
theorem r_revT {K : PySem.W.Frag} {te : TE} {σ : L2.St} {H : Hp} {Q : VK} (h : te σ H fun x H1 => ∃ a xs, x = .ref a ∧ SqT K H1 a xs ∧ ∀ p, H1 p = none → Q (.ref p) (upd H1 p (.tup xs.reverse))) : tRevT K te σ H Q := h
end Dk

namespace K26
open PySem PySem.Spec PyProof.Rows L2 Dk Tl
/-- one step of a reading -/
local macro_rules | `(tactic| walk_at "rd1") => `(tactic| first
  | ((with_reducible refine r_var (v := ?rv) ?rh ?_); (case rh => rfl))
  | with_reducible refine r_c ?_
  | with_reducible refine r_seq ?_
  | with_reducible refine r_asg ?_
  | with_reducible refine r_par ?_
  | with_reducible refine r_gname ?_
  | with_reducible refine r_op ?_
  | with_reducible refine r_forLo ?_
  | with_reducible refine r_forTo ?_
  | with_reducible refine r_forSo ?_
  | with_reducible refine r_forRo ?_
  | with_reducible refine r_forRvo ?_
  | with_reducible refine r_forZo ?_
  | with_reducible refine r_revS ?_
  | with_reducible refine r_lcRo ?_
  | with_reducible refine r_lcLo ?_
  | with_reducible refine r_yes ?_
  | with_reducible refine r_callK0 ?_
  | with_reducible refine r_break ?_
  | with_reducible refine r_forR2o ?_
  | with_reducible refine r_forEo ?_
  | with_reducible refine r_forESo ?_
  | with_reducible refine r_xfo ?_
  | with_reducible refine r_noP ?_
  | with_reducible refine r_part ?_
  | with_reducible refine r_pI ?_
  | with_reducible refine r_gcons ?_
  | with_reducible refine r_gnil ?_
  | with_reducible refine r_mkO ?_
  | with_reducible refine r_un ?_
  | with_reducible refine r_addI ?_
  | with_reducible refine r_I0 ?_
  | with_reducible refine r_U ?_
  | with_reducible refine r_cons ?_
  | with_reducible refine r_nil ?_
  | with_reducible refine r_CB ?_
  | with_reducible refine r_call ?_
  | with_reducible refine r_callS ?_
  | with_reducible refine r_int ?_
  | with_reducible refine r_max ?_
  | with_reducible refine r_min ?_
  | with_reducible refine r_test ?_
  | with_reducible refine r_B ?_
  | with_reducible refine r_blv ?_
  | with_reducible refine r_and ?_
  | with_reducible refine r_or ?_
  | with_reducible refine r_not ?_
  | with_reducible refine r_andV ?_
  | with_reducible refine r_orV ?_
  | with_reducible refine r_notV ?_
  | with_reducible refine r_ifE ?_
  | with_reducible refine r_ifS ?_
  | with_reducible refine r_ret ?_
  | with_reducible refine r_retN ?_
  | with_reducible refine r_drop ?_
  | with_reducible refine r_next ?_
  | with_reducible refine r_sl ?_
  | with_reducible refine r_gsub ?_
  | with_reducible refine r_bm ?_
  | with_reducible refine r_tup ?_
  | with_reducible refine r_lst ?_
  | with_reducible refine r_isN ?_
  | with_reducible refine r_notN ?_
  | with_reducible refine r_itt ?_
  | with_reducible refine r_iff ?_
  | with_reducible refine r_ittN ?_
  | with_reducible refine r_iffN ?_
  | ((with_reducible refine r_ittD ?rh ?_); (case rh => rfl))
  | ((with_reducible refine r_iffD ?rh ?_); (case rh => rfl))
  | ((with_reducible refine r_modP ?rh ?_); (case rh => decide))
  | ((with_reducible refine r_eq ?rh ?_); (case rh => rfl))
  | ((with_reducible refine r_eqP ?rh ?_); (case rh => rfl))
  | ((with_reducible refine r_ne ?rh ?_); (case rh => rfl)))
local macro_rules | `(tactic| walk_at "rd") => `(tactic| repeat walk_at "rd1")
local macro_rules | `(tactic| walk_at "isi") => `(tactic| first | refine r_isi (b := true) (by assumption) (by decide +kernel) ?_ | refine r_isi (b := false) (by assumption) (by decide +kernel) ?_)
local macro_rules | `(tactic| walk_at "rs1") => `(tactic| first
  | with_reducible refine r_seq ?_
  | with_reducible refine r_asg ?_
  | with_reducible refine r_gname ?_
  | with_reducible refine r_ret ?_)
local macro_rules | `(tactic| walk_at "rs") => `(tactic| repeat walk_at "rs1")

theorem dr2_tk {b h : Addr} {H H' : Hp} (s : Bx H b h) (d : Dr2 b h H H') : Tk H H' := fun p xs e => by
  obtain ⟨_, z, ns, h1, _, _, h2, _⟩ := s
  exact d.hh p _ (fun q => by rw [q, h1] at e; cases e) (fun q => by rw [q, h2] at e; cases e) e
theorem BtV.tk {H H' : Hp} {v : V} {L R : Sg} {big : Bool} {sz : Nat} (t : Tk H H') (h : BtV H v L R big sz) : BtV H' v L R big sz := by
  obtain ⟨q, who, l, r, tx, h1, h2, h3, h4, h5, h6⟩ := h
  exact ⟨q, who, l, r, tx, h1, t _ _ h2, imm t h3, imm t h4, h5, h6⟩
theorem Wr.tk {H H' : Hp} {b : Addr} {L R : Nat → Sg} {sz : Nat → Nat} {n : Nat} (t : Tk H H') (h : Wr H b L R sz n) : Wr H' b L R sz n := by
  obtain ⟨xs, h1, br⟩ := h
  exact ⟨xs, t _ _ h1, ⟨br.len, fun c x hx => BtV.tk t (br.at_ c x hx), br.wv, br.small⟩⟩
/-- the box is none of these -/
structure Nt (b h mk tb : Addr) : Prop where
  m1 : mk ≠ b
  m2 : mk ≠ h
  t1 : tb ≠ b
  t2 : tb ≠ h
theorem Wtb.dr {H H' : Hp} {bx h b mk tb : Addr} {xs : List V} {L R : Nat → Sg} {sz : Nat → Nat} {n : Nat} {U : List Nat} (s : Bx H bx h) (d : Dr2 bx h H H') (nt : Nt bx h mk tb) (w : Wtb H b mk tb xs L R sz n U) : Wtb H' b mk tb xs L R sz n U :=
  have t := dr2_tk s d
  ⟨Wr.tk t w.wr, d.hh _ _ nt.m1 nt.m2 w.hm, p2_imm t w.hms, d.hh _ _ nt.t1 nt.t2 w.ht, w.tl, w.ul⟩
section
variable {P : Program} {w : World} {K : PySem.W.Frag} {mg : Str → Option Value} {base : Heap}
def spWalk : Sp := fun vs H Q _ => ∃ (bx h b mk tb : Addr) (va vb : V) (xs : List V) (L R : Nat → Sg) (sz : Nat → Nat) (n : Nat) (U : List Nat) (x y : Sg), vs = [.ref bx, .ref b, .ref mk, .ref tb, va, vb] ∧ Bx H bx h ∧ Wtb H b mk tb xs L R sz n U ∧ Nt bx h mk tb ∧ SgV H va x ∧ SgV H vb y ∧ Ok sz n x ∧ Ok sz n y ∧
  ∀ p H' l, Dr2 bx h H H' → TupV SpV H' (.ref p) l → Gd L R (x, y) l → l.length ≤ 41 → Q (.ref p) H'
theorem ok_law_walk (T : Txt K mg) : FnOk P w K mg base CX0 2 T.a_law_walk T.d_law_walk ["_law_box", "_law_world_here", "_law_marks", "_law_table", "_law_a", "_law_b"] spWalk := by
  refine T.F_law_walk.ok sc_law_walk (fun vs H Q E h => ?_) (fun cdv A outer s H vs Q E hr h => ?_)
  · obtain ⟨bx, h, b, mk, tb, va, vb, xs, L, R, sz, n, U, x, y, rfl, _⟩ := h
    rfl
  · obtain ⟨bx, hp, b, mk, tb, va, vb, xs, L, R, sz, n, U, x, y, rfl, bs, wt, nt, ha, hb, ox, oy, q⟩ := h
    refine ⟨_, (pss_cons (ps_set (i := 6) sc_law_walk.nd rfl (Or.inl rfl) (pe_lst (pa_cons (pe_tup (pa_cons (pv 4) (pa_cons (pv 5) pa_nil))) pa_nil)))
        (pss_cons (ps_for PassesOwn.never rfl (pi_range1 (by rfl) T.n_range (pa_cons pe_int pa_nil)) (pg_name (i := 7) sc_law_walk.nd rfl (Or.inl rfl)) (Evl.pss_cut (ps_if (PW.pt (pw_and (pt_val (pe_call (ok_law_ends T) hr (by rfl) T.g_law_ends T.F_law_ends.kp T.b_law_ends .nil pass0 (pa_cons (pe_ix ix_seq (pv 6) (pe_un un_neg pe_int) (fun _ _ => rfl)) (pa_cons (pe_callB call_lenU (by rfl) T.n_len (by decide +kernel) (pa_cons (pv 6) pa_nil)) pa_nil)))) (pw_and1 (pt_cmpR op_gt (pe_call (ok_law_pick T) hr (by rfl) T.g_law_pick T.F_law_pick.kp T.b_law_pick .nil pass0 (pa_cons (pv 0) (pa_cons pe_int pa_nil))) pe_int (nomark _))))) (pss_one ps_break) pss_nil)
        (pss_cons (ps_set (i := 8) sc_law_walk.nd rfl (Or.inl rfl) (pe_lst pa_nil))
        (pss_cons (ps_for PassesOwn.never rfl (pi_list (pe_call (ok_law_next T) hr (by rfl) T.g_law_next T.F_law_next.kp T.b_law_next .nil pass0 (pa_cons (pv 1) (pa_cons (pe_ix ix_seq (pv 6) (pe_un un_neg pe_int) (fun _ _ => rfl)) pa_nil)))) (pg_tup rfl (pgs_cons (pg_name (i := 9) sc_law_walk.nd rfl (Or.inl rfl)) (pgs_cons (pg_name (i := 10) sc_law_walk.nd rfl (Or.inl rfl)) pgs_nil))) (pss_one (ps_if (PW.pt (pw_or (pt_cmpR (op_eqU hr.units) (pv 9) (pv 10) (nomark _)) (pw_or1 (pt_val (pe_call (ok_law_told T) hr (by rfl) T.g_law_told T.F_law_told.kp T.b_law_told .nil pass0 (pa_cons (pv 2) (pa_cons (pv 3) (pa_cons (pv 9) (pa_cons (pv 10) pa_nil))))))))) (pss_one (ps_expr (pe_bm PySem.F.plainAttrs_list PySem.F.slot_list_append PySem.F.type_list_append mt_append (pv 8) (pa_cons (pe_tup (pa_cons (pv 9) (pa_cons (pv 10) pa_nil))) pa_nil)))) pss_nil)))
        (pss_cons (ps_if (pt_cmpR (op_eqU hr.units) (pe_callB call_lenU (by rfl) T.n_len (by decide +kernel) (pa_cons (pv 8) pa_nil)) pe_int (nomark _)) (pss_one ps_break) pss_nil)
        (pss_one (ps_expr (pe_bm PySem.F.plainAttrs_list PySem.F.slot_list_append PySem.F.type_list_append mt_append (pv 6) (pa_cons (pe_ix ix_seq (pv 8) (pe_call (ok_law_pick T) hr (by rfl) T.g_law_pick T.F_law_pick.kp T.b_law_pick .nil pass0 (pa_cons (pv 0) (pa_cons (pe_callB call_lenU (by rfl) T.n_len (by decide +kernel) (pa_cons (pv 8) pa_nil)) pa_nil))) (fun _ _ => rfl)) pa_nil)))))))))
        (pss_one (ps_ret (pe_callTy call_tupU (by rfl) T.n_tuple (by decide +kernel) (pa_cons (pv 6) pa_nil)))))), ?_⟩
    have wv : Wv L R sz n := by obtain ⟨_, _, br⟩ := wt.wr; exact br.wv
    walk_at "rd"
    refine r_small nsz fun p1 n1 => ?_
    obtain ⟨H1, k1, e1, hP1⟩ := nP (R := SgV) (S := SgV) (x := x) (y := y) n1 ha hb
    rw [← k1]
    walk_at "rd"
    refine r_small nsz fun pr nr => ?_
    obtain ⟨H2, k2, e2, h2⟩ := nL (.lst [.ref p1]) nr
    rw [← k2]
    have e12 := e1.trans e2
    have nr0 : H pr = none := e1.free nr
    have prb := bs.nb nr0
    have prh := bs.nh nr0
    walk_at "rd"
    refine l_R (by decide) (by decide) (fun i σ H' => ∃ y7 y8 y9 y10 zs l, σ = [some (.ref bx), some (.ref b), some (.ref mk), some (.ref tb), some va, some vb, some (.ref pr), y7, y8, y9, y10] ∧ Dr2 bx hp H H' ∧ H' pr = some (.lst zs) ∧ P2 (SpV H') zs l ∧ Gd L R (x, y) l ∧ l.length ≤ i + 1)
      ⟨none, none, none, none, [.ref p1], [(x, y)], rfl, .ex bs e12, h2, .cons (imm (.ex e2) hP1) .nil, ⟨rfl, fun k a c _ hc => by simp at hc⟩, Nat.le_refl _⟩ (fun i σ H' hi hW => ?_) (fun σ H' hW => ?_)
    · obtain ⟨y7, y8, y9, y10, zs, l, rfl, D, hpr, hZ, gd, ll⟩ := hW
      have bs' := D.st
      have wt' := wt.dr bs D nt
      have zl := hZ.len
      obtain ⟨z, hz⟩ : ∃ z, l[l.length - 1]? = some z := ⟨_, List.getElem?_eq_getElem (show l.length - 1 < l.length by have := gd.ne; omega)⟩
      have okz := gd.oks wv ⟨ox, oy⟩ _ z hz
      have lastz : ∃ l0, l = l0 ++ [z] := by
        rcases List.eq_nil_or_concat l with e | ⟨l0, z', e⟩
        · rw [e] at hz
          cases hz
        · rw [List.concat_eq_append] at e
          refine ⟨l0, ?_⟩
          rw [e, List.length_append, List.length_singleton, Nat.add_sub_cancel, List.getElem?_append_right (Nat.le_refl _), Nat.sub_self] at hz
          rw [e, Option.some.inj (show some z' = some z from hz)]
      obtain ⟨l0, el0⟩ := lastz
      walk_at "rd"
      refine ⟨fun σ H' => σ = [some (.ref bx), some (.ref b), some (.ref mk), some (.ref tb), some va, some vb, some (.ref pr), some (.int (i : Nat)), y8, y9, y10] ∧ Dr2 bx hp H H' ∧ H' pr = some (.lst zs) ∧ P2 (SpV H') zs l, ?_, ?_⟩
      · with_reducible refine r_ifS ?_
        refine any_test (S := fun _ H1 => Dr2 bx hp H H1 ∧ H1 pr = some (.lst zs) ∧ P2 (SpV H1) zs l) (fun QB kk => ?_) (fun c H3 hS => ?_)
        · walk_at "rd"
          refine r_ixLm hpr (el0 ▸ hZ) fun wz hwz => ?_
          walk_at "rd"
          refine r_lenL (sqL hpr) ?_
          walk_at "rd"
          refine ⟨wz, zs.length, z, rfl, hwz, fun c hc => ?_⟩
          walk_at "rd"
          cases c with
          | false =>
            walk_at "rd"
            exact kk _ _ ⟨D, hpr, hZ⟩
          | true =>
            walk_at "rd"
            refine ⟨bx, hp, 4, rfl, bs', by decide, by decide, fun d H3 d0 d1 D3 => ?_⟩
            walk_at "rd"
            exact kk _ _ ⟨D.trans D3, D3.hh _ _ prb prh hpr, p2_imm (dr2_tk bs' D3) hZ⟩
        obtain ⟨D3, hpr3, hZ3⟩ := hS
        refine r_iteB (fun _ => ?_) (fun _ => ?_)
        · walk_at "rd"
          exact r_tupLV hpr3 hZ3 fun p H4 np e4 hT => q p H4 l (D3.then e4) hT gd (by omega)
        · walk_at "rd"
          exact ⟨rfl, D3, hpr3, hZ3⟩
      · rintro σ H3 ⟨rfl, D3, hpr3, hZ3⟩
        have bs3 := D3.st
        have wt3 := wt.dr bs D3 nt
        walk_at "rd"
        refine r_small nsz fun pg ng => ?_
        obtain ⟨H4, k4, e4, h4⟩ := nL (.lst []) ng
        rw [← k4]
        have prg : pr ≠ pg := fun z => by rw [← z, hpr3] at ng; cases ng
        have hpr4 := e4 _ _ hpr3
        have hZ4 := p2_imm (.ex e4) hZ3
        walk_at "rd"
        refine r_ixLm hpr4 (el0 ▸ hZ4) fun wz hwz => ?_
        walk_at "rd"
        refine ⟨b, wz, L, R, sz, n, z, rfl, wt3.wr.up e4, hwz, okz, fun m H5 xs2 e5 nm hm hN => ?_⟩
        have mg : m ≠ pg := fun z => by rw [z, h4] at nm; cases nm
        have nl : xs2.length ≤ 2 := by
          rw [hN.len]
          unfold nxt
          rw [List.length_append]
          split <;> split <;> simp
        walk_at "rd"
        refine l_L (sqL hm) (fun j σ H' => ∃ y9 y10 gs gl, σ = [some (.ref bx), some (.ref b), some (.ref mk), some (.ref tb), some va, some vb, some (.ref pr), some (.int (i : Nat)), some (.ref pg), y9, y10] ∧ Ex H3 H' ∧ Tk H5 H' ∧ H' m = some (.lst xs2) ∧ H' pg = some (.lst gs) ∧ P2 (SpV H') gs gl ∧ (∀ c ∈ gl, c ∈ nxt L R z) ∧ gl.length ≤ j) ⟨y9, y10, [], [], rfl, e4.trans e5, .ex (Same.refl H5), hm, e5 _ _ h4, .nil, (fun c hc => absurd hc List.not_mem_nil), Nat.zero_le _⟩ (fun j σ H' hW => ?_) (fun j v σ H' hv hW => ?_) (fun σ H' hW => ?_)
        · obtain ⟨_, _, _, _, _, _, _, hm', _⟩ := hW
          exact sqL hm'
        · obtain ⟨y9, y10, gs, gl, rfl, e', t', hm', hg', hG', hin, gln⟩ := hW
          obtain ⟨c, hc, sc⟩ := hN.get hv
          have jl := (List.getElem?_eq_some_iff.mp hv).1
          have gsl := hG'.len
          have okc := ok_nxt wv okz (List.mem_of_getElem? hc)
          have wt' := wt3.up e'
          refine r_gP (imm t' sc) fun x1 x2 s1 s2 => ?_
          repeat (first | with_reducible refine r_gcons ?_ | with_reducible refine r_gname ?_ | with_reducible refine r_gnil ?_ | with_reducible refine r_seq ?_)
          with_reducible refine r_ifS ?_
          refine any_test (S := fun _ H1 => H' = H1) (fun QB kk => ?_) (fun c2 H6 hS => ?_)
          · walk_at "rd"
            refine r_eqSg s1 s2 ?_
            walk_at "rd"
            refine r_iteB (fun _ => ?_) (fun _ => ?_)
            · exact kk _ _ rfl
            · walk_at "rd"
              exact ⟨mk, tb, x1, x2, xs, L, R, sz, n, U, c.1, c.2, rfl, wt'.hm, wt'.hms, wt'.ht, wt'.tl, wt'.ul, s1, s2, okc.1, okc.2, fun c3 _ => ⟨_, rfl, kk _ _ rfl⟩⟩
          subst hS
          refine r_iteB (fun _ => ?_) (fun _ => ?_)
          · walk_at "rd"
            refine r_tyL (sqL hg') ?_
            walk_at "rd"
            refine r_small nsz fun p7 n7 => ?_
            obtain ⟨H7, k7, e7, hP7⟩ := nP (R := SgV) (S := SgV) (x := c.1) (y := c.2) n7 s1 s2
            rw [← k7]
            walk_at "rd"
            have hg7 := e7 _ _ hg'
            refine r_app hg7 (Nat.lt_of_le_of_lt (show gs.length ≤ 1000 by omega) (by decide)) ?_
            have tp := Tk.put (o := .lst (gs ++ [.ref p7])) hg7
            have t7 := (Tk.ex e7).trans tp
            refine ⟨_, _, gs ++ [.ref p7], gl ++ [c], rfl, Same.mut (e'.trans e7) ng, t'.trans t7, by rw [upd_ne mg]; exact e7 _ _ hm', upd_same, (p2_imm t7 hG').snoc (imm tp hP7), fun c' hc' => ?_, by rw [List.length_append, List.length_singleton]; omega⟩
            rcases List.mem_append.mp hc' with hc' | hc'
            · exact hin c' hc'
            · rw [List.mem_singleton.mp hc']
              exact List.mem_of_getElem? hc
          · walk_at "rd"
            exact ⟨_, _, gs, gl, rfl, e', t', hm', hg', hG', hin, by omega⟩
        · obtain ⟨y9, y10, gs, gl, rfl, e', t', hm', hg', hG', hin, gln⟩ := hW
          have gsl := hG'.len
          have D' := D3.then e'
          have hpr' := e' _ _ hpr3
          have hZ' := p2_imm (.ex e') hZ3
          walk_at "rd"
          refine r_lenL (sqL hg') ?_
          walk_at "rd"
          refine r_ite (fun _ => ?_) (fun hne => ?_)
          · walk_at "rd"
            exact r_tupLV hpr' hZ' fun p H4 np e4 hT => q p H4 l (D'.then e4) hT gd (by omega)
          · have g0 : 0 < gs.length := Nat.pos_of_ne_zero fun z => hne (by rw [z]; rfl)
            walk_at "rd"
            refine r_tyL (sqL hpr') ?_
            walk_at "rd"
            refine r_lenL (sqL hg') ?_
            walk_at "rd"
            refine ⟨bx, hp, (gs.length : Nat), rfl, D'.st, by omega, by omega, fun d H6 d0 d1 D6 => ?_⟩
            have hg6 := D6.hh _ _ (D3.st.nb ng) (D3.st.nh ng) hg'
            have hpr6 := D6.hh _ _ prb prh hpr'
            have t6 := dr2_tk D'.st D6
            obtain ⟨d, rfl⟩ : ∃ y : Nat, d = (y : Nat) := ⟨d.toNat, by omega⟩
            obtain ⟨u, hu⟩ : ∃ u, gs[d]? = some u := ⟨_, List.getElem?_eq_getElem (by omega)⟩
            obtain ⟨c, hc, sc⟩ := hG'.get hu
            walk_at "rd"
            refine r_ixL (sqL hg6) (atI_nat hu) ?_
            walk_at "rd"
            refine r_app hpr6 (Nat.lt_of_le_of_lt (show zs.length ≤ 1000 by omega) (by decide)) ?_
            have tp := Tk.put (o := .lst (zs ++ [u])) hpr6
            exact ⟨_, _, _, _, zs ++ [u], l ++ [c], rfl, (D'.trans D6).mut nr0 prb prh, upd_same, (p2_imm (t6.trans tp) hZ').snoc (imm (t6.trans tp) sc), gd.snoc hz (hin c (List.mem_of_getElem? hc)), by rw [List.length_append, List.length_singleton]; omega⟩
    · obtain ⟨y7, y8, y9, y10, zs, l, rfl, D, hpr, hZ, gd, ll⟩ := hW
      walk_at "rd"
      exact r_tupLV hpr hZ fun p H3 np e3 hT => q p H3 l (D.then e3) hT gd (by omega)
end
end K26

namespace K26
open PySem PySem.Spec PyProof.Rows L2 Dk Tl
/-- one step of a reading -/
local macro_rules | `(tactic| walk_at "rd1") => `(tactic| first
  | ((with_reducible refine r_var (v := ?rv) ?rh ?_); (case rh => rfl))
  | with_reducible refine r_c ?_
  | with_reducible refine r_seq ?_
  | with_reducible refine r_asg ?_
  | with_reducible refine r_par ?_
  | with_reducible refine r_gname ?_
  | with_reducible refine r_op ?_
  | with_reducible refine r_forLo ?_
  | with_reducible refine r_forTo ?_
  | with_reducible refine r_forSo ?_
  | with_reducible refine r_forRo ?_
  | with_reducible refine r_forRvo ?_
  | with_reducible refine r_forZo ?_
  | with_reducible refine r_revS ?_
  | with_reducible refine r_lcRo ?_
  | with_reducible refine r_lcLo ?_
  | with_reducible refine r_yes ?_
  | with_reducible refine r_callK0 ?_
  | with_reducible refine r_break ?_
  | with_reducible refine r_forR2o ?_
  | with_reducible refine r_forEo ?_
  | with_reducible refine r_forESo ?_
  | with_reducible refine r_xfo ?_
  | with_reducible refine r_noP ?_
  | with_reducible refine r_part ?_
  | with_reducible refine r_pI ?_
  | with_reducible refine r_gcons ?_
  | with_reducible refine r_gnil ?_
  | with_reducible refine r_mkO ?_
  | with_reducible refine r_un ?_
  | with_reducible refine r_addI ?_
  | with_reducible refine r_I0 ?_
  | with_reducible refine r_U ?_
  | with_reducible refine r_cons ?_
  | with_reducible refine r_nil ?_
  | with_reducible refine r_CB ?_
  | with_reducible refine r_call ?_
  | with_reducible refine r_callS ?_
  | with_reducible refine r_int ?_
  | with_reducible refine r_max ?_
  | with_reducible refine r_min ?_
  | with_reducible refine r_test ?_
  | with_reducible refine r_B ?_
  | with_reducible refine r_blv ?_
  | with_reducible refine r_and ?_
  | with_reducible refine r_or ?_
  | with_reducible refine r_not ?_
  | with_reducible refine r_andV ?_
  | with_reducible refine r_orV ?_
  | with_reducible refine r_notV ?_
  | with_reducible refine r_ifE ?_
  | with_reducible refine r_ifS ?_
  | with_reducible refine r_ret ?_
  | with_reducible refine r_retN ?_
  | with_reducible refine r_drop ?_
  | with_reducible refine r_next ?_
  | with_reducible refine r_sl ?_
  | with_reducible refine r_gsub ?_
  | with_reducible refine r_bm ?_
  | with_reducible refine r_tup ?_
  | with_reducible refine r_lst ?_
  | with_reducible refine r_isN ?_
  | with_reducible refine r_notN ?_
  | with_reducible refine r_itt ?_
  | with_reducible refine r_iff ?_
  | with_reducible refine r_ittN ?_
  | with_reducible refine r_iffN ?_
  | ((with_reducible refine r_ittD ?rh ?_); (case rh => rfl))
  | ((with_reducible refine r_iffD ?rh ?_); (case rh => rfl))
  | ((with_reducible refine r_modP ?rh ?_); (case rh => decide))
  | ((with_reducible refine r_eq ?rh ?_); (case rh => rfl))
  | ((with_reducible refine r_eqP ?rh ?_); (case rh => rfl))
  | ((with_reducible refine r_ne ?rh ?_); (case rh => rfl)))
local macro_rules | `(tactic| walk_at "rd") => `(tactic| repeat walk_at "rd1")
local macro_rules | `(tactic| walk_at "isi") => `(tactic| first | refine r_isi (b := true) (by assumption) (by decide +kernel) ?_ | refine r_isi (b := false) (by assumption) (by decide +kernel) ?_)
local macro_rules | `(tactic| walk_at "rs1") => `(tactic| first
  | with_reducible refine r_seq ?_
  | with_reducible refine r_asg ?_
  | with_reducible refine r_gname ?_
  | with_reducible refine r_ret ?_)
local macro_rules | `(tactic| walk_at "rs") => `(tactic| repeat walk_at "rs1")

theorem p2_set {α β : Type} {R : α → β → Prop} {l : List α} {m : List β} (h : P2 R l m) {a : α} {b : β} (r : R a b) : ∀ i, P2 R (l.set i a) (m.set i b) := by
  induction h with
  | nil => intro i; exact .nil
  | cons h t ih =>
    intro i
    cases i with
    | zero => exact .cons r t
    | succ i => exact .cons h (ih i)
section
variable {P : Program} {w : World} {K : PySem.W.Frag} {mg : Str → Option Value} {base : Heap}
def spRow : Sp := fun vs H Q _ => ∃ (bx h b mk tb : Addr) (xs : List V) (L R : Nat → Sg) (sz : Nat → Nat) (n : Nat) (U : List Nat), vs = [.ref bx, .ref mk, .ref tb] ∧ Bx H bx h ∧ Wtb H b mk tb xs L R sz n U ∧ Nt bx h mk tb ∧
  ∀ p H' row, Dr2 bx h H H' → TupV SgV H' (.ref p) row → (∀ x ∈ row, Ok sz n x) → row.length ≤ 8 → Q (.ref p) H'
theorem ok_law_row (T : Txt K mg) : FnOk P w K mg base CX0 3 T.a_law_row T.d_law_row ["_law_box", "_law_marks", "_law_table"] spRow := by
  refine T.F_law_row.ok sc_law_row (fun vs H Q E h => ?_) (fun cdv A outer s H vs Q E hr h => ?_)
  · obtain ⟨bx, h, b, mk, tb, xs, L, R, sz, n, U, rfl, _⟩ := h
    rfl
  · obtain ⟨bx, hp, b, mk, tb, xs, L, R, sz, n, U, rfl, bs, wt, nt, q⟩ := h
    refine ⟨_, (pss_cons (ps_setLc (i := 3) (own := [("_law_k", 7)]) (g := gName 7) rfl sc_law_row.nd rfl rfl (sw_true rfl rfl rfl (by decide +kernel)) (pi_range1 (by rfl) T.n_range (pa_cons (pe_call (ok_law_pick T) (hr.mono (by decide)) (by rfl) T.g_law_pick T.F_law_pick.kp T.b_law_pick .nil pass0 (pa_cons (pv 0) (pa_cons pe_int pa_nil))) pa_nil)) (blkOk_by (N := N_law_row) (sc := defScope s_law_row) (by decide +kernel)) (fun _ _ _ _ _ => pg_name (i := 7) sc_law_row.nd rfl (Or.inl rfl)) (fun _ _ _ _ _ => pts_nil) (fun _ _ _ _ _ => (pe_ix (k_ix (K := K) rfl) (pv 1) (pe_call (ok_law_pick T) (hr.mono (by decide)) (by rfl) T.g_law_pick T.F_law_pick.kp T.b_law_pick .nil pass0 (pa_cons (pv 0) (pa_cons (pe_callB (k_len (K := K) rfl) (by rfl) T.n_len (by decide +kernel) (pa_cons (pv 1) pa_nil)) pa_nil))) (fun _ _ => rfl))))
        (Evl.pss_cut (ps_if (pt_cmpR op_gt (pe_call (ok_law_pick T) (hr.mono (by decide)) (by rfl) T.g_law_pick T.F_law_pick.kp T.b_law_pick .nil pass0 (pa_cons (pv 0) (pa_cons pe_int pa_nil))) pe_int (nomark _)) (pss_cons (ps_set (i := 4) sc_law_row.nd rfl (Or.inl rfl) (pe_ix ix_seq (pe_lst (pa_cons pe_int (pa_cons pe_int (pa_cons (pe_call (ok_law_pick T) (hr.mono (by decide)) (by rfl) T.g_law_pick T.F_law_pick.kp T.b_law_pick .nil pass0 (pa_cons (pv 0) (pa_cons (pe_callB call_lenU (by rfl) T.n_len (by decide +kernel) (pa_cons (pv 1) pa_nil)) pa_nil))) pa_nil)))) (pe_call (ok_law_pick T) (hr.mono (by decide)) (by rfl) T.g_law_pick T.F_law_pick.kp T.b_law_pick .nil pass0 (pa_cons (pv 0) (pa_cons pe_int pa_nil))) (fun _ _ => rfl)))
        (pss_cons (ps_set (i := 3) sc_law_row.nd rfl (Or.inl rfl) (pe_lst (pa_cons (pe_ix ix_seq (pv 1) (pv 4) (fun _ _ => rfl)) pa_nil)))
        (pss_cons (ps_for PassesOwn.never rfl (pi_range1 (by rfl) T.n_range (pa_cons (pe_call (ok_law_pick T) (hr.mono (by decide)) (by rfl) T.g_law_pick T.F_law_pick.kp T.b_law_pick .nil pass0 (pa_cons (pv 0) (pa_cons pe_int pa_nil))) pa_nil)) (pg_name (i := 5) sc_law_row.nd rfl (Or.inl rfl)) (pss_cons (ps_set (i := 6) sc_law_row.nd rfl (Or.inl rfl) (pe_call (ok_law_behind T) (hr.mono (by decide)) (by rfl) T.g_law_behind T.F_law_behind.kp T.b_law_behind .nil pass0 (pa_cons (pv 2) (pa_cons (pv 4) pa_nil))))
        (Evl.pss_cut (ps_if (pt_cmpR (op_eqU hr.units) (pe_call (ok_law_pick T) (hr.mono (by decide)) (by rfl) T.g_law_pick T.F_law_pick.kp T.b_law_pick .nil pass0 (pa_cons (pv 0) (pa_cons pe_int pa_nil))) pe_int (nomark _)) (pss_one (ps_set (i := 6) sc_law_row.nd rfl (Or.inl rfl) (pe_call (ok_law_close T) hr (by rfl) T.g_law_close T.F_law_close.kp T.b_law_close .nil pass0 (pa_cons (pv 2) (pa_cons (pv 4) pa_nil))))) pss_nil)
        (pss_one (ps_if (pt_cmpR op_gt (pe_callB call_lenU (by rfl) T.n_len (by decide +kernel) (pa_cons (pv 6) pa_nil)) pe_int (nomark _)) (pss_cons (ps_set (i := 4) sc_law_row.nd rfl (Or.inl rfl) (pe_ix ix_seq (pv 6) (pe_call (ok_law_pick T) (hr.mono (by decide)) (by rfl) T.g_law_pick T.F_law_pick.kp T.b_law_pick .nil pass0 (pa_cons (pv 0) (pa_cons (pe_callB call_lenU (by rfl) T.n_len (by decide +kernel) (pa_cons (pv 6) pa_nil)) pa_nil))) (fun _ _ => rfl)))
        (pss_one (ps_expr (pe_bm PySem.F.plainAttrs_list PySem.F.slot_list_append PySem.F.type_list_append mt_append (pv 3) (pa_cons (pe_ix ix_seq (pv 1) (pv 4) (fun _ _ => rfl)) pa_nil))))) pss_nil)))))
        (pss_one (ps_if (pt_cmpR (op_eqU hr.units) (pe_call (ok_law_pick T) (hr.mono (by decide)) (by rfl) T.g_law_pick T.F_law_pick.kp T.b_law_pick .nil pass0 (pa_cons (pv 0) (pa_cons pe_int pa_nil))) pe_int (nomark _)) (pss_one (ps_asg (pe_ix ix_seq (pv 1) (pe_call (ok_law_pick T) (hr.mono (by decide)) (by rfl) T.g_law_pick T.F_law_pick.kp T.b_law_pick .nil pass0 (pa_cons (pv 0) (pa_cons (pe_callB call_lenU (by rfl) T.n_len (by decide +kernel) (pa_cons (pv 1) pa_nil)) pa_nil))) (fun _ _ => rfl)) (pg_sub (pv 3) (pe_call (ok_law_pick T) (hr.mono (by decide)) (by rfl) T.g_law_pick T.F_law_pick.kp T.b_law_pick .nil pass0 (pa_cons (pv 0) (pa_cons (pe_callB call_lenU (by rfl) T.n_len (by decide +kernel) (pa_cons (pv 3) pa_nil)) pa_nil))) set_list))) pss_nil))))) pss_nil)
        (pss_one (ps_ret (pe_callTy call_tupU (by rfl) T.n_tuple (by decide +kernel) (pa_cons (pv 3) pa_nil)))))), ?_⟩
    have wv : Wv L R sz n := by obtain ⟨_, _, br⟩ := wt.wr; exact br.wv
    have xl := wt.len
    have ul := wt.ul
    have u1 := (wt.tl.bh0 wv).2
    -- a mark at a place
    walk_at "rd"
    refine ⟨bx, hp, 6, rfl, bs, by decide, by decide, fun d1 H1 d10 d11 D1 => ?_⟩
    walk_at "rd"
    refine l_lcR (by omega) (by omega) (fun D i H' => ∃ acc l, Dr2 bx hp H1 H' ∧ H' D = some (.lst acc) ∧ P2 (SgV H') acc l ∧ (∀ x ∈ l, Ok sz n x) ∧ l.length ≤ i) (fun D hD => ⟨[], [], (Dr2.refl D1.st).new hD, upd_same, .nil, (fun x hx => absurd hx List.not_mem_nil), Nat.le_refl _⟩) (fun D i H' hD hi hW => ?_) (fun pl H2 npl hW => ?_)
    · obtain ⟨acc, l, D', hA, hP, hok, hl⟩ := hW
      have wt' := wt.dr bs (D1.trans D') nt
      walk_at "rd"
      refine ⟨rfl, ?_⟩
      walk_at "rd"
      refine r_lenL (sqL wt'.hm) ?_
      walk_at "rd"
      refine ⟨bx, hp, (xs.length : Nat), rfl, D'.st, by omega, by omega, fun d H3 d0 d2 D3 => ?_⟩
      obtain ⟨d, rfl⟩ : ∃ y : Nat, d = (y : Nat) := ⟨d.toNat, by omega⟩
      have wt3 := wt.dr bs ((D1.trans D').trans D3) nt
      obtain ⟨x, v, ox, _, hv, sv⟩ := wt3.at_ (j := d) (by omega)
      walk_at "rd"
      refine r_ixL (sqL wt3.hm) (atI_nat hv) ?_
      have hA3 := D3.hh _ _ (D1.st.nb hD) (D1.st.nh hD) hA
      have al := hP.len
      have tp := Tk.put (o := .lst (acc ++ [v])) hA3
      have t3 := dr2_tk D'.st D3
      refine ⟨acc, hA3, Nat.lt_of_le_of_lt (show acc.length ≤ 1000 by omega) (by decide), acc ++ [v], l ++ [x], (D'.trans D3).mut hD (D1.st.nb hD) (D1.st.nh hD), upd_same, (p2_imm (t3.trans tp) hP).snoc (imm tp sv), fun y hy => ?_, by rw [List.length_append, List.length_singleton]; omega⟩
      rcases List.mem_append.mp hy with hy | hy
      · exact hok y hy
      · rw [List.mem_singleton.mp hy]
        exact ox
    obtain ⟨acc, l, D2, hA, hP, hok, hl⟩ := hW
    have D02 := D1.trans D2
    walk_at "rd"
    refine ⟨fun σ H' => ∃ pl y4 y5 y6 zs l, σ = [some (.ref bx), some (.ref mk), some (.ref tb), some (.ref pl), y4, y5, y6, none] ∧ Dr2 bx hp H H' ∧ H' pl = some (.lst zs) ∧ P2 (SgV H') zs l ∧ (∀ x ∈ l, Ok sz n x) ∧ l.length ≤ 8, ?_, ?_⟩
    · walk_at "rd"
      refine ⟨bx, hp, 3, rfl, D02.st, by decide, by decide, fun d3 H3 d30 d31 D3 => ?_⟩
      have D03 := D02.trans D3
      have hA3 := D3.hh _ _ (D1.st.nb npl) (D1.st.nh npl) hA
      walk_at "rd"
      refine r_ite (fun _ => ?_) (fun _ => ?_)
      · have wt3 := wt.dr bs D03 nt
        walk_at "rd"
        refine r_lenL (sqL wt3.hm) ?_
        walk_at "rd"
        refine ⟨bx, hp, (xs.length : Nat), rfl, D03.st, by omega, by omega, fun d4 H4 d40 d41 D4 => ?_⟩
        obtain ⟨d4, rfl⟩ : ∃ y : Nat, d4 = (y : Nat) := ⟨d4.toNat, by omega⟩
        have D04 := D03.trans D4
        walk_at "rd"
        refine r_small nsz fun pq nq => ?_
        obtain ⟨ml, hml⟩ : ∃ ml : List V, ml = [.int 0, .int 0, .int (d4 : Nat)] := ⟨_, rfl⟩
        rw [← hml]
        obtain ⟨H5, k5, e5, h5⟩ := nL (.lst ml) nq
        rw [← k5]
        walk_at "rd"
        refine ⟨bx, hp, 3, rfl, D04.st.up e5, by decide, by decide, fun d6 H6 d60 d61 D6 => ?_⟩
        have D06 := (D04.then e5).trans D6
        have h6 := D6.hh _ _ (D04.st.nb nq) (D04.st.nh nq) h5
        obtain ⟨at0, hat, at1⟩ : ∃ a : Nat, atI ml d6 = some (.int (a : Nat)) ∧ a < U.length := by
          rw [hml]
          have c3 : d6 = 0 ∨ d6 = 1 ∨ d6 = 2 := by omega
          rcases c3 with rfl | rfl | rfl
          · exact ⟨0, rfl, by omega⟩
          · exact ⟨0, rfl, by omega⟩
          · exact ⟨d4, rfl, by omega⟩
        walk_at "rd"
        refine r_ixL (sqL h6) hat ?_
        have wt6 := wt.dr bs D06 nt
        obtain ⟨x, v, ox, _, hv, sv⟩ := wt6.at_ at1
        walk_at "rd"
        refine r_ixL (sqL wt6.hm) (atI_nat hv) ?_
        walk_at "rd"
        refine r_small nsz fun pl npl => ?_
        obtain ⟨H7, k7, e7, h7⟩ := nL (.lst [v]) npl
        rw [← k7]
        have D07 := D06.then e7
        have npl0 : H pl = none := D06.fresh npl
        have pb := bs.nb npl0
        have ph := bs.nh npl0
        walk_at "rd"
        refine ⟨bx, hp, 6, rfl, D07.st, by decide, by decide, fun d8 H8 d80 d81 D8 => ?_⟩
        walk_at "rd"
        refine l_R (by omega) (by omega) (fun i σ H' => ∃ (at_ : Nat) (y5 y6 : Option V) (zs : List V) (l : List Sg), σ = [some (.ref bx), some (.ref mk), some (.ref tb), some (.ref pl), some (.int (at_ : Nat)), y5, y6, none] ∧ Dr2 bx hp H H' ∧ at_ < U.length ∧ H' pl = some (.lst zs) ∧ P2 (SgV H') zs l ∧ (∀ x ∈ l, Ok sz n x) ∧ l.length ≤ i + 1 ∧ 0 < l.length)
          ⟨at0, none, none, [v], [x], rfl, D07.trans D8, at1, D8.hh _ _ pb ph h7, .cons (imm ((Tk.ex e7).trans (dr2_tk D07.st D8)) sv) .nil, (fun y hy => by rw [List.mem_singleton.mp hy]; exact ox), Nat.le_refl _, by simp⟩ (fun i σ H' hi hW => ?_) (fun σ H' hW => ?_)
        · obtain ⟨at_, y5, y6, zs, l, rfl, D, hat, hz, hZ, hok, hl, hl0⟩ := hW
          have wt' := wt.dr bs D nt
          walk_at "rd"
          refine ⟨tb, U, at_, rfl, wt'.ht, hat, ul, fun pb1 K1 f1 _ hb1 => ?_⟩
          walk_at "rd"
          refine ⟨fun σ H2 => ∃ (pc : Addr) (B : List Nat), σ = [some (.ref bx), some (.ref mk), some (.ref tb), some (.ref pl), some (.int (at_ : Nat)), some (.int (i : Nat)), some (.ref pc), none] ∧ Dr2 bx hp H H2 ∧ H2 pl = some (.lst zs) ∧ P2 (SgV H2) zs l ∧ H2 pc = some (.lst (tbv B)) ∧ (∀ k ∈ B, k < U.length) ∧ B.length ≤ 1000 ∧ (pc ≠ bx ∧ pc ≠ hp), ?_, ?_⟩
          · walk_at "rd"
            refine ⟨bx, hp, 2, rfl, (D.then f1).st, by decide, by decide, fun d9 K2 d90 d91 F2 => ?_⟩
            have D2' := (D.then f1).trans F2
            have wt2 := wt.dr bs D2' nt
            have hz2 := F2.hh _ _ pb ph (f1 _ _ hz)
            have hZ2 := p2_imm ((Tk.ex f1).trans (dr2_tk (D.then f1).st F2)) hZ
            rename_i nb1
            walk_at "rd"
            refine r_ite (fun _ => ?_) (fun _ => ?_)
            · walk_at "rd"
              refine ⟨tb, U, at_, rfl, wt2.ht, hat, ul, fun pc K3 f3 npc hc3 => ?_⟩
              walk_at "rd"
              exact ⟨pc, cl U at_, rfl, D2'.then f3, f3 _ _ hz2, p2_imm (.ex f3) hZ2, hc3, (fun k hk => (mem_bh.mp (cl_sub hk)).1), Nat.le_trans (List.length_filter_le _ _) (Nat.le_trans filter_len ul), D2'.st.nb npc, D2'.st.nh npc⟩
            · walk_at "rd"
              exact ⟨pb1, bh U at_, rfl, D2', hz2, hZ2, F2.hh _ _ (D.st.nb nb1) (D.st.nh nb1) hb1, (fun k hk => (mem_bh.mp hk).1), Nat.le_trans filter_len ul, D.st.nb nb1, D.st.nh nb1⟩
          · rintro σ K4 ⟨pc, B, rfl, D4', hz4, hZ4, hB, hBU, hBl, pcb, pch⟩
            walk_at "rd"
            · refine r_lenL (sqL hB) ?_
              walk_at "rd"
              refine r_ite (fun hpos => ?_) (fun _ => ?_)
              · rw [List.length_map] at hpos
                walk_at "rd"
                refine r_lenL (sqL hB) ?_
                rw [List.length_map]
                walk_at "rd"
                refine ⟨bx, hp, (B.length : Nat), rfl, D4'.st, by omega, by omega, fun d K5 d0 d1 F5 => ?_⟩
                obtain ⟨d, rfl⟩ : ∃ y : Nat, d = (y : Nat) := ⟨d.toNat, by omega⟩
                have D5' := D4'.trans F5
                have hB5 := F5.hh _ _ pcb pch hB
                have hz5 := F5.hh _ _ pb ph hz4
                have hZ5 := p2_imm (dr2_tk D4'.st F5) hZ4
                obtain ⟨a2, ha2⟩ : ∃ a2, B[d]? = some a2 := ⟨_, List.getElem?_eq_getElem (by omega)⟩
                have a2U := hBU a2 (List.mem_of_getElem? ha2)
                walk_at "rd"
                refine r_ixL (sqL hB5) (atI_nat (show (tbv B)[d]? = some (.int (a2 : Nat)) by rw [List.getElem?_map, ha2]; rfl)) ?_
                have wt5 := wt.dr bs D5' nt
                obtain ⟨x, v, ox, _, hv, sv⟩ := wt5.at_ a2U
                walk_at "rd"
                refine r_tyL (sqL hz5) ?_
                walk_at "rd"
                refine r_ixL (sqL wt5.hm) (atI_nat hv) ?_
                walk_at "rd"
                have zl := hZ5.len
                refine r_app hz5 (Nat.lt_of_le_of_lt (show zs.length ≤ 1000 by omega) (by decide)) ?_
                have tp := Tk.put (o := .lst (zs ++ [v])) hz5
                refine ⟨a2, _, _, zs ++ [v], l ++ [x], rfl, D5'.mut npl0 pb ph, a2U, upd_same, (p2_imm tp hZ5).snoc (imm tp sv), fun y hy => ?_, by rw [List.length_append, List.length_singleton]; omega, by rw [List.length_append]; omega⟩
                rcases List.mem_append.mp hy with hy | hy
                · exact hok y hy
                · rw [List.mem_singleton.mp hy]
                  exact ox
              · walk_at "rd"
                exact ⟨at_, _, _, zs, l, rfl, D4', hat, hz4, hZ4, hok, by omega, hl0⟩
        · obtain ⟨at_, y5, y6, zs, l, rfl, D, hat, hz, hZ, hok, hl, hl0⟩ := hW
          have l7 : l.length ≤ 7 := by omega
          walk_at "rd"
          · refine ⟨bx, hp, 3, rfl, D.st, by decide, by decide, fun d9 K2 d90 d91 F2 => ?_⟩
            have D2' := D.trans F2
            have hz2 := F2.hh _ _ pb ph hz
            have hZ2 := p2_imm (dr2_tk D.st F2) hZ
            walk_at "rd"
            refine r_ite (fun _ => ?_) (fun _ => ?_)
            · have wt2 := wt.dr bs D2' nt
              walk_at "rd"
              refine r_lenL (sqL wt2.hm) ?_
              walk_at "rd"
              refine ⟨bx, hp, (xs.length : Nat), rfl, D2'.st, by omega, by omega, fun d K3 d0 d1 F3 => ?_⟩
              obtain ⟨d, rfl⟩ : ∃ y : Nat, d = (y : Nat) := ⟨d.toNat, by omega⟩
              have D3' := D2'.trans F3
              have hz3 := F3.hh _ _ pb ph hz2
              have hZ3 := p2_imm (dr2_tk D2'.st F3) hZ2
              have wt3 := wt.dr bs D3' nt
              obtain ⟨x, v, ox, _, hv, sv⟩ := wt3.at_ (j := d) (by omega)
              have zl := hZ3.len
              walk_at "rd"
              refine r_ixL (sqL wt3.hm) (atI_nat hv) ?_
              walk_at "rd"
              refine r_lenL (sqL hz3) ?_
              walk_at "rd"
              refine ⟨bx, hp, (zs.length : Nat), rfl, D3'.st, by omega, by omega, fun d2 K4 d20 d21 F4 => ?_⟩
              obtain ⟨d2, rfl⟩ : ∃ y : Nat, d2 = (y : Nat) := ⟨d2.toNat, by omega⟩
              have D4' := D3'.trans F4
              have hz4 := F4.hh _ _ pb ph hz3
              have t4 := dr2_tk D3'.st F4
              have hZ4 := p2_imm t4 hZ3
              walk_at "rd"
              refine r_setL hz4 (n := d2) (ixN_nat (by omega) (by omega)) ?_
              walk_at "rd"
              have tp := Tk.put (o := .lst (zs.set d2 v)) hz4
              refine ⟨pl, _, _, _, zs.set d2 v, l.set d2 x, rfl, D4'.mut npl0 pb ph, upd_same, ?_, fun y hy => ?_, by rw [List.length_set]; omega⟩
              · exact p2_set (p2_imm tp hZ4) (imm (t4.trans tp) sv) d2
              · rcases List.mem_or_eq_of_mem_set hy with hy | hy
                · exact hok y hy
                · rw [hy]; exact ox
            · walk_at "rd"
              exact ⟨pl, _, _, _, zs, l, rfl, D2', hz2, hZ2, hok, by omega⟩
      · walk_at "rd"
        exact ⟨pl, none, none, none, acc, l, rfl, D03, hA3, p2_imm (dr2_tk D02.st D3) hP, hok, by omega⟩
    · rintro σ H9 ⟨pl, y4, y5, y6, zs, l, rfl, D9, hz, hZ, hok, hl⟩
      walk_at "rd"
      exact r_tupLV hz hZ fun p H3 np e3 hT => q p H3 l (D9.then e3) hT hok hl
end
end K26

namespace K26
open PySem PySem.Spec PyProof.Rows L2 Dk Tl
/-- one step of a reading -/
local macro_rules | `(tactic| walk_at "rd1") => `(tactic| first
  | ((with_reducible refine r_var (v := ?rv) ?rh ?_); (case rh => rfl))
  | with_reducible refine r_c ?_
  | with_reducible refine r_seq ?_
  | with_reducible refine r_asg ?_
  | with_reducible refine r_par ?_
  | with_reducible refine r_gname ?_
  | with_reducible refine r_op ?_
  | with_reducible refine r_forLo ?_
  | with_reducible refine r_forTo ?_
  | with_reducible refine r_forSo ?_
  | with_reducible refine r_forRo ?_
  | with_reducible refine r_forRvo ?_
  | with_reducible refine r_forZo ?_
  | with_reducible refine r_revS ?_
  | with_reducible refine r_lcRo ?_
  | with_reducible refine r_lcLo ?_
  | with_reducible refine r_yes ?_
  | with_reducible refine r_callK0 ?_
  | with_reducible refine r_break ?_
  | with_reducible refine r_forR2o ?_
  | with_reducible refine r_forEo ?_
  | with_reducible refine r_forESo ?_
  | with_reducible refine r_xfo ?_
  | with_reducible refine r_noP ?_
  | with_reducible refine r_part ?_
  | with_reducible refine r_pI ?_
  | with_reducible refine r_gcons ?_
  | with_reducible refine r_gnil ?_
  | with_reducible refine r_mkO ?_
  | with_reducible refine r_un ?_
  | with_reducible refine r_addI ?_
  | with_reducible refine r_I0 ?_
  | with_reducible refine r_U ?_
  | with_reducible refine r_cons ?_
  | with_reducible refine r_nil ?_
  | with_reducible refine r_CB ?_
  | with_reducible refine r_call ?_
  | with_reducible refine r_callS ?_
  | with_reducible refine r_int ?_
  | with_reducible refine r_max ?_
  | with_reducible refine r_min ?_
  | with_reducible refine r_test ?_
  | with_reducible refine r_B ?_
  | with_reducible refine r_blv ?_
  | with_reducible refine r_and ?_
  | with_reducible refine r_or ?_
  | with_reducible refine r_not ?_
  | with_reducible refine r_andV ?_
  | with_reducible refine r_orV ?_
  | with_reducible refine r_notV ?_
  | with_reducible refine r_ifE ?_
  | with_reducible refine r_ifS ?_
  | with_reducible refine r_ret ?_
  | with_reducible refine r_retN ?_
  | with_reducible refine r_drop ?_
  | with_reducible refine r_next ?_
  | with_reducible refine r_sl ?_
  | with_reducible refine r_gsub ?_
  | with_reducible refine r_bm ?_
  | with_reducible refine r_tup ?_
  | with_reducible refine r_lst ?_
  | with_reducible refine r_isN ?_
  | with_reducible refine r_notN ?_
  | with_reducible refine r_itt ?_
  | with_reducible refine r_iff ?_
  | with_reducible refine r_ittN ?_
  | with_reducible refine r_iffN ?_
  | ((with_reducible refine r_ittD ?rh ?_); (case rh => rfl))
  | ((with_reducible refine r_iffD ?rh ?_); (case rh => rfl))
  | ((with_reducible refine r_modP ?rh ?_); (case rh => decide))
  | ((with_reducible refine r_eq ?rh ?_); (case rh => rfl))
  | ((with_reducible refine r_eqP ?rh ?_); (case rh => rfl))
  | ((with_reducible refine r_ne ?rh ?_); (case rh => rfl)))
local macro_rules | `(tactic| walk_at "rd") => `(tactic| repeat walk_at "rd1")
local macro_rules | `(tactic| walk_at "isi") => `(tactic| first | refine r_isi (b := true) (by assumption) (by decide +kernel) ?_ | refine r_isi (b := false) (by assumption) (by decide +kernel) ?_)
local macro_rules | `(tactic| walk_at "rs1") => `(tactic| first
  | with_reducible refine r_seq ?_
  | with_reducible refine r_asg ?_
  | with_reducible refine r_gname ?_
  | with_reducible refine r_ret ?_)
local macro_rules | `(tactic| walk_at "rs") => `(tactic| repeat walk_at "rs1")

section
variable {P : Program} {w : World} {K : PySem.W.Frag} {mg : Str → Option Value} {base : Heap}
abbrev EnV := TupV SpV
theorem p2_rev {α β : Type} {R : α → β → Prop} {l : List α} {m : List β} (h : P2 R l m) : P2 R l.reverse m.reverse := by
  induction h with
  | nil => exact .nil
  | cons k _ ih =>
    rw [List.reverse_cons, List.reverse_cons]
    exact ih.snoc k
def spBent : Sp := fun vs H Q _ => ∃ (bx h b mk tb : Addr) (lf : V) (xs : List V) (L R : Nat → Sg) (sz : Nat → Nat) (n : Nat) (U : List Nat) (leaf : List (List Pr)), vs = [.ref bx, .ref b, .ref mk, lf] ∧ Bx H bx h ∧ Wtb H b mk tb xs L R sz n U ∧ Nt bx h mk tb ∧ LfV H lf leaf ∧ 0 < leaf.length ∧ leaf.length ≤ 20 ∧ (∀ e ∈ leaf, 0 < e.length ∧ e.length ≤ 300 ∧ ∀ z ∈ e, Ok2 sz n z) ∧
  ∀ p H' rs lls, Dr2 bx h H H' → H p = none → H' p = some (.lst rs) → P2 (LfV H') rs lls → lls.length ≤ 40 → (∀ ll ∈ lls, ll.length ≤ 30 ∧ ∀ e ∈ ll, e.length ≤ 400) → Q (.ref p) H'
set_option maxHeartbeats 16000000 in
theorem ok_law_bent (T : Txt K mg) : FnOk P w K mg base CX0 2 T.a_law_bent T.d_law_bent ["_law_box", "_law_world_here", "_law_marks", "_law_leaf"] spBent := by
  refine T.F_law_bent.ok sc_law_bent (fun vs H Q E h => ?_) (fun cdv A outer s H vs Q E hr h => ?_)
  · obtain ⟨bx, h, b, mk, tb, lf, xs, L, R, sz, n, U, leaf, rfl, _⟩ := h
    rfl
  · obtain ⟨bx, hp, b, mk, tb, lf, xs, L, R, sz, n, U, leaf, rfl, bs, wt, nt, hl, l0, l20, hok, q⟩ := h
    refine ⟨_, (pss_cons (ps_set (i := 4) sc_law_bent.nd rfl (Or.inr rfl) (pe_call (ok_law_pick T) hr (by rfl) T.g_law_pick T.F_law_pick.kp T.b_law_pick .nil pass0 (pa_cons (pv 0) (pa_cons (pe_callB call_lenU (by rfl) T.n_len (by decide +kernel) (pa_cons (pv 3) pa_nil)) pa_nil))))
        (pss_cons (ps_set (i := 5) sc_law_bent.nd rfl (Or.inl rfl) (pe_ix ix_seq (pv 3) (pv 4) (fun _ _ => rfl)))
        (pss_cons (ps_set (i := 6) sc_law_bent.nd rfl (Or.inl rfl) (pe_call (ok_law_pick T) hr (by rfl) T.g_law_pick T.F_law_pick.kp T.b_law_pick .nil pass0 (pa_cons (pv 0) (pa_cons (pe_callB call_lenU (by rfl) T.n_len (by decide +kernel) (pa_cons (pv 5) pa_nil)) pa_nil))))
        (pss_cons (ps_asg (pe_ix ix_seq (pv 5) (pv 6) (fun _ _ => rfl)) (pg_tup rfl (pgs_cons (pg_name (i := 7) sc_law_bent.nd rfl (Or.inl rfl)) (pgs_cons (pg_name (i := 8) sc_law_bent.nd rfl (Or.inl rfl)) pgs_nil))))
        (pss_cons (ps_set (i := 9) sc_law_bent.nd rfl (Or.inl rfl) (pe_ix ix_seq (pv 2) (pe_call (ok_law_pick T) hr (by rfl) T.g_law_pick T.F_law_pick.kp T.b_law_pick .nil pass0 (pa_cons (pv 0) (pa_cons (pe_callB call_lenU (by rfl) T.n_len (by decide +kernel) (pa_cons (pv 2) pa_nil)) pa_nil))) (fun _ _ => rfl)))
        (pss_cons (ps_set (i := 10) sc_law_bent.nd rfl (Or.inl rfl) (pe_tup (pa_cons (pe_callB call_lenU (by rfl) T.n_len (by decide +kernel) (pa_cons (pv 1) pa_nil)) (pa_cons pe_int pa_nil))))
        (pss_cons (ps_set (i := 11) sc_law_bent.nd rfl (Or.inl rfl) (pe_tup (pa_cons pe_int (pa_cons pe_int pa_nil))))
        (pss_cons (ps_set (i := 12) sc_law_bent.nd rfl (Or.inl rfl) (pe_lst (pa_cons (pe_tup pa_nil) (pa_cons (pe_op op_addU (pe_slice sl_U (pv 5) po_none (po_some (pv 6))) (pe_slice sl_U (pv 5) (po_some (pe_op op_addU (pv 6) pe_int)) po_none)) (pa_cons (pe_slice sl_U (pv 5) po_none (po_some (pe_op op_addU (pv 6) pe_int))) (pa_cons (pe_slice sl_U (pv 5) (po_some (pv 6)) po_none) (pa_cons (pe_op op_addU (pv 5) (pe_tup (pa_cons (pe_ix ix_seq (pv 5) (pe_un un_neg pe_int) (fun _ _ => rfl)) pa_nil))) (pa_cons (pe_op op_addU (pe_slice sl_U (pv 5) po_none (po_some (pv 6))) (pe_tup (pa_cons (pe_tup (pa_cons (pv 7) (pa_cons (pv 7) pa_nil))) pa_nil))) pa_nil))))))))
        (pss_cons (ps_for PassesOwn.never rfl (pi_list (pe_lst (pa_cons (pe_tup (pa_cons (pv 8) (pa_cons (pv 7) pa_nil))) (pa_cons (pe_tup (pa_cons (pv 9) (pa_cons (pv 8) pa_nil))) (pa_cons (pe_tup (pa_cons (pv 7) (pa_cons (pv 9) pa_nil))) (pa_cons (pe_tup (pa_cons (pv 7) (pa_cons (pv 10) pa_nil))) (pa_cons (pe_tup (pa_cons (pv 11) (pa_cons (pv 8) pa_nil))) (pa_cons (pe_tup (pa_cons (pv 7) (pa_cons (pe_tup (pa_cons (pe_ix ix_seq (pv 8) pe_int (fun _ _ => rfl)) (pa_cons (pe_op op_addU (pe_ix ix_seq (pv 8) pe_int (fun _ _ => rfl)) pe_int) pa_nil))) pa_nil))) (pa_cons (pe_tup (pa_cons (pe_tup (pa_cons pe_int (pa_cons pe_int pa_nil))) (pa_cons (pe_tup (pa_cons pe_int (pa_cons pe_int pa_nil))) pa_nil))) (pa_cons (pe_tup (pa_cons (pv 9) (pa_cons (pv 9) pa_nil))) pa_nil)))))))))) (pg_name (i := 13) sc_law_bent.nd rfl (Or.inl rfl)) (pss_one (ps_expr (pe_bm PySem.F.plainAttrs_list PySem.F.slot_list_append PySem.F.type_list_append mt_append (pv 12) (pa_cons (pe_op op_addU (pe_op op_addU (pe_slice sl_U (pv 5) po_none (po_some (pv 6))) (pe_tup (pa_cons (pv 13) pa_nil))) (pe_slice sl_U (pv 5) (po_some (pe_op op_addU (pv 6) pe_int)) po_none)) pa_nil)))))
        (pss_cons (ps_for PassesOwn.never rfl (pi_list (pe_lst (pa_cons (pe_tup (pa_cons (pv 7) (pa_cons (pe_ix ix_seq (pe_ix ix_seq (pv 1) (pe_ix ix_seq (pv 8) pe_int (fun _ _ => rfl)) (fun _ _ => rfl)) pe_int (fun _ _ => rfl)) pa_nil))) (pa_cons (pe_tup (pa_cons (pe_ix ix_seq (pe_ix ix_seq (pv 1) (pe_ix ix_seq (pv 7) pe_int (fun _ _ => rfl)) (fun _ _ => rfl)) pe_int (fun _ _ => rfl)) (pa_cons (pv 8) pa_nil))) (pa_cons (pe_tup (pa_cons (pv 7) (pa_cons (pe_ix ix_seq (pe_ix ix_seq (pv 1) (pe_ix ix_seq (pv 8) pe_int (fun _ _ => rfl)) (fun _ _ => rfl)) pe_int (fun _ _ => rfl)) pa_nil))) (pa_cons (pe_tup (pa_cons (pe_ix ix_seq (pe_ix ix_seq (pv 1) (pe_ix ix_seq (pv 7) pe_int (fun _ _ => rfl)) (fun _ _ => rfl)) pe_int (fun _ _ => rfl)) (pa_cons (pv 8) pa_nil))) pa_nil)))))) (pg_name (i := 13) sc_law_bent.nd rfl (Or.inl rfl)) (pss_one (ps_expr (pe_bm PySem.F.plainAttrs_list PySem.F.slot_list_append PySem.F.type_list_append mt_append (pv 12) (pa_cons (pe_op op_addU (pe_slice sl_U (pv 5) po_none (po_some (pe_op op_addU (pv 6) pe_int))) (pe_tup (pa_cons (pv 13) pa_nil))) pa_nil)))))
        (pss_cons (ps_setLc (i := 14) (own := [("_law_bent_here", 15)]) (g := gName 15) rfl sc_law_bent.nd rfl rfl (sw_true rfl rfl rfl (by decide +kernel)) (pi_list (pv 12)) (blkOk_by (N := N_law_bent) (sc := defScope s_law_bent) (by decide +kernel)) (fun _ _ _ _ _ => pg_name (i := 15) sc_law_bent.nd rfl (Or.inl rfl)) (fun _ _ _ _ _ => pts_nil) (fun _ _ _ _ _ => (pe_op (k_add (K := K) rfl) (pe_op (k_add (K := K) rfl) (pe_slice (k_sl (K := K) rfl) (pv 3) po_none (po_some (pv 4))) (pe_tup (pa_cons (pv 15) pa_nil))) (pe_slice (k_sl (K := K) rfl) (pv 3) (po_some (pe_op (k_add (K := K) rfl) (pv 4) pe_int)) po_none))))
        (pss_one (ps_ret (pe_op op_addU (pv 14) (pe_lst (pa_cons (pe_slice sl_U (pv 3) po_none (po_some (pv 4))) (pa_cons (pe_slice sl_U (pv 3) (po_some (pe_op op_addU (pv 4) pe_int)) po_none) (pa_cons (pe_op op_addU (pv 3) (pe_tup (pa_cons (pv 5) pa_nil))) (pa_cons (pe_revT (pv 3) (pe_un un_neg pe_int) (fun _ _ _ q => ⟨1, rfl, q⟩)) (pa_cons (pe_tup pa_nil) pa_nil)))))))))))))))))))), ?_⟩
    have xl := wt.len
    have ul := wt.ul
    have wv : Wv L R sz n := by obtain ⟨_, _, br⟩ := wt.wr; exact br.wv
    have u1 := (wt.tl.bh0 wv).2
    walk_at "rd"
    refine r_lenTV hl ?_
    walk_at "rd"
    refine ⟨bx, hp, (leaf.length : Nat), rfl, bs, by omega, by omega, fun d1 H1 d10 d11 D1 => ?_⟩
    obtain ⟨d1, rfl⟩ : ∃ y : Nat, d1 = (y : Nat) := ⟨d1.toNat, by omega⟩
    have hl1 := imm (dr2_tk bs D1) hl
    obtain ⟨e, he⟩ : ∃ e, leaf[d1]? = some e := ⟨_, List.getElem?_eq_getElem (by omega)⟩
    obtain ⟨e0, e3, eo⟩ := hok e (List.mem_of_getElem? he)
    walk_at "rd"
    refine r_ixTV hl1 he fun ve hve => ?_
    walk_at "rd"
    refine r_lenTV hve ?_
    walk_at "rd"
    refine ⟨bx, hp, (e.length : Nat), rfl, D1.st, by omega, by omega, fun d2 H2 d20 d21 D2 => ?_⟩
    obtain ⟨d2, rfl⟩ : ∃ y : Nat, d2 = (y : Nat) := ⟨d2.toNat, by omega⟩
    have t2 := dr2_tk D1.st D2
    have hve2 := imm t2 hve
    have hl2 := imm t2 hl1
    obtain ⟨z, hz⟩ : ∃ z, e[d2]? = some z := ⟨_, List.getElem?_eq_getElem (by omega)⟩
    have okz := eo z (List.mem_of_getElem? hz)
    walk_at "rd"
    refine r_ixTV hve2 hz fun wz hwz => ?_
    refine r_gP hwz fun x1 x2 s1 s2 => ?_
    have wt2 := wt.dr bs (D1.trans D2) nt
    walk_at "rd"
    refine r_lenL (sqL wt2.hm) ?_
    walk_at "rd"
    refine ⟨bx, hp, (xs.length : Nat), rfl, (D1.trans D2).st, by omega, by omega, fun d3 H3 d30 d31 D3 => ?_⟩
    obtain ⟨d3, rfl⟩ : ∃ y : Nat, d3 = (y : Nat) := ⟨d3.toNat, by omega⟩
    have D03 := (D1.trans D2).trans D3
    have wt3 := wt.dr bs D03 nt
    have t3 := dr2_tk (D1.trans D2).st D3
    have hve3 := imm t3 hve2
    have hl3 := imm t3 hl2
    have s13 := imm t3 s1
    have s23 := imm t3 s2
    obtain ⟨xo, vo, oxo, _, hvo, svo⟩ := wt3.at_ (j := d3) (by omega)
    clear hl hl1 hl2 hve hve2 s1 s2 hwz wt2 t2 t3
    walk_at "rd"
    refine r_ixL (sqL wt3.hm) (atI_nat hvo) ?_
    obtain ⟨ws, hws, br⟩ := wt3.wr
    have wsl := br.len
    walk_at "rd"
    refine r_lenT (sqT hws) ?_
    walk_at "rd"
    refine r_small nsz fun cp1 cn1 => ?_
    obtain ⟨cH1, ck1, ce1, sf⟩ := nS (a := ((ws.length : Nat) : Int)) (b := 0) (i := ws.length) (j := 0) cn1 rfl rfl
    rw [← ck1]
    walk_at "rd"
    refine r_small nsz fun cp2 cn2 => ?_
    obtain ⟨cH2, ck2, ce2, sw⟩ := nS (a := 1000000000) (b := 3) (i := 1000000000) (j := 3) cn2 rfl rfl
    rw [← ck2]
    walk_at "rd"
    refine r_small nsz fun cp3 cn3 => ?_
    obtain ⟨cH3, ck3, ce3, f1⟩ := nT (R := SpV) (l := []) cn3 .nil
    rw [← ck3]
    walk_at "rd"
    refine r_slTo (imm (.ex ((ce1.trans ce2).trans ce3)) hve3) fun cw4 cH4 ce4 f2a => ?_
    walk_at "rd"
    rw [show ((d2 : Nat) : Int) + 1 = ((d2 + 1 : Nat) : Int) from rfl]
    refine r_slFrom (imm (.ex (((ce1.trans ce2).trans ce3).trans ce4)) hve3) fun cw5 cH5 ce5 f2b => ?_
    walk_at "rd"
    refine r_catTV (imm (.ex ce5) f2a) f2b (by rw [List.length_take, List.length_drop]; omega) fun cw6 cH6 ce6 f2 => ?_
    walk_at "rd"
    rw [show ((d2 : Nat) : Int) + 1 = ((d2 + 1 : Nat) : Int) from rfl]
    refine r_slTo (imm (.ex (((((ce1.trans ce2).trans ce3).trans ce4).trans ce5).trans ce6)) hve3) fun cw7 cH7 ce7 f3 => ?_
    walk_at "rd"
    refine r_slFrom (imm (.ex ((((((ce1.trans ce2).trans ce3).trans ce4).trans ce5).trans ce6).trans ce7)) hve3) fun cw8 cH8 ce8 f4 => ?_
    obtain ⟨ez, hez⟩ : ∃ ez, e[e.length - 1]? = some ez := ⟨_, List.getElem?_eq_getElem (by omega)⟩
    walk_at "rd"
    refine r_ixTm (imm (.ex (((((((ce1.trans ce2).trans ce3).trans ce4).trans ce5).trans ce6).trans ce7).trans ce8)) hve3) hez fun wl hwl => ?_
    walk_at "rd"
    refine r_small nsz fun cp9 cn9 => ?_
    obtain ⟨cH9, ck9, ce9, f5a⟩ := nT (R := SpV) (l := [ez]) cn9 (.cons hwl .nil)
    rw [← ck9]
    walk_at "rd"
    refine r_catTV (imm (.ex ((((((((ce1.trans ce2).trans ce3).trans ce4).trans ce5).trans ce6).trans ce7).trans ce8).trans ce9)) hve3) f5a (by simp; omega) fun cw10 cH10 ce10 f5 => ?_
    walk_at "rd"
    refine r_slTo (imm (.ex (((((((((ce1.trans ce2).trans ce3).trans ce4).trans ce5).trans ce6).trans ce7).trans ce8).trans ce9).trans ce10)) hve3) fun cw11 cH11 ce11 f6a => ?_
    walk_at "rd"
    refine r_small nsz fun cp12 cn12 => ?_
    obtain ⟨cH12, ck12, ce12, f6b⟩ := nP (R := SgV) (S := SgV) (x := z.1) (y := z.1) cn12 (imm (.ex ((((((((((ce1.trans ce2).trans ce3).trans ce4).trans ce5).trans ce6).trans ce7).trans ce8).trans ce9).trans ce10).trans ce11)) s13) (imm (.ex ((((((((((ce1.trans ce2).trans ce3).trans ce4).trans ce5).trans ce6).trans ce7).trans ce8).trans ce9).trans ce10).trans ce11)) s13)
    rw [← ck12]
    walk_at "rd"
    refine r_small nsz fun cp13 cn13 => ?_
    obtain ⟨cH13, ck13, ce13, f6c⟩ := nT (R := SpV) (l := [(z.1, z.1)]) cn13 (.cons f6b .nil)
    rw [← ck13]
    walk_at "rd"
    refine r_catTV (imm (.ex (ce12.trans ce13)) f6a) f6c (by simp; omega) fun cw14 cH14 ce14 f6 => ?_
    walk_at "rd"
    refine r_small nsz fun pE nE => ?_
    obtain ⟨cHE, kE, eE, hE⟩ := nL (.lst [.ref cp3, cw6, cw7, cw8, cw10, cw14]) nE
    rw [← kE]
    obtain ⟨enl, hen⟩ : ∃ l : List (List Pr), l = [[], e.take d2 ++ e.drop (d2 + 1), e.take (d2 + 1), e.drop d2, e ++ [ez], e.take d2 ++ [(z.1, z.1)]] := ⟨_, rfl⟩
    have hEV : P2 (EnV cHE) [.ref cp3, cw6, cw7, cw8, cw10, cw14] enl := by
      rw [hen]
      exact .cons (imm (.ex (((((((((((ce4.trans ce5).trans ce6).trans ce7).trans ce8).trans ce9).trans ce10).trans ce11).trans ce12).trans ce13).trans ce14).trans eE)) f1) (.cons (imm (.ex ((((((((ce7.trans ce8).trans ce9).trans ce10).trans ce11).trans ce12).trans ce13).trans ce14).trans eE)) f2) (.cons (imm (.ex (((((((ce8.trans ce9).trans ce10).trans ce11).trans ce12).trans ce13).trans ce14).trans eE)) f3) (.cons (imm (.ex ((((((ce9.trans ce10).trans ce11).trans ce12).trans ce13).trans ce14).trans eE)) f4) (.cons (imm (.ex ((((ce11.trans ce12).trans ce13).trans ce14).trans eE)) f5) (.cons (imm (.ex eE) f6) .nil)))))
    have enl6 : enl.length = 6 := by rw [hen]; rfl
    have enls : ∀ a ∈ enl, a.length ≤ 400 := by
      rw [hen]
      intro a ha
      simp only [List.mem_cons, List.not_mem_nil, or_false] at ha
      rcases ha with rfl | rfl | rfl | rfl | rfl | rfl <;> simp <;> omega
    clear hen
    have xE := (((((((((((((ce1.trans ce2).trans ce3).trans ce4).trans ce5).trans ce6).trans ce7).trans ce8).trans ce9).trans ce10).trans ce11).trans ce12).trans ce13).trans ce14).trans eE
    have nE3 : H3 pE = none := (((((((((((((ce1.trans ce2).trans ce3).trans ce4).trans ce5).trans ce6).trans ce7).trans ce8).trans ce9).trans ce10).trans ce11).trans ce12).trans ce13).trans ce14).free nE
    have t1 := (imm (.ex ((((((((((((((ce1.trans ce2).trans ce3).trans ce4).trans ce5).trans ce6).trans ce7).trans ce8).trans ce9).trans ce10).trans ce11).trans ce12).trans ce13).trans ce14).trans eE)) s13)
    have t2 := (imm (.ex ((((((((((((((ce1.trans ce2).trans ce3).trans ce4).trans ce5).trans ce6).trans ce7).trans ce8).trans ce9).trans ce10).trans ce11).trans ce12).trans ce13).trans ce14).trans eE)) s23)
    have to_ := (imm (.ex ((((((((((((((ce1.trans ce2).trans ce3).trans ce4).trans ce5).trans ce6).trans ce7).trans ce8).trans ce9).trans ce10).trans ce11).trans ce12).trans ce13).trans ce14).trans eE)) svo)
    have tf := (imm (.ex (((((((((((((ce2.trans ce3).trans ce4).trans ce5).trans ce6).trans ce7).trans ce8).trans ce9).trans ce10).trans ce11).trans ce12).trans ce13).trans ce14).trans eE)) sf)
    have tw := (imm (.ex ((((((((((((ce3.trans ce4).trans ce5).trans ce6).trans ce7).trans ce8).trans ce9).trans ce10).trans ce11).trans ce12).trans ce13).trans ce14).trans eE)) sw)
    have te := (imm (.ex ((((((((((((((ce1.trans ce2).trans ce3).trans ce4).trans ce5).trans ce6).trans ce7).trans ce8).trans ce9).trans ce10).trans ce11).trans ce12).trans ce13).trans ce14).trans eE)) hve3)
    have tl_ := (imm (.ex ((((((((((((((ce1.trans ce2).trans ce3).trans ce4).trans ce5).trans ce6).trans ce7).trans ce8).trans ce9).trans ce10).trans ce11).trans ce12).trans ce13).trans ce14).trans eE)) hl3)
    have wsE := xE _ _ hws
    have brE := br.up xE
    clear f1 f2 f3 f4 f5 f6
    walk_at "rd"
    refine r_small nsz fun dp1 dn1 => ?_
    obtain ⟨dH1, dk1, de1, g1⟩ := nP (R := SgV) (S := SgV) (x := z.2) (y := z.1) dn1 t2 t1
    rw [← dk1]
    walk_at "rd"
    refine r_small nsz fun dp2 dn2 => ?_
    obtain ⟨dH2, dk2, de2, g2⟩ := nP (R := SgV) (S := SgV) (x := xo) (y := z.2) dn2 (imm (.ex de1) to_) (imm (.ex de1) t2)
    rw [← dk2]
    walk_at "rd"
    refine r_small nsz fun dp3 dn3 => ?_
    obtain ⟨dH3, dk3, de3, g3⟩ := nP (R := SgV) (S := SgV) (x := z.1) (y := xo) dn3 (imm (.ex (de1.trans de2)) t1) (imm (.ex (de1.trans de2)) to_)
    rw [← dk3]
    walk_at "rd"
    refine r_small nsz fun dp4 dn4 => ?_
    obtain ⟨dH4, dk4, de4, g4⟩ := nP (R := SgV) (S := SgV) (x := z.1) (y := (ws.length, 0)) dn4 (imm (.ex ((de1.trans de2).trans de3)) t1) (imm (.ex ((de1.trans de2).trans de3)) tf)
    rw [← dk4]
    walk_at "rd"
    refine r_small nsz fun dp5 dn5 => ?_
    obtain ⟨dH5, dk5, de5, g5⟩ := nP (R := SgV) (S := SgV) (x := (1000000000, 3)) (y := z.2) dn5 (imm (.ex (((de1.trans de2).trans de3).trans de4)) tw) (imm (.ex (((de1.trans de2).trans de3).trans de4)) t2)
    rw [← dk5]
    walk_at "rd"
    refine r_ixS0 (imm (.ex ((((de1.trans de2).trans de3).trans de4).trans de5)) t2) ?_
    walk_at "rd"
    refine r_ixS1 (imm (.ex ((((de1.trans de2).trans de3).trans de4).trans de5)) t2) ?_
    walk_at "rd"
    refine r_small nsz fun dp6 dn6 => ?_
    obtain ⟨dH6, dk6, de6, g6a⟩ := nS (a := ((z.2.1 : Nat) : Int)) (b := ((z.2.2 : Nat) : Int) + 1) (i := z.2.1) (j := z.2.2 + 1) dn6 rfl rfl
    rw [← dk6]
    walk_at "rd"
    refine r_small nsz fun dp7 dn7 => ?_
    obtain ⟨dH7, dk7, de7, g6⟩ := nP (R := SgV) (S := SgV) (x := z.1) (y := (z.2.1, z.2.2 + 1)) dn7 (imm (.ex (((((de1.trans de2).trans de3).trans de4).trans de5).trans de6)) t1) g6a
    rw [← dk7]
    walk_at "rd"
    refine r_small nsz fun dp8 dn8 => ?_
    obtain ⟨dH8, dk8, de8, g7a⟩ := nS (a := 0) (b := 0) (i := 0) (j := 0) dn8 rfl rfl
    rw [← dk8]
    walk_at "rd"
    refine r_small nsz fun dp9 dn9 => ?_
    obtain ⟨dH9, dk9, de9, g7b⟩ := nS (a := 0) (b := 1) (i := 0) (j := 1) dn9 rfl rfl
    rw [← dk9]
    walk_at "rd"
    refine r_small nsz fun dp10 dn10 => ?_
    obtain ⟨dH10, dk10, de10, g7⟩ := nP (R := SgV) (S := SgV) (x := (0, 0)) (y := (0, 1)) dn10 (imm (.ex de9) g7a) g7b
    rw [← dk10]
    walk_at "rd"
    refine r_small nsz fun dp11 dn11 => ?_
    obtain ⟨dH11, dk11, de11, g8⟩ := nP (R := SgV) (S := SgV) (x := xo) (y := xo) dn11 (imm (.ex (((((((((de1.trans de2).trans de3).trans de4).trans de5).trans de6).trans de7).trans de8).trans de9).trans de10)) to_) (imm (.ex (((((((((de1.trans de2).trans de3).trans de4).trans de5).trans de6).trans de7).trans de8).trans de9).trans de10)) to_)
    rw [← dk11]
    walk_at "rd"
    refine r_small nsz fun pP nPP => ?_
    obtain ⟨dHP, kP, eP, hPP⟩ := nL (.lst [.ref dp1, .ref dp2, .ref dp3, .ref dp4, .ref dp5, .ref dp7, .ref dp10, .ref dp11]) nPP
    rw [← kP]
    obtain ⟨pvl, hpv⟩ : ∃ l : List V, l = [.ref dp1, .ref dp2, .ref dp3, .ref dp4, .ref dp5, .ref dp7, .ref dp10, .ref dp11] := ⟨_, rfl⟩
    obtain ⟨prl, hpr⟩ : ∃ l : List Pr, l = [(z.2, z.1), (xo, z.2), (z.1, xo), (z.1, (ws.length, 0)), ((1000000000, 3), z.2), (z.1, (z.2.1, z.2.2 + 1)), ((0, 0), (0, 1)), (xo, xo)] := ⟨_, rfl⟩
    have hPV : P2 (SpV dHP) pvl prl := by
      rw [hpr, hpv]
      exact .cons (imm (.ex ((((((((((de2.trans de3).trans de4).trans de5).trans de6).trans de7).trans de8).trans de9).trans de10).trans de11).trans eP)) g1) (.cons (imm (.ex (((((((((de3.trans de4).trans de5).trans de6).trans de7).trans de8).trans de9).trans de10).trans de11).trans eP)) g2) (.cons (imm (.ex ((((((((de4.trans de5).trans de6).trans de7).trans de8).trans de9).trans de10).trans de11).trans eP)) g3) (.cons (imm (.ex (((((((de5.trans de6).trans de7).trans de8).trans de9).trans de10).trans de11).trans eP)) g4) (.cons (imm (.ex ((((((de6.trans de7).trans de8).trans de9).trans de10).trans de11).trans eP)) g5) (.cons (imm (.ex ((((de8.trans de9).trans de10).trans de11).trans eP)) g6) (.cons (imm (.ex (de11.trans eP)) g7) (.cons (imm (.ex eP) g8) .nil)))))))
    have prl8 : prl.length = 8 := by rw [hpr]; rfl
    have hPP2 : dHP pP = some (.lst pvl) := by rw [hpv]; exact hPP
    have xP := ((((((((((de1.trans de2).trans de3).trans de4).trans de5).trans de6).trans de7).trans de8).trans de9).trans de10).trans de11).trans eP
    clear hpr kP g1 g2 g3 g4 g5 g6 g7 g8
    -- the loop over the eight
    have nP3 : H3 pE = none := nE3
    have pEb := D03.st.nb nE3
    have pEh := D03.st.nh nE3
    have hEP := xP _ _ hE
    have hEVP := p2_imm (.ex xP) hEV
    have x3P := xE.trans xP
    have pne : pE ≠ pP := fun y => by rw [← y] at nPP; exact absurd (((((((((((de1.trans de2).trans de3).trans de4).trans de5).trans de6).trans de7).trans de8).trans de9).trans de10).trans de11) _ _ hE) (by rw [nPP]; exact fun y => by cases y)
    walk_at "rd"
    refine l_L (sqL hPP2) (fun i σ H' => ∃ y13 y14 y15 es el, σ = [some (.ref bx), some (.ref b), some (.ref mk), some lf, some (.int (d1 : Nat)), some ve, some (.int (d2 : Nat)), some x1, some x2, some vo, some (.ref cp1), some (.ref cp2), some (.ref pE), y13, y14, y15] ∧ Ex H3 H' ∧ Tk dHP H' ∧ H' pP = some (.lst pvl) ∧ H' pE = some (.lst es) ∧ P2 (EnV H') es el ∧ (∀ a ∈ el, a.length ≤ 400) ∧ el.length = 6 + i)
      ⟨none, none, none, _, enl, rfl, x3P, .refl _, hPP2, hEP, hEVP, enls, enl6⟩ (fun i σ H' hW => ?_) (fun i v σ H' hv hW => ?_) (fun σ H' hW => ?_)
    · obtain ⟨_, _, _, _, _, _, _, _, hm', _⟩ := hW
      exact sqL hm'
    · obtain ⟨y13, y14, y15, es, el, rfl, x', t', hP', hE', hEl', els', ell⟩ := hW
      obtain ⟨pr, hpr, spr⟩ := hPV.get hv
      have il := (List.getElem?_eq_some_iff.mp hv).1
      rw [hPV.len, prl8] at il
      have spr' := imm t' spr
      have esl := hEl'.len
      have te' := imm t' (imm (.ex xP) te)
      walk_at "rd"
      refine r_tyL (sqL hE') ?_
      walk_at "rd"
      refine r_slTo te' fun u1 I1 i1 k1 => ?_
      walk_at "rd"
      refine r_small nsz fun q2 m2 => ?_
      obtain ⟨I2, j2, i2, k2⟩ := nT (R := SpV) (l := [pr]) m2 (.cons (imm (.ex i1) spr') .nil)
      rw [← j2]
      walk_at "rd"
      refine r_catTV (imm (.ex i2) k1) k2 (by simp; omega) fun u3 I3 i3 k3 => ?_
      walk_at "rd"
      rw [show ((d2 : Nat) : Int) + 1 = ((d2 + 1 : Nat) : Int) from rfl]
      have i03 := (i1.trans i2).trans i3
      refine r_slFrom (imm (.ex i03) te') fun u4 I4 i4 k4 => ?_
      walk_at "rd"
      refine r_catTV (imm (.ex i4) k3) k4 (by simp; omega) fun u5 I5 i5 k5 => ?_
      have i05 := (i03.trans i4).trans i5
      have hE5 := i05 _ _ hE'
      walk_at "rd"
      refine r_app hE5 (Nat.lt_of_le_of_lt (show es.length ≤ 1000 by omega) (by decide)) ?_
      have tp := Tk.put (o := .lst (es ++ [u5])) hE5
      have t5 := (Tk.ex i05).trans tp
      refine ⟨_, _, _, es ++ [u5], el ++ [e.take d2 ++ [pr] ++ e.drop (d2 + 1)], rfl, Same.mut (x'.trans i05) nE3, t'.trans t5, by rw [upd_ne pne.symm]; exact i05 _ _ hP', upd_same, (p2_imm t5 hEl').snoc (imm tp k5), fun a ha => ?_, by rw [List.length_append, List.length_singleton]; omega⟩
      rcases List.mem_append.mp ha with ha | ha
      · exact els' a ha
      · rw [List.mem_singleton.mp ha]
        simp
        omega
    obtain ⟨y13, y14, y15, es, el, rfl, x', t', _, hE', hEl', els', ell⟩ := hW
    rw [hPV.len, prl8] at ell
    have pEH : H pE = none := D03.fresh nE3
    have D' := D03.then x'
    have esl := hEl'.len
    have tW : Tk H3 H' := (Tk.ex x3P).trans t'
    have te2 := imm ((Tk.ex xP).trans t') te
    have tl2 := imm ((Tk.ex xP).trans t') tl_
    have t12 := imm ((Tk.ex xP).trans t') t1
    have t22 := imm ((Tk.ex xP).trans t') t2
    have wsE2 := tW _ _ hws
    obtain ⟨bw, hbw⟩ : ∃ bv, ws[z.2.1]? = some bv := ⟨_, List.getElem?_eq_getElem (by rw [wsl]; exact okz.2.1)⟩
    obtain ⟨bv, hbv⟩ : ∃ bv, ws[z.1.1]? = some bv := ⟨_, List.getElem?_eq_getElem (by rw [wsl]; exact okz.1.1)⟩
    obtain ⟨qw, whw, lw, rw_, txw, rfl, hqw, hLw, hRw, _⟩ := BtV.tk tW (br.at_ _ _ hbw)
    obtain ⟨qv, whv, lv, rv_, txv, rfl, hqv, hLv, hRv, _⟩ := BtV.tk tW (br.at_ _ _ hbv)
    clear hPP2 hEP hEVP t1 t2 te tl_ hPV nPP hE hEV
    walk_at "rd"
    refine r_ixS0 t22 ?_
    walk_at "rd"
    refine r_ixT (sqT wsE2) (atI_nat hbw) ?_
    walk_at "rd"
    refine r_ixT (sqT hqw) (atI_nat (j := 2) rfl) ?_
    walk_at "rd"
    refine r_small nsz fun gp1 gn1 => ?_
    obtain ⟨gH1, gk1, ge1, m1⟩ := nP (R := SgV) (S := SgV) (x := z.1) (y := R z.2.1) gn1 t12 hRw
    rw [← gk1]
    walk_at "rd"
    refine r_ixS0 (imm (.ex ge1) t12) ?_
    walk_at "rd"
    refine r_ixT (sqT (ge1 _ _ wsE2)) (atI_nat hbv) ?_
    walk_at "rd"
    refine r_ixT (sqT (ge1 _ _ hqv)) (atI_nat (j := 1) rfl) ?_
    walk_at "rd"
    refine r_small nsz fun gp2 gn2 => ?_
    obtain ⟨gH2, gk2, ge2, m2⟩ := nP (R := SgV) (S := SgV) (x := L z.1.1) (y := z.2) gn2 (imm (.ex ge1) hLv) (imm (.ex ge1) t22)
    rw [← gk2]
    walk_at "rd"
    refine r_ixS0 (imm (.ex (ge1.trans ge2)) t22) ?_
    walk_at "rd"
    refine r_ixT (sqT ((ge1.trans ge2) _ _ wsE2)) (atI_nat hbw) ?_
    walk_at "rd"
    refine r_ixT (sqT ((ge1.trans ge2) _ _ hqw)) (atI_nat (j := 1) rfl) ?_
    walk_at "rd"
    refine r_small nsz fun gp3 gn3 => ?_
    obtain ⟨gH3, gk3, ge3, m3⟩ := nP (R := SgV) (S := SgV) (x := z.1) (y := L z.2.1) gn3 (imm (.ex (ge1.trans ge2)) t12) (imm (.ex (ge1.trans ge2)) hLw)
    rw [← gk3]
    walk_at "rd"
    refine r_ixS0 (imm (.ex ((ge1.trans ge2).trans ge3)) t12) ?_
    walk_at "rd"
    refine r_ixT (sqT (((ge1.trans ge2).trans ge3) _ _ wsE2)) (atI_nat hbv) ?_
    walk_at "rd"
    refine r_ixT (sqT (((ge1.trans ge2).trans ge3) _ _ hqv)) (atI_nat (j := 2) rfl) ?_
    walk_at "rd"
    refine r_small nsz fun gp4 gn4 => ?_
    obtain ⟨gH4, gk4, ge4, m4⟩ := nP (R := SgV) (S := SgV) (x := R z.1.1) (y := z.2) gn4 (imm (.ex ((ge1.trans ge2).trans ge3)) hRv) (imm (.ex ((ge1.trans ge2).trans ge3)) t22)
    rw [← gk4]
    walk_at "rd"
    refine r_small nsz fun pS nSS => ?_
    obtain ⟨gHS, kS, eS, hSS⟩ := nL (.lst [.ref gp1, .ref gp2, .ref gp3, .ref gp4]) nSS
    rw [← kS]
    obtain ⟨pvs, hpvs⟩ : ∃ l : List V, l = [.ref gp1, .ref gp2, .ref gp3, .ref gp4] := ⟨_, rfl⟩
    obtain ⟨prs, hprs⟩ : ∃ l : List Pr, l = [(z.1, R z.2.1), (L z.1.1, z.2), (z.1, L z.2.1), (R z.1.1, z.2)] := ⟨_, rfl⟩
    have hSV : P2 (SpV gHS) pvs prs := by
      rw [hprs, hpvs]
      exact .cons (imm (.ex (((ge2.trans ge3).trans ge4).trans eS)) m1) (.cons (imm (.ex ((ge3.trans ge4).trans eS)) m2) (.cons (imm (.ex (ge4.trans eS)) m3) (.cons (imm (.ex eS) m4) .nil)))
    have prs4 : prs.length = 4 := by rw [hprs]; rfl
    have hSS2 : gHS pS = some (.lst pvs) := by rw [hpvs]; exact hSS
    have xS := (((ge1.trans ge2).trans ge3).trans ge4).trans eS
    clear hprs m1 m2 m3 m4 kS
    have x3S := x'.trans xS
    have hES := xS _ _ hE'
    have pneS : pE ≠ pS := fun y => by rw [← y] at nSS; exact absurd ((((ge1.trans ge2).trans ge3).trans ge4) _ _ hE') (by rw [nSS]; exact fun y => by cases y)
    walk_at "rd"
    refine l_L (sqL hSS2) (fun i σ H2 => ∃ y13 y14 y15 es el, σ = [some (.ref bx), some (.ref b), some (.ref mk), some lf, some (.int (d1 : Nat)), some ve, some (.int (d2 : Nat)), some x1, some x2, some vo, some (.ref cp1), some (.ref cp2), some (.ref pE), y13, y14, y15] ∧ Ex H3 H2 ∧ Tk gHS H2 ∧ H2 pS = some (.lst pvs) ∧ H2 pE = some (.lst es) ∧ P2 (EnV H2) es el ∧ (∀ a ∈ el, a.length ≤ 400) ∧ el.length = 14 + i)
      ⟨y13, y14, y15, es, el, rfl, x3S, .refl _, hSS2, hES, p2_imm (.ex xS) hEl', els', by rw [ell]⟩ (fun i σ H2 hW => ?_) (fun i v σ H2 hv hW => ?_) (fun σ H2 hW => ?_)
    · obtain ⟨_, _, _, _, _, _, _, _, hm', _⟩ := hW
      exact sqL hm'
    · obtain ⟨y13, y14, y15, es, el, rfl, x4, t4, hP4, hE4, hEl4, els4, ell4⟩ := hW
      obtain ⟨pr, hpr, spr⟩ := hSV.get hv
      have il := (List.getElem?_eq_some_iff.mp hv).1
      rw [hSV.len, prs4] at il
      have spr' := imm t4 spr
      have esl4 := hEl4.len
      have te' := imm t4 (imm (.ex xS) te2)
      walk_at "rd"
      refine r_tyL (sqL hE4) ?_
      walk_at "rd"
      rw [show ((d2 : Nat) : Int) + 1 = ((d2 + 1 : Nat) : Int) from rfl]
      refine r_slTo te' fun u1 I1 i1 k1 => ?_
      walk_at "rd"
      refine r_small nsz fun q2 m2 => ?_
      obtain ⟨I2, j2, i2, k2⟩ := nT (R := SpV) (l := [pr]) m2 (.cons (imm (.ex i1) spr') .nil)
      rw [← j2]
      walk_at "rd"
      refine r_catTV (imm (.ex i2) k1) k2 (by simp; omega) fun u3 I3 i3 k3 => ?_
      have i03 := (i1.trans i2).trans i3
      have hE5 := i03 _ _ hE4
      walk_at "rd"
      refine r_app hE5 (Nat.lt_of_le_of_lt (show es.length ≤ 1000 by omega) (by decide)) ?_
      have tp := Tk.put (o := .lst (es ++ [u3])) hE5
      have t5 := (Tk.ex i03).trans tp
      refine ⟨_, _, _, es ++ [u3], el ++ [e.take (d2 + 1) ++ [pr]], rfl, Same.mut (x4.trans i03) nE3, t4.trans t5, by rw [upd_ne pneS.symm]; exact i03 _ _ hP4, upd_same, (p2_imm t5 hEl4).snoc (imm tp k3), fun a ha => ?_, by rw [List.length_append, List.length_singleton]; omega⟩
      rcases List.mem_append.mp ha with ha | ha
      · exact els4 a ha
      · rw [List.mem_singleton.mp ha]
        simp
        omega
    obtain ⟨y13, y14, y15, es2, el2, rfl, x4, t4, _, hE4, hEl4, els4, ell4⟩ := hW
    rw [hSV.len, prs4] at ell4
    have esl4 := hEl4.len
    have tl4 := imm t4 (imm (.ex xS) tl2)
    have te4 := imm t4 (imm (.ex xS) te2)
    walk_at "rd"
    refine l_lcL (sqL hE4) (fun D i J => ∃ acc lls, Ex H2 J ∧ J D = some (.lst acc) ∧ P2 (LfV J) acc lls ∧ lls.length = i ∧ ∀ ll ∈ lls, ll.length ≤ 30 ∧ ∀ a ∈ ll, a.length ≤ 400) (fun D hD => ⟨[], [], Same.new (Same.refl H2) hD, upd_same, .nil, rfl, fun ll h => absurd h List.not_mem_nil⟩) (fun D i J hW => ?_) (fun D i x J hD hx hW => ?_) (fun pr J hD hW => ?_)
    · obtain ⟨_, _, xj, _⟩ := hW
      exact sqL (xj _ _ hE4)
    · obtain ⟨acc, lls, xj, hA, hP, hll, hb⟩ := hW
      obtain ⟨en, hen, sen⟩ := hEl4.get hx
      have il := (List.getElem?_eq_some_iff.mp hx).1
      have al := hP.len
      walk_at "rd"
      refine ⟨rfl, ?_⟩
      walk_at "rd"
      refine r_slTo (imm (.ex xj) tl4) fun u1 I1 i1 k1 => ?_
      walk_at "rd"
      refine r_small nsz fun q2 m2 => ?_
      obtain ⟨I2, j2, i2, k2⟩ := nT (R := EnV) (l := [en]) m2 (.cons (imm (.ex (xj.trans i1)) sen) .nil)
      rw [← j2]
      walk_at "rd"
      refine r_catTV (imm (.ex i2) k1) k2 (by simp; omega) fun u3 I3 i3 k3 => ?_
      have i03 := (i1.trans i2).trans i3
      walk_at "rd"
      rw [show ((d1 : Nat) : Int) + 1 = ((d1 + 1 : Nat) : Int) from rfl]
      refine r_slFrom (imm (.ex (xj.trans i03)) tl4) fun u4 I4 i4 k4 => ?_
      walk_at "rd"
      refine r_catTV (imm (.ex i4) k3) k4 (by simp; omega) fun u5 I5 i5 k5 => ?_
      have i05 := (i03.trans i4).trans i5
      have hA5 := i05 _ _ hA
      have tp := Tk.put (o := .lst (acc ++ [u5])) hA5
      refine ⟨acc, hA5, Nat.lt_of_le_of_lt (show acc.length ≤ 1000 by omega) (by decide), acc ++ [u5], lls ++ [leaf.take d1 ++ [en] ++ leaf.drop (d1 + 1)], Same.mut (xj.trans i05) hD, upd_same, (p2_imm ((Tk.ex i05).trans tp) hP).snoc (imm tp k5), by rw [List.length_append, List.length_singleton, hll], fun ll hl => ?_⟩
      rcases List.mem_append.mp hl with hl | hl
      · exact hb ll hl
      · rw [List.mem_singleton.mp hl]
        refine ⟨by simp; omega, fun a ha => ?_⟩
        rcases List.mem_append.mp ha with ha | ha
        · rcases List.mem_append.mp ha with ha | ha
          · have := (hok a (List.mem_of_mem_take ha)).2.1
            omega
          · rw [List.mem_singleton.mp ha]
            exact els4 en (List.mem_of_getElem? hen)
        · have := (hok a (List.mem_of_mem_drop ha)).2.1
          omega
    obtain ⟨acc, lls, xj, hA, hP, hll, hb⟩ := hW
    have al := hP.len
    have tlj := imm (.ex xj) tl4
    have tej := imm (.ex xj) te4
    have xJ := x4.trans xj
    have prH : H pr = none := D03.fresh (x4.free hD)
    walk_at "rd"
    refine r_slTo tlj fun qw1 qH1 qe1 r1 => ?_
    walk_at "rd"
    rw [show ((d1 : Nat) : Int) + 1 = ((d1 + 1 : Nat) : Int) from rfl]
    refine r_slFrom (imm (.ex qe1) tlj) fun qw2 qH2 qe2 r2 => ?_
    walk_at "rd"
    refine r_small nsz fun qp3 qn3 => ?_
    obtain ⟨qH3, qk3, qe3, r3a⟩ := nT (R := EnV) (l := [e]) qn3 (.cons (imm (.ex (qe1.trans qe2)) tej) .nil)
    rw [← qk3]
    walk_at "rd"
    refine r_catTV (imm (.ex ((qe1.trans qe2).trans qe3)) tlj) r3a (by simp; omega) fun qw4 qH4 qe4 r3 => ?_
    walk_at "rd"
    refine r_revT ?_
    walk_at "rd"
    obtain ⟨lp, lxs, rfl, hlp, hlP⟩ := (imm (.ex (((qe1.trans qe2).trans qe3).trans qe4)) tlj)
    refine ⟨lp, lxs, rfl, sqT hlp, fun pv nv => ?_⟩
    obtain ⟨qH5, qkv, qe5, r4⟩ := nT (R := EnV) (l := leaf.reverse) nv (p2_rev hlP)
    rw [← qkv]
    walk_at "rd"
    refine r_small nsz fun qp6 qn6 => ?_
    obtain ⟨qH6, qk6, qe6, r5⟩ := nT (R := EnV) (l := []) qn6 .nil
    rw [← qk6]
    walk_at "rd"
    refine r_small nsz fun pF nF => ?_
    obtain ⟨qHF, kF, eF, hF⟩ := nL (.lst [qw1, qw2, qw4, .ref pv, .ref qp6]) nF
    rw [← kF]
    have xF := (((((qe1.trans qe2).trans qe3).trans qe4).trans qe5).trans qe6).trans eF
    have hFV : P2 (LfV qHF) [qw1, qw2, qw4, .ref pv, .ref qp6] [leaf.take d1, leaf.drop (d1 + 1), leaf ++ [e], leaf.reverse, []] := .cons (imm (.ex (((((qe2.trans qe3).trans qe4).trans qe5).trans qe6).trans eF)) r1) (.cons (imm (.ex ((((qe3.trans qe4).trans qe5).trans qe6).trans eF)) r2) (.cons (imm (.ex ((qe5.trans qe6).trans eF)) r3) (.cons (imm (.ex (qe6.trans eF)) r4) (.cons (imm (.ex eF) r5) .nil))))
    walk_at "rd"
    refine r_addL (xF _ _ hA) hF (by rw [al]; exact Nat.le_of_lt (Nat.lt_of_le_of_lt (show lls.length + 5 ≤ 1000 by omega) (by decide))) fun pG nG => ?_
    have eG := Same.new (o := .lst (acc ++ [qw1, qw2, qw4, .ref pv, .ref qp6])) (Same.refl qHF) nG
    have xG := (xJ.trans xF).trans eG
    have leafs : ∀ a ∈ leaf, a.length ≤ 400 := fun a ha => by have := (hok a ha).2.1; omega
    refine q pG _ _ (lls ++ [leaf.take d1, leaf.drop (d1 + 1), leaf ++ [e], leaf.reverse, []]) (D03.then xG) (D03.fresh ((xJ.trans xF).free nG)) upd_same ((p2_imm (.ex (xF.trans eG)) hP).app (p2_imm (.ex eG) hFV)) (by rw [List.length_append, hll, hEl4.len, ell4]; simp) fun ll hl => ?_
    rcases List.mem_append.mp hl with hl | hl
    · exact hb ll hl
    · simp only [List.mem_cons, List.not_mem_nil, or_false] at hl
      rcases hl with rfl | rfl | rfl | rfl | rfl
      · exact ⟨by simp; omega, fun a ha => leafs a (List.mem_of_mem_take ha)⟩
      · exact ⟨by simp; omega, fun a ha => leafs a (List.mem_of_mem_drop ha)⟩
      · refine ⟨by simp; omega, fun a ha => ?_⟩
        rcases List.mem_append.mp ha with ha | ha
        · exact leafs a ha
        · rw [List.mem_singleton.mp ha]; omega
      · exact ⟨by simp; omega, fun a ha => leafs a (List.mem_reverse.mp ha)⟩
      · exact ⟨by simp, fun a ha => absurd ha List.not_mem_nil⟩
end
end K26
namespace K26
open PySem PySem.Spec PyProof.Rows L2 Dk Tl
/-- one step of a reading -/
local macro_rules | `(tactic| walk_at "rd1") => `(tactic| first
  | ((with_reducible refine r_var (v := ?rv) ?rh ?_); (case rh => rfl))
  | with_reducible refine r_c ?_
  | with_reducible refine r_seq ?_
  | with_reducible refine r_asg ?_
  | with_reducible refine r_par ?_
  | with_reducible refine r_gname ?_
  | with_reducible refine r_op ?_
  | with_reducible refine r_forLo ?_
  | with_reducible refine r_forTo ?_
  | with_reducible refine r_forSo ?_
  | with_reducible refine r_forRo ?_
  | with_reducible refine r_forRvo ?_
  | with_reducible refine r_forZo ?_
  | with_reducible refine r_revS ?_
  | with_reducible refine r_lcRo ?_
  | with_reducible refine r_lcLo ?_
  | with_reducible refine r_yes ?_
  | with_reducible refine r_callK0 ?_
  | with_reducible refine r_break ?_
  | with_reducible refine r_forR2o ?_
  | with_reducible refine r_forEo ?_
  | with_reducible refine r_forESo ?_
  | with_reducible refine r_xfo ?_
  | with_reducible refine r_noP ?_
  | with_reducible refine r_part ?_
  | with_reducible refine r_pI ?_
  | with_reducible refine r_gcons ?_
  | with_reducible refine r_gnil ?_
  | with_reducible refine r_mkO ?_
  | with_reducible refine r_un ?_
  | with_reducible refine r_addI ?_
  | with_reducible refine r_I0 ?_
  | with_reducible refine r_U ?_
  | with_reducible refine r_cons ?_
  | with_reducible refine r_nil ?_
  | with_reducible refine r_CB ?_
  | with_reducible refine r_call ?_
  | with_reducible refine r_callS ?_
  | with_reducible refine r_int ?_
  | with_reducible refine r_max ?_
  | with_reducible refine r_min ?_
  | with_reducible refine r_test ?_
  | with_reducible refine r_B ?_
  | with_reducible refine r_blv ?_
  | with_reducible refine r_and ?_
  | with_reducible refine r_or ?_
  | with_reducible refine r_not ?_
  | with_reducible refine r_andV ?_
  | with_reducible refine r_orV ?_
  | with_reducible refine r_notV ?_
  | with_reducible refine r_ifE ?_
  | with_reducible refine r_ifS ?_
  | with_reducible refine r_ret ?_
  | with_reducible refine r_retN ?_
  | with_reducible refine r_drop ?_
  | with_reducible refine r_next ?_
  | with_reducible refine r_sl ?_
  | with_reducible refine r_gsub ?_
  | with_reducible refine r_bm ?_
  | with_reducible refine r_tup ?_
  | with_reducible refine r_lst ?_
  | with_reducible refine r_isN ?_
  | with_reducible refine r_notN ?_
  | with_reducible refine r_itt ?_
  | with_reducible refine r_iff ?_
  | with_reducible refine r_ittN ?_
  | with_reducible refine r_iffN ?_
  | ((with_reducible refine r_ittD ?rh ?_); (case rh => rfl))
  | ((with_reducible refine r_iffD ?rh ?_); (case rh => rfl))
  | ((with_reducible refine r_modP ?rh ?_); (case rh => decide))
  | ((with_reducible refine r_eq ?rh ?_); (case rh => rfl))
  | ((with_reducible refine r_eqP ?rh ?_); (case rh => rfl))
  | ((with_reducible refine r_ne ?rh ?_); (case rh => rfl)))
local macro_rules | `(tactic| walk_at "rd") => `(tactic| repeat walk_at "rd1")
local macro_rules | `(tactic| walk_at "isi") => `(tactic| first | refine r_isi (b := true) (by assumption) (by decide +kernel) ?_ | refine r_isi (b := false) (by assumption) (by decide +kernel) ?_)
local macro_rules | `(tactic| walk_at "rs1") => `(tactic| first
  | with_reducible refine r_seq ?_
  | with_reducible refine r_asg ?_
  | with_reducible refine r_gname ?_
  | with_reducible refine r_ret ?_)
local macro_rules | `(tactic| walk_at "rs") => `(tactic| repeat walk_at "rs1")

section
variable {P : Program} {w : World} {K : PySem.W.Frag} {mg : Str → Option Value} {base : Heap}
theorem Gd.good {L R : Nat → Sg} {sz : Nat → Nat} {n : Nat} (wv : Wv L R sz n) {p : Pr} {e : List Pr} (ok : Ok2 sz n p) (g : Gd L R p e) : 0 < e.length ∧ ∀ z ∈ e, Ok2 sz n z :=
  ⟨g.ne, fun z hz => by
    obtain ⟨k, hk, rfl⟩ := List.mem_iff_getElem.mp hz
    exact g.oks wv ok k _ (List.getElem?_eq_getElem hk)⟩
theorem HP.good {L R : Nat → Sg} {sz : Nat → Nat} {n : Nat} (wv : Wv L R sz n) {row : List Sg} {ll : List (List Pr)} (oks : ∀ x ∈ row, Ok sz n x) (h : HP L R row ll) : ∀ e ∈ ll, 0 < e.length ∧ e.length ≤ 300 ∧ ∀ z ∈ e, Ok2 sz n z := fun e he => by
  obtain ⟨k, hk, ek⟩ := List.mem_iff_getElem.mp he
  have hl := h.len
  have hx : row[k]? = some row[k] := List.getElem?_eq_getElem (by omega)
  have hy : row[k + 1]? = some row[k + 1] := List.getElem?_eq_getElem (by omega)
  obtain ⟨hs, l250⟩ := h.each k _ _ e hx hy (by rw [List.getElem?_eq_getElem hk, ek])
  obtain ⟨g0, g⟩ := Gd.good wv (p := (row[k], row[k + 1])) ⟨oks _ (List.mem_of_getElem? hx), oks _ (List.mem_of_getElem? hy)⟩ ⟨Hps.head hs, Hps.hop hs⟩
  exact ⟨g0, by omega, g⟩
def spHolds : Sp := fun vs H Q _ => ∃ (bx h b mk tb : Addr) (vl : V) (xs : List V) (L R : Nat → Sg) (sz : Nat → Nat) (n : Nat) (U : List Nat) (row : List Sg), vs = [.ref bx, .ref b, .ref mk, .ref tb, vl] ∧ Bx H bx h ∧ Wtb H b mk tb xs L R sz n U ∧ Nt bx h mk tb ∧ TupV SgV H vl row ∧ (∀ x ∈ row, Ok sz n x) ∧ row.length ≤ 10 ∧
  ∀ H', Dr2 bx h H H' → Q (.bl true) H'
set_option maxHeartbeats 16000000 in
theorem ok_law_holds (T : Txt K mg) : FnOk P w K mg base CX0 6 T.a_law_holds T.d_law_holds ["_law_box", "_law_world_here", "_law_marks", "_law_table", "_law_line"] spHolds := by
  refine T.F_law_holds.ok sc_law_holds (fun vs H Q E h => ?_) (fun cdv A outer s H vs Q E hr h => ?_)
  · obtain ⟨bx, h, b, mk, tb, vl, xs, L, R, sz, n, U, row, rfl, _⟩ := h
    rfl
  · obtain ⟨bx, hp, b, mk, tb, vl, xs, L, R, sz, n, U, row, rfl, bs, wt, nt, hrow, oks, r10, q⟩ := h
    refine ⟨_, (pss_cons (ps_set (i := 5) sc_law_holds.nd rfl (Or.inl rfl) (pe_call (ok_chain_paper T) (hr.mono (by decide)) (by rfl) T.g_chain_paper T.F_chain_paper.kp T.b_chain_paper .nil pass0 (pa_cons (pv 1) (pa_cons (pv 4) pa_nil))))
        (pss_cons (ps_set (i := 6) sc_law_holds.nd rfl (Or.inl rfl) (pe_call (ok_law_paper T) (hr.mono (by decide)) (by rfl) T.g_law_paper T.F_law_paper.kp T.b_law_paper .nil pass0 (pa_cons (pv 1) (pa_cons (pv 4) pa_nil))))
        (pss_cons (ps_set (i := 7) sc_law_holds.nd rfl (Or.inl rfl) (pe_call (ok_law_chained T) (hr.mono (by decide)) (by rfl) T.g_law_chained T.F_law_chained.kp T.b_law_chained .nil pass0 (pa_cons (pv 2) (pa_cons (pv 3) (pa_cons (pv 4) pa_nil)))))
        (pss_cons (ps_if (PW.pt (pw_or (pt_not (pt_val (pe_call (ok_law_same T) hr (by rfl) T.g_law_same T.F_law_same.kp T.b_law_same .nil pass0 (pa_cons (pv 5) (pa_cons (pv 6) pa_nil))))) (pw_or1 (pt_not (pt_val (pe_call (ok_law_same T) hr (by rfl) T.g_law_same T.F_law_same.kp T.b_law_same .nil pass0 (pa_cons (pe_call (ok_chain_fits T) (hr.mono (by decide)) (by rfl) T.g_chain_fits T.F_chain_fits.kp T.b_chain_fits .nil pass0 (pa_cons (pv 1) (pa_cons (pv 4) (pa_cons (pv 5) pa_nil)))) (pa_cons (pv 7) pa_nil)))))))) (pss_one (ps_ret pe_bl)) pss_nil)
        (pss_cons (ps_set (i := 8) sc_law_holds.nd rfl (Or.inl rfl) (pe_callTy call_tupU (by rfl) T.n_tuple (by decide +kernel) (pa_cons (pe_lc (own := [("_law_k", 12)]) (g := gName 12) rfl sc_law_holds.nd (pi_range1 (by rfl) T.n_range (pa_cons (pe_op op_sub (pe_callB call_lenU (by rfl) T.n_len (by decide +kernel) (pa_cons (pv 4) pa_nil)) pe_int) pa_nil)) (blkOk_by (N := N_law_holds) (sc := defScope s_law_holds) (by decide +kernel)) (fun _ _ _ _ _ => pg_name (i := 12) sc_law_holds.nd rfl (Or.inl rfl)) (fun _ _ _ _ _ => pts_nil) (fun _ _ _ _ _ => (pe_call (ok_law_walk T) (hr.mono (by decide)) (by rfl) T.g_law_walk T.F_law_walk.kp T.b_law_walk .nil pass0 (pa_cons (pv 0) (pa_cons (pv 1) (pa_cons (pv 2) (pa_cons (pv 3) (pa_cons (pe_ix (k_ix (K := K) rfl) (pv 4) (pv 12) (fun _ _ => rfl)) (pa_cons (pe_ix (k_ix (K := K) rfl) (pv 4) (pe_op (k_add (K := K) rfl) (pv 12) pe_int) (fun _ _ => rfl)) pa_nil))))))))) pa_nil)))
        (pss_cons (ps_set (i := 9) sc_law_holds.nd rfl (Or.inl rfl) (pe_lst (pa_cons (pv 6) (pa_cons (pv 8) pa_nil))))
        (Evl.pss_cut (ps_if (pt_cmpR op_gt (pe_callB call_lenU (by rfl) T.n_len (by decide +kernel) (pa_cons (pv 4) pa_nil)) pe_int (nomark _)) (pss_cons (ps_set (i := 9) sc_law_holds.nd rfl (Or.inl rfl) (pe_op op_addU (pv 9) (pe_call (ok_law_bent T) (hr.mono (by decide)) (by rfl) T.g_law_bent T.F_law_bent.kp T.b_law_bent .nil pass0 (pa_cons (pv 0) (pa_cons (pv 1) (pa_cons (pv 2) (pa_cons (pv 8) pa_nil)))))))
        (pss_one (ps_set (i := 9) sc_law_holds.nd rfl (Or.inl rfl) (pe_op op_addU (pv 9) (pe_call (ok_law_bent T) (hr.mono (by decide)) (by rfl) T.g_law_bent T.F_law_bent.kp T.b_law_bent .nil pass0 (pa_cons (pv 0) (pa_cons (pv 1) (pa_cons (pv 2) (pa_cons (pv 6) pa_nil))))))))) pss_nil)
        (pss_cons (ps_for PassesOwn.never rfl (pi_list (pv 9)) (pg_name (i := 10) sc_law_holds.nd rfl (Or.inl rfl)) (pss_cons (ps_set (i := 11) sc_law_holds.nd rfl (Or.inl rfl) (pe_call (ok_law_fits T) (hr.mono (by decide)) (by rfl) T.g_law_fits T.F_law_fits.kp T.b_law_fits .nil pass0 (pa_cons (pv 1) (pa_cons (pv 4) (pa_cons (pv 10) pa_nil)))))
        (pss_one (ps_if (PW.pt (pw_or (PW.pt (pw_and (pt_val (pv 11)) (pw_and1 (pt_not (pt_val (pv 7)))))) (pw_or1 (pt_not (pt_val (pe_call (ok_law_same T) hr (by rfl) T.g_law_same T.F_law_same.kp T.b_law_same .nil pass0 (pa_cons (pe_call (ok_chain_fits T) (hr.mono (by decide)) (by rfl) T.g_chain_fits T.F_chain_fits.kp T.b_chain_fits .nil pass0 (pa_cons (pv 1) (pa_cons (pv 4) (pa_cons (pv 10) pa_nil)))) (pa_cons (pv 11) pa_nil)))))))) (pss_one (ps_ret pe_bl)) pss_nil))))
        (pss_one (ps_ret (pe_call (ok_law_same T) hr (by rfl) T.g_law_same T.F_law_same.kp T.b_law_same .nil pass0 (pa_cons (pe_callK0 (ok_chain_fits T) (hr.mono (by decide)) (by rfl) T.g_chain_fits T.F_chain_fits.kp T.kb_chain_fits pass0 (pk_cons (pv 8) (pk_cons (pv 4) (pk_cons (pv 1) pk_nil)))) (pa_cons (pe_call (ok_law_fits T) (hr.mono (by decide)) (by rfl) T.g_law_fits T.F_law_fits.kp T.b_law_fits .nil pass0 (pa_cons (pv 1) (pa_cons (pv 4) (pa_cons (pv 8) pa_nil)))) pa_nil))))))))))))), ?_⟩
    have wv : Wv L R sz n := by obtain ⟨_, _, br⟩ := wt.wr; exact br.wv
    walk_at "rd"
    refine ⟨b, vl, L, R, sz, n, row, rfl, wt.wr, hrow, oks, by omega, fun w1 H1 l1 e1 h1 P1 => ?_⟩
    walk_at "rd"
    refine ⟨b, vl, L, R, sz, n, row, rfl, wt.wr.up e1, imm (.ex e1) hrow, oks, by omega, fun w2 H2 l2 e2 h2 P2' => ?_⟩
    have el := HP.det P2' P1
    subst el
    have good := P1.good wv oks
    have ll := P1.len
    have e02 := e1.trans e2
    have wt2 := wt.up e02
    walk_at "rd"
    refine ⟨mk, tb, vl, xs, L, R, sz, n, U, row, rfl, wt2.hm, wt2.hms, wt2.ht, wt2.tl, wt2.ul, imm (.ex e02) hrow, oks, by omega, fun ch hch => ?_⟩
    walk_at "rd"
    refine ⟨_, _, rfl, sm_lf 0 (by omega) (fun t ht => by have := (good t ht).2.1; omega) (imm (R := LfV) (.ex e2) h1) h2, fun H3 e3 => ?_⟩
    have e03 := e02.trans e3
    walk_at "rd"
    refine ⟨b, vl, w1, L, R, sz, n, row, l2, rfl, wt.wr.up e03, imm (.ex e03) hrow, imm (R := LfV) (.ex (e2.trans e3)) h1, oks, by omega, by omega, (fun t ht => by have := (good t ht).2.1; omega), fun c4 H4 e4 hc4 => ?_⟩
    walk_at "rd"
    refine ⟨_, _, rfl, sm_b 4 (by rw [Bool.eq_iff_iff, hc4, hch, P1.fits]), fun H5 e5 => ?_⟩
    have e05 := (e03.trans e4).trans e5
    have h25 := imm (R := LfV) (.ex ((e3.trans e4).trans e5)) h2
    have row5 := imm (R := TupV SgV) (.ex e05) hrow
    have wt5 := wt.up e05
    have D5 := Dr2.ex bs e05
    walk_at "rd"
    refine r_lenTV row5 ?_
    walk_at "rd"
    refine l_lcR (by omega) (by omega) (fun D i H' => ∃ acc ls, Dr2 bx hp H5 H' ∧ H' D = some (.lst acc) ∧ P2 (EnV H') acc ls ∧ ls.length = i ∧ ∀ e ∈ ls, 0 < e.length ∧ e.length ≤ 300 ∧ ∀ z ∈ e, Ok2 sz n z) (fun D hD => ⟨[], [], (Dr2.refl D5.st).new hD, upd_same, .nil, rfl, fun e he => absurd he List.not_mem_nil⟩) (fun D i H' hD hi hW => ?_) (fun pl H6 npl hW => ?_)
    · obtain ⟨acc, ls, D', hA, hP, hln, hg⟩ := hW
      have t' := dr2_tk D5.st D'
      have wt' := wt5.dr D5.st D' nt
      have row' := imm t' row5
      have al := hP.len
      have ir : i + 1 < row.length := by omega
      obtain ⟨x, hx⟩ : ∃ x, row[i]? = some x := ⟨_, List.getElem?_eq_getElem (by omega)⟩
      obtain ⟨y, hy⟩ : ∃ y, row[i + 1]? = some y := ⟨_, List.getElem?_eq_getElem ir⟩
      walk_at "rd"
      refine ⟨rfl, ?_⟩
      walk_at "rd"
      refine r_ixTV row' hx fun vx hvx => ?_
      walk_at "rd"
      rw [show ((i : Nat) : Int) + 1 = ((i + 1 : Nat) : Int) from rfl]
      refine r_ixTV row' hy fun vy hvy => ?_
      walk_at "rd"
      refine ⟨bx, hp, b, mk, tb, vx, vy, xs, L, R, sz, n, U, x, y, rfl, D'.st, wt', nt, hvx, hvy, oks x (List.mem_of_getElem? hx), oks y (List.mem_of_getElem? hy), fun pw H7 e D7 hw7 gd l41 => ?_⟩
      obtain ⟨g0, gg⟩ := gd.good wv ⟨oks x (List.mem_of_getElem? hx), oks y (List.mem_of_getElem? hy)⟩
      have Db := D5.st.nb hD
      have Dh := D5.st.nh hD
      have hA7 := D7.hh _ _ Db Dh hA
      have t7 := dr2_tk D'.st D7
      have tp := Tk.put (o := .lst (acc ++ [.ref pw])) hA7
      refine ⟨acc, hA7, Nat.lt_of_le_of_lt (show acc.length ≤ 1000 by omega) (by decide), acc ++ [.ref pw], ls ++ [e], (D'.trans D7).mut hD Db Dh, upd_same, (p2_imm (t7.trans tp) hP).snoc (imm tp hw7), by rw [List.length_append, List.length_singleton, hln], fun e' he' => ?_⟩
      rcases List.mem_append.mp he' with he' | he'
      · exact hg e' he'
      · rw [List.mem_singleton.mp he']
        exact ⟨g0, by omega, gg⟩
    obtain ⟨acc, ls, D6, hA, hP, hln, hg⟩ := hW
    have lsl : ls.length ≤ 9 := by omega
    have t6 := dr2_tk D5.st D6
    have D06 := D5.trans D6
    walk_at "rd"
    refine r_tupLV hA hP fun pw H7 npw e7 hw7 => ?_
    have D07 := D06.then e7
    have t57 := t6.trans (.ex e7)
    walk_at "rd"
    refine r_small nsz fun pp npp => ?_
    obtain ⟨H8, k8, e8, h8⟩ := nL (.lst [w2, .ref pw]) npp
    rw [← k8]
    have D08 := D07.then e8
    have pp0 : H pp = none := D07.fresh npp
    have ppb := bs.nb pp0
    have pph := bs.nh pp0
    have hpl := imm (R := LfV) (t57.trans (.ex e8)) h25
    have hwk := imm (R := LfV) (.ex e8) hw7
    have row8 := imm (R := TupV SgV) (t57.trans (.ex e8)) row5
    have wt8 := wt.dr bs D08 nt
    walk_at "rd"
    refine ⟨fun σ H' => ∃ (pq : Addr) (zs : List V) (lls : List (List (List Pr))), σ = [some (.ref bx), some (.ref b), some (.ref mk), some (.ref tb), some vl, some w1, some w2, some (.bl ch), some (.ref pw), some (.ref pq), none, none, none] ∧ Dr2 bx hp H8 H' ∧ H' pq = some (.lst zs) ∧ P2 (LfV H') zs lls ∧ (∀ l ∈ lls, l.length ≤ 200 ∧ ∀ e ∈ l, e.length ≤ 1000) ∧ lls.length ≤ 90, ?_, ?_⟩
    · have lsOk : ∀ l ∈ [l2, ls], l.length ≤ 200 ∧ ∀ e ∈ l, e.length ≤ 1000 := fun l hl => by
        rcases List.mem_cons.mp hl with rfl | hl
        · exact ⟨by omega, fun e he => by have := (good e he).2.1; omega⟩
        · rw [List.mem_singleton.mp hl]
          exact ⟨by omega, fun e he => by have := (hg e he).2.1; omega⟩
      walk_at "rd"
      refine r_lenTV row8 ?_
      walk_at "rd"
      refine r_ite (fun hgt => ?_) (fun _ => ?_)
      · have rl : 1 < row.length := by omega
        walk_at "rd"
        refine ⟨bx, hp, b, mk, tb, .ref pw, xs, L, R, sz, n, U, ls, rfl, D08.st, wt8, nt, hwk, by omega, by omega, hg, fun p9 H9 rs rls D9 np9 hp9 hP9 hl9 hb9 => ?_⟩
        have h89 := D9.hh _ _ ppb pph h8
        have rsl := hP9.len
        have t9 := dr2_tk D08.st D9
        walk_at "rd"
        refine r_addL h89 hp9 (Nat.le_of_lt (Nat.lt_of_le_of_lt (show [w2, V.ref pw].length + rs.length ≤ 1000 by simp; omega) (by decide))) fun pa npa => ?_
        obtain ⟨H10, k10, e10, h10⟩ := nL (.lst ([w2, .ref pw] ++ rs)) npa
        rw [← k10]
        have D10 := (D08.trans D9).then e10
        have wt10 := wt.dr bs D10 nt
        have pa0 : H pa = none := (D08.trans D9).fresh npa
        walk_at "rd"
        refine ⟨bx, hp, b, mk, tb, w2, xs, L, R, sz, n, U, l2, rfl, D10.st, wt10, nt, imm (R := LfV) (t9.trans (.ex e10)) hpl, by omega, by omega, good, fun p11 H11 rs2 rls2 D11 np11 hp11 hP11 hl11 hb11 => ?_⟩
        have h11 := D11.hh _ _ (bs.nb pa0) (bs.nh pa0) h10
        have rsl2 := hP11.len
        have t11 := dr2_tk D10.st D11
        walk_at "rd"
        refine r_addL h11 hp11 (Nat.le_of_lt (Nat.lt_of_le_of_lt (show ([w2, V.ref pw] ++ rs).length + rs2.length ≤ 1000 by rw [List.length_append]; simp; omega) (by decide))) fun pz npz => ?_
        obtain ⟨H12, k12, e12, h12⟩ := nL (.lst ([w2, .ref pw] ++ rs ++ rs2)) npz
        rw [← k12]
        walk_at "rd"
        refine ⟨pz, _, [l2, ls] ++ rls ++ rls2, rfl, ((D9.then e10).trans D11).then e12, h12, ?_, ?_, ?_⟩
        · have a1 := p2_imm (((t9.trans (.ex e10)).trans t11).trans (.ex e12)) (show P2 (LfV H8) [w2, .ref pw] [l2, ls] from .cons hpl (.cons hwk .nil))
          have a2 := p2_imm (((Tk.ex e10).trans t11).trans (.ex e12)) hP9
          have a3 := p2_imm (.ex e12) hP11
          exact (a1.app a2).app a3
        · intro l hl
          rcases List.mem_append.mp hl with hl | hl
          · rcases List.mem_append.mp hl with hl | hl
            · exact lsOk l hl
            · exact ⟨by have := (hb9 l hl).1; omega, fun e he => by have := (hb9 l hl).2 e he; omega⟩
          · exact ⟨by have := (hb11 l hl).1; omega, fun e he => by have := (hb11 l hl).2 e he; omega⟩
        · rw [List.length_append, List.length_append]
          simp
          omega
      · walk_at "rd"
        exact ⟨pp, _, [l2, ls], rfl, Dr2.refl D08.st, h8, .cons hpl (.cons hwk .nil), lsOk, by simp⟩
    rintro σ H9 ⟨pq, zs, lls, rfl, D9, hpq, hPQ, hb, hlen⟩
    have D09 := D08.trans D9
    have wt9 := wt.dr bs D09 nt
    have t9 := dr2_tk D08.st D9
    have row9 := imm (R := TupV SgV) t9 row8
    have wk9 := imm (R := LfV) t9 hwk
    walk_at "rd"
    refine l_L (sqL hpq) (fun i σ H' => ∃ y10 y11, σ = [some (.ref bx), some (.ref b), some (.ref mk), some (.ref tb), some vl, some w1, some w2, some (.bl ch), some (.ref pw), some (.ref pq), y10, y11, none] ∧ Ex H9 H') ⟨none, none, rfl, Same.refl H9⟩ (fun i σ H' hW => ?_) (fun i v σ H' hv hW => ?_) (fun σ H' hW => ?_)
    · obtain ⟨_, _, _, e⟩ := hW
      exact sqL (e _ _ hpq)
    · obtain ⟨y10, y11, rfl, e⟩ := hW
      obtain ⟨lf, hlf, slf⟩ := hPQ.get hv
      obtain ⟨b1, b2⟩ := hb lf (List.mem_of_getElem? hlf)
      walk_at "rd"
      refine ⟨b, vl, v, L, R, sz, n, row, lf, rfl, wt9.wr.up e, imm (.ex e) row9, imm (R := LfV) (.ex e) slf, oks, by omega, by omega, b2, fun c Ha ea hc => ?_⟩
      have ea' := e.trans ea
      have key : c = true → ch = true := fun hct => hch.mpr (CF.sound wv oks (hc.mp hct))
      walk_at "rd"
      cases c with
      | false =>
        walk_at "rd"
        refine ⟨b, vl, v, L, R, sz, n, row, lf, rfl, wt9.wr.up ea', imm (.ex ea') row9, imm (R := LfV) (.ex ea') slf, oks, by omega, by omega, b2, fun c2 Hb eb hc2 => ?_⟩
        walk_at "rd"
        refine ⟨_, _, rfl, sm_b 4 (by rw [Bool.eq_iff_iff, hc2, hc]), fun Hc ec => ?_⟩
        walk_at "rd"
        exact ⟨_, _, rfl, (ea'.trans eb).trans ec⟩
      | true =>
        have ct := key rfl
        subst ct
        walk_at "rd"
        refine ⟨b, vl, v, L, R, sz, n, row, lf, rfl, wt9.wr.up ea', imm (.ex ea') row9, imm (R := LfV) (.ex ea') slf, oks, by omega, by omega, b2, fun c2 Hb eb hc2 => ?_⟩
        walk_at "rd"
        refine ⟨_, _, rfl, sm_b 4 (by rw [Bool.eq_iff_iff, hc2, hc]), fun Hc ec => ?_⟩
        walk_at "rd"
        exact ⟨_, _, rfl, (ea'.trans eb).trans ec⟩
    · obtain ⟨y10, y11, rfl, e⟩ := hW
      walk_at "rd"
      refine ⟨b, vl, .ref pw, L, R, sz, n, row, ls, rfl, wt9.wr.up e, imm (.ex e) row9, imm (R := LfV) (.ex e) wk9, oks, by omega, by omega, (fun t ht => by have := (hg t ht).2.1; omega), fun c Ha ea hc => ?_⟩
      have ea' := e.trans ea
      walk_at "rd"
      refine ⟨b, vl, .ref pw, L, R, sz, n, row, ls, rfl, wt9.wr.up ea', imm (.ex ea') row9, imm (R := LfV) (.ex ea') wk9, oks, by omega, by omega, (fun t ht => by have := (hg t ht).2.1; omega), fun c2 Hb eb hc2 => ?_⟩
      walk_at "rd"
      exact ⟨_, _, rfl, sm_b 4 (by rw [Bool.eq_iff_iff, hc2, hc]), fun Hc ec => q _ (D09.then ((ea'.trans eb).trans ec))⟩
end
end K26
namespace K26
open PySem PySem.Spec PyProof.Rows L2 Dk Tl
/-- one step of a reading -/
local macro_rules | `(tactic| walk_at "rd1") => `(tactic| first
  | ((with_reducible refine r_var (v := ?rv) ?rh ?_); (case rh => rfl))
  | with_reducible refine r_c ?_
  | with_reducible refine r_seq ?_
  | with_reducible refine r_asg ?_
  | with_reducible refine r_par ?_
  | with_reducible refine r_gname ?_
  | with_reducible refine r_op ?_
  | with_reducible refine r_forLo ?_
  | with_reducible refine r_forTo ?_
  | with_reducible refine r_forSo ?_
  | with_reducible refine r_forRo ?_
  | with_reducible refine r_forRvo ?_
  | with_reducible refine r_forZo ?_
  | with_reducible refine r_revS ?_
  | with_reducible refine r_lcRo ?_
  | with_reducible refine r_lcLo ?_
  | with_reducible refine r_yes ?_
  | with_reducible refine r_callK0 ?_
  | with_reducible refine r_break ?_
  | with_reducible refine r_forR2o ?_
  | with_reducible refine r_forEo ?_
  | with_reducible refine r_forESo ?_
  | with_reducible refine r_xfo ?_
  | with_reducible refine r_noP ?_
  | with_reducible refine r_part ?_
  | with_reducible refine r_pI ?_
  | with_reducible refine r_gcons ?_
  | with_reducible refine r_gnil ?_
  | with_reducible refine r_mkO ?_
  | with_reducible refine r_un ?_
  | with_reducible refine r_addI ?_
  | with_reducible refine r_I0 ?_
  | with_reducible refine r_U ?_
  | with_reducible refine r_cons ?_
  | with_reducible refine r_nil ?_
  | with_reducible refine r_CB ?_
  | with_reducible refine r_call ?_
  | with_reducible refine r_callS ?_
  | with_reducible refine r_int ?_
  | with_reducible refine r_max ?_
  | with_reducible refine r_min ?_
  | with_reducible refine r_test ?_
  | with_reducible refine r_B ?_
  | with_reducible refine r_blv ?_
  | with_reducible refine r_and ?_
  | with_reducible refine r_or ?_
  | with_reducible refine r_not ?_
  | with_reducible refine r_andV ?_
  | with_reducible refine r_orV ?_
  | with_reducible refine r_notV ?_
  | with_reducible refine r_ifE ?_
  | with_reducible refine r_ifS ?_
  | with_reducible refine r_ret ?_
  | with_reducible refine r_retN ?_
  | with_reducible refine r_drop ?_
  | with_reducible refine r_next ?_
  | with_reducible refine r_sl ?_
  | with_reducible refine r_gsub ?_
  | with_reducible refine r_bm ?_
  | with_reducible refine r_tup ?_
  | with_reducible refine r_lst ?_
  | with_reducible refine r_isN ?_
  | with_reducible refine r_notN ?_
  | with_reducible refine r_itt ?_
  | with_reducible refine r_iff ?_
  | with_reducible refine r_ittN ?_
  | with_reducible refine r_iffN ?_
  | ((with_reducible refine r_ittD ?rh ?_); (case rh => rfl))
  | ((with_reducible refine r_iffD ?rh ?_); (case rh => rfl))
  | ((with_reducible refine r_modP ?rh ?_); (case rh => decide))
  | ((with_reducible refine r_eq ?rh ?_); (case rh => rfl))
  | ((with_reducible refine r_eqP ?rh ?_); (case rh => rfl))
  | ((with_reducible refine r_ne ?rh ?_); (case rh => rfl)))
local macro_rules | `(tactic| walk_at "rd") => `(tactic| repeat walk_at "rd1")
local macro_rules | `(tactic| walk_at "isi") => `(tactic| first | refine r_isi (b := true) (by assumption) (by decide +kernel) ?_ | refine r_isi (b := false) (by assumption) (by decide +kernel) ?_)
local macro_rules | `(tactic| walk_at "rs1") => `(tactic| first
  | with_reducible refine r_seq ?_
  | with_reducible refine r_asg ?_
  | with_reducible refine r_gname ?_
  | with_reducible refine r_ret ?_)
local macro_rules | `(tactic| walk_at "rs") => `(tactic| repeat walk_at "rs1")

section
variable {P : Program} {w : World} {K : PySem.W.Frag} {mg : Str → Option Value} {base : Heap}
def spPickW : Sp := fun vs H Q _ => ∃ (b h : Addr) (n : Int), vs = [.ref b, .int n] ∧ Bx H b h ∧ 0 < n ∧ n ≤ 16000000 ∧ ∀ (d : Int) H', 0 ≤ d → d < n → Dr2 b h H H' → Q (.int d) H'
theorem ok_law_pickW (T : Txt K mg) : FnOk P w K mg base CX0 1 T.a_law_pick T.d_law_pick ["_law_box", "_law_many"] spPickW := by
  refine T.F_law_pick.ok sc_law_pick (fun vs H Q E h => ?_) (fun cdv A outer s H vs Q E hr h => ?_)
  · obtain ⟨b, h, n, rfl, _⟩ := h
    rfl
  · obtain ⟨b, h, n, rfl, ⟨ne, z, ns, hb, z0, z1, hh, hl⟩, n0, n1, q⟩ := h
    refine ⟨_, (pss_cons (ps_set (i := 2) sc_law_pick.nd rfl (Or.inl rfl) (pe_ix ix_seq (pv 0) pe_int (fun _ _ => rfl)))
        (pss_cons (ps_if (pt_cmpR op_gt (pe_callB call_lenU (by rfl) T.n_len (by decide +kernel) (pa_cons (pv 2) pa_nil)) pe_int (nomark _)) (pss_cons (ps_set (i := 3) sc_law_pick.nd rfl (Or.inl rfl) (pe_ix ix_seq (pv 2) pe_int (fun _ _ => rfl)))
        (pss_cons (ps_asg (pe_op op_divW (pv 3) (pv 1)) (pg_sub (pv 2) pe_int set_list))
        (Evl.pss_cut (ps_if (pt_cmpR (op_eqU hr.units) (pe_ix ix_seq (pv 2) pe_int (fun _ _ => rfl)) pe_int (nomark _)) (pss_one (ps_expr (pe_bm PySem.F.plainAttrs_list PySem.F.slot_list_pop PySem.F.type_list_pop mt_popAt (pv 2) (pa_cons pe_int pa_nil)))) pss_nil)
        (pss_one (ps_ret (pe_op op_modP (pe_callTy call_intU (by rfl) T.n_int (by decide +kernel) (pa_cons (pv 3) pa_nil)) (pv 1))))))) pss_nil)
        (pss_cons (ps_asg (pe_op op_modP (pe_callTy call_intU (by rfl) T.n_int (by decide +kernel) (pa_cons (pe_op op_addU (pe_op op_mulWW (pe_ix ix_seq (pv 0) pe_int (fun _ _ => rfl)) pe_int) pe_int) pa_nil)) pe_int) (pg_sub (pv 0) pe_int set_list))
        (pss_cons (ps_set (i := 4) sc_law_pick.nd rfl (Or.inl rfl) (pe_op op_modP (pe_callTy call_intU (by rfl) T.n_int (by decide +kernel) (pa_cons (pe_op op_mulWW (pe_ix ix_seq (pv 0) pe_int (fun _ _ => rfl)) pe_int) pa_nil)) pe_int))
        (pss_one (ps_ret (pe_op op_modP (pe_callTy call_intU (by rfl) T.n_int (by decide +kernel) (pa_cons (pe_op op_divW (pv 4) pe_int) pa_nil)) (pv 1)))))))), ?_⟩
    walk_at "rd"
    refine r_ixL (sqL hb) (atI_nat (j := 1) rfl) ?_
    walk_at "rd"
    refine r_lenL (sqL hh) ?_
    walk_at "rd"
    have w11 : n.natAbs < 2 ^ 25 := by
      have e : (2 : Nat) ^ 25 = 33554432 := by decide
      omega
    have wd : CDivW (0 : Int) n := wide_div (b := 25) n0 w11 (by decide) (by decide)
    cases ns with
    | cons c ns =>
      refine r_ite (fun _ => ?_) (fun hn => absurd (by simp) hn)
      walk_at "rd"
      refine r_ixL (sqL hh) (atI_nat (j := 0) rfl) ?_
      walk_at "rd"
      refine r_divW ⟨n0, wd.2⟩ ?_
      walk_at "rd"
      refine r_setL hh (n := 0) (ixN_nat (Int.le_refl 0) (by rw [List.length_map, List.length_cons]; omega)) ?_
      walk_at "rs"
      have D1 : ∀ (ms : List Int), ms.length ≤ 63 → ∀ H1, H1 b = some (.lst [.int z, .ref h]) → H1 h = some (.lst (ms.map V.int)) → (∀ x o, x ≠ b → x ≠ h → H x = some o → H1 x = some o) → Dr2 b h H H1 := fun ms hm H1 e1 e2 e3 => ⟨e3, ne, z, ms, e1, z0, z1, e2, hm⟩
      refine ⟨fun σ H1 => σ = [some (.ref b), some (.int n), some (.ref h), some (.int c), none] ∧ Dr2 b h H H1, ?_, ?_⟩
      · walk_at "rd"
        refine r_ixL (sqL upd_same) (atI_nat (j := 0) rfl) ?_
        walk_at "rd"
        refine r_ite (fun h0 => ?_) (fun h0 => ?_)
        · walk_at "rd"
          refine r_tyL (sqL upd_same) ?_
          walk_at "rd"
          refine r_pop0 upd_same ?_
          walk_at "rd"
          refine ⟨rfl, D1 ns (by simp at hl; omega) _ ?_ ?_ ?_⟩
          · rw [upd_ne ne, upd_ne ne]; exact hb
          · rw [upd_same]
          · intro x o h1 h2 e
            rw [upd_ne h2, upd_ne h2]
            exact e
        · walk_at "rd"
          refine ⟨rfl, D1 (c / n :: ns) (by simpa using hl) _ ?_ ?_ ?_⟩
          · rw [upd_ne ne]; exact hb
          · rw [upd_same]; rfl
          · intro x o h1 h2 e
            rw [upd_ne h2]
            exact e
      · rintro σ H1 ⟨rfl, D⟩
        walk_at "rd"
        refine r_modP n0 ?_
        exact q _ _ (Int.emod_nonneg _ (by omega)) (Int.emod_lt_of_pos _ n0) D
    | nil =>
      refine r_ite (fun hn => absurd hn (by simp)) (fun _ => ?_)
      walk_at "rd"
      refine r_ixL (sqL hb) (atI_nat (j := 0) rfl) ?_
      walk_at "rd"
      refine r_mulW (wide_mul (a := 31) (b := 33) (nat31 z0 z1) (by decide) (by decide) (by decide) (by decide)) ?_
      walk_at "rd"
      refine r_setL hb (n := 0) rfl ?_
      walk_at "rd"
      refine r_ixL (sqL upd_same) (atI_nat (j := 0) rfl) ?_
      walk_at "rd"
      refine r_mulW (wide_mul (a := 31) (b := 33) (nat31 (mix31 _).1 (mix31 _).2) (by decide) (by decide) (by decide) (by decide)) ?_
      walk_at "rd"
      refine r_divW (wide_div (b := 17) (by decide) (by decide) (by decide) (by decide)) ?_
      walk_at "rd"
      refine r_modP n0 ?_
      refine q _ _ (Int.emod_nonneg _ (by omega)) (Int.emod_lt_of_pos _ n0) ⟨fun x o h1 h2 e => by rw [upd_ne h1]; exact e, ne, _, [], upd_same, (mix31 _).1, (mix31 _).2, by rw [upd_ne (Ne.symm ne)]; exact hh, by simp⟩
theorem atI_m1 {α : Type} {xs : List α} {v : α} (h : xs[xs.length - 1]? = some v) : atI xs (-1) = some v := by
  rcases List.eq_nil_or_concat xs with e | ⟨l, z, e⟩
  · rw [e] at h; cases h
  · rw [List.concat_eq_append] at e
    rw [e, List.length_append, List.length_singleton, Nat.add_sub_cancel, List.getElem?_append_right (Nat.le_refl _), Nat.sub_self] at h
    rw [e, ← Option.some.inj (show some z = some v from h)]
    exact atI_last _ _
theorem oks2 {sz : Nat → Nat} {n : Nat} {x y : Sg} (ox : Ok sz n x) (oy : Ok sz n y) : ∀ t ∈ [x, y], Ok sz n t := fun t ht => by
  rcases List.mem_cons.mp ht with rfl | ht
  · exact ox
  · rw [List.mem_singleton.mp ht]; exact oy
def sp_law (K : PySem.W.Frag) : Sp := fun vs H Q _ => ∃ (a : Addr) (ns : List Int), vs = [.ref a] ∧ SqL K H a (ns.map V.int) ∧ ns.length ≤ 63 ∧ ∀ H', Q (.bl true) H'
set_option maxHeartbeats 16000000 in
theorem ok_law (T : Txt K mg) : FnOk P w K mg base CX0 7 T.a_law T.d_law ["_law_script"] (sp_law K) := by
  refine T.F_law.ok sc_law (fun vs H Q E h => ?_) (fun cdv A outer s H vs Q E hr h => ?_)
  · obtain ⟨a, ns, rfl, _⟩ := h
    rfl
  · obtain ⟨a0, ns, rfl, hS, hns, q⟩ := h
    refine ⟨_, (pss_cons (ps_set (i := 1) sc_law.nd rfl (Or.inl rfl) (pe_call (ok_law_draws T) (hr.mono (by decide)) (by rfl) T.g_law_draws T.F_law_draws.kp T.b_law_draws .nil pass0 (pa_cons (pv 0) pa_nil)))
        (pss_cons (ps_set (i := 2) sc_law.nd rfl (Or.inl rfl) (pe_call (ok_law_world T) (hr.mono (by decide)) (by rfl) T.g_law_world T.F_law_world.kp T.b_law_world .nil pass0 (pa_cons (pv 1) pa_nil)))
        (pss_cons (ps_set (i := 3) sc_law.nd rfl (Or.inl rfl) (pe_call (ok_law_all T) (hr.mono (by decide)) (by rfl) T.g_law_all T.F_law_all.kp T.b_law_all .nil pass0 (pa_cons (pv 2) pa_nil)))
        (pss_cons (ps_set (i := 4) sc_law.nd rfl (Or.inl rfl) (pe_call (ok_law_closed T) (hr.mono (by decide)) (by rfl) T.g_law_closed T.F_law_closed.kp T.b_law_closed .nil pass0 (pa_cons (pv 2) pa_nil)))
        (pss_cons (ps_for PassesOwn.never rfl (pi_range1 (by rfl) T.n_range (pa_cons pe_int pa_nil)) (pg_name (i := 5) sc_law.nd rfl (Or.inl rfl)) (pss_one (ps_if (pt_not (pt_val (pe_call (ok_law_holds T) hr (by rfl) T.g_law_holds T.F_law_holds.kp T.b_law_holds .nil pass0 (pa_cons (pv 1) (pa_cons (pv 2) (pa_cons (pv 3) (pa_cons (pv 4) (pa_cons (pe_call (ok_law_row T) (hr.mono (by decide)) (by rfl) T.g_law_row T.F_law_row.kp T.b_law_row .nil pass0 (pa_cons (pv 1) (pa_cons (pv 3) (pa_cons (pv 4) pa_nil)))) pa_nil)))))))) (pss_one (ps_ret pe_bl)) pss_nil)))
        (pss_cons (ps_for PassesOwn.never rfl (pi_list (pe_lst (pa_cons (pe_tup (pa_cons pe_int (pa_cons pe_int pa_nil))) (pa_cons (pe_tup (pa_cons pe_int (pa_cons pe_int pa_nil))) (pa_cons (pe_tup (pa_cons pe_int (pa_cons pe_int pa_nil))) (pa_cons (pe_tup (pa_cons pe_int (pa_cons pe_int pa_nil))) pa_nil)))))) (pg_tup rfl (pgs_cons (pg_name (i := 6) sc_law.nd rfl (Or.inl rfl)) (pgs_cons (pg_name (i := 7) sc_law.nd rfl (Or.inl rfl)) pgs_nil))) (pss_one (ps_if (pt_not (pt_val (pe_call (ok_law_pair_holds T) hr (by rfl) T.g_law_pair_holds T.F_law_pair_holds.kp T.b_law_pair_holds .nil pass0 (pa_cons (pv 2) (pa_cons (pv 3) (pa_cons (pv 4) (pa_cons (pe_ix ix_seq (pv 3) (pv 6) (fun _ _ => rfl)) (pa_cons (pe_ix ix_seq (pv 3) (pv 7) (fun _ _ => rfl)) pa_nil)))))))) (pss_one (ps_ret pe_bl)) pss_nil)))
        (Evl.pss_cut (ps_if (pt_cmpR op_gt (pe_callB call_lenU (by rfl) T.n_len (by decide +kernel) (pa_cons (pv 2) pa_nil)) pe_int (nomark _)) (pss_cons (ps_set (i := 8) sc_law.nd rfl (Or.inl rfl) (pe_tup (pa_cons (pe_ix ix_seq (pv 3) pe_int (fun _ _ => rfl)) (pa_cons (pe_ix ix_seq (pv 3) (pe_un un_neg pe_int) (fun _ _ => rfl)) pa_nil))))
        (Evl.pss_cut (ps_if (pt_not (pt_val (pe_call (ok_law_told T) (hr.mono (by decide)) (by rfl) T.g_law_told T.F_law_told.kp T.b_law_told .nil pass0 (pa_cons (pv 3) (pa_cons (pv 4) (pa_cons (pe_ix ix_seq (pv 3) pe_int (fun _ _ => rfl)) (pa_cons (pe_ix ix_seq (pv 3) (pe_un un_neg pe_int) (fun _ _ => rfl)) pa_nil))))))) (pss_one (ps_set (i := 8) sc_law.nd rfl (Or.inl rfl) (pe_tup (pa_cons (pe_ix ix_seq (pv 3) (pe_un un_neg pe_int) (fun _ _ => rfl)) (pa_cons (pe_ix ix_seq (pv 3) pe_int (fun _ _ => rfl)) pa_nil))))) pss_nil)
        (pss_one (ps_if (pt_not (pt_val (pe_call (ok_law_holds T) hr (by rfl) T.g_law_holds T.F_law_holds.kp T.b_law_holds .nil pass0 (pa_cons (pv 1) (pa_cons (pv 2) (pa_cons (pv 3) (pa_cons (pv 4) (pa_cons (pv 8) pa_nil)))))))) (pss_one (ps_ret pe_bl)) pss_nil)))) pss_nil)
        (pss_cons (ps_set (i := 9) sc_law.nd rfl (Or.inl rfl) (pe_call (ok_law_rich T) (hr.mono (by decide)) (by rfl) T.g_law_rich T.F_law_rich.kp T.b_law_rich .nil pass0 (pa_cons (pv 2) (pa_cons (pv 3) (pa_cons (pv 4) pa_nil)))))
        (pss_cons (ps_for PassesOwn.never rfl (pi_range1 (by rfl) T.n_range (pa_cons (pe_callB (call_minU rfl) (by rfl) T.n_min (by decide +kernel) (pa_cons pe_int (pa_cons (pe_callB call_lenU (by rfl) T.n_len (by decide +kernel) (pa_cons (pv 9) pa_nil)) pa_nil))) pa_nil)) (pg_name (i := 5) sc_law.nd rfl (Or.inl rfl)) (pss_cons (ps_asg (pe_ix ix_seq (pv 9) (pe_call (ok_law_pickW T) (hr.mono (by decide)) (by rfl) T.g_law_pick T.F_law_pick.kp T.b_law_pick .nil pass0 (pa_cons (pv 1) (pa_cons (pe_callB call_lenU (by rfl) T.n_len (by decide +kernel) (pa_cons (pv 9) pa_nil)) pa_nil))) (fun _ _ => rfl)) (pg_tup rfl (pgs_cons (pg_name (i := 6) sc_law.nd rfl (Or.inl rfl)) (pgs_cons (pg_name (i := 7) sc_law.nd rfl (Or.inl rfl)) pgs_nil))))
        (pss_one (ps_if (pt_not (PW.pt (pw_and (pt_val (pe_call (ok_law_holds T) hr (by rfl) T.g_law_holds T.F_law_holds.kp T.b_law_holds .nil pass0 (pa_cons (pv 1) (pa_cons (pv 2) (pa_cons (pv 3) (pa_cons (pv 4) (pa_cons (pe_tup (pa_cons (pv 6) (pa_cons (pv 7) pa_nil))) pa_nil))))))) (pw_and1 (pt_val (pe_call (ok_law_pair_holds T) hr (by rfl) T.g_law_pair_holds T.F_law_pair_holds.kp T.b_law_pair_holds .nil pass0 (pa_cons (pv 2) (pa_cons (pv 3) (pa_cons (pv 4) (pa_cons (pv 6) (pa_cons (pv 7) pa_nil))))))))))) (pss_one (ps_ret pe_bl)) pss_nil))))
        (pss_cons (ps_for PassesOwn.never rfl (pi_range1 (by rfl) T.n_range (pa_cons pe_int pa_nil)) (pg_name (i := 5) sc_law.nd rfl (Or.inl rfl)) (pss_cons (ps_set (i := 6) sc_law.nd rfl (Or.inl rfl) (pe_ix ix_seq (pv 3) (pe_call (ok_law_pickW T) (hr.mono (by decide)) (by rfl) T.g_law_pick T.F_law_pick.kp T.b_law_pick .nil pass0 (pa_cons (pv 1) (pa_cons (pe_callB call_lenU (by rfl) T.n_len (by decide +kernel) (pa_cons (pv 3) pa_nil)) pa_nil))) (fun _ _ => rfl)))
        (pss_cons (ps_set (i := 7) sc_law.nd rfl (Or.inl rfl) (pe_ix ix_seq (pv 3) (pe_call (ok_law_pickW T) (hr.mono (by decide)) (by rfl) T.g_law_pick T.F_law_pick.kp T.b_law_pick .nil pass0 (pa_cons (pv 1) (pa_cons (pe_callB call_lenU (by rfl) T.n_len (by decide +kernel) (pa_cons (pv 3) pa_nil)) pa_nil))) (fun _ _ => rfl)))
        (pss_one (ps_if (pt_not (PW.pt (pw_and (pt_val (pe_call (ok_law_pair_holds T) hr (by rfl) T.g_law_pair_holds T.F_law_pair_holds.kp T.b_law_pair_holds .nil pass0 (pa_cons (pv 2) (pa_cons (pv 3) (pa_cons (pv 4) (pa_cons (pv 6) (pa_cons (pv 7) pa_nil))))))) (pw_and1 (pt_val (pe_call (ok_law_pair_holds T) hr (by rfl) T.g_law_pair_holds T.F_law_pair_holds.kp T.b_law_pair_holds .nil pass0 (pa_cons (pv 2) (pa_cons (pv 3) (pa_cons (pv 4) (pa_cons (pv 7) (pa_cons (pv 7) pa_nil))))))))))) (pss_one (ps_ret pe_bl)) pss_nil)))))
        (pss_cons (ps_if (PW.pt (pw_or (pt_not (pt_val (pe_call (ok_law_same T) (hr.mono (by decide)) (by rfl) T.g_law_same T.F_law_same.kp T.b_law_same .nil pass0 (pa_cons (pe_call (ok_chain_paper T) (hr.mono (by decide)) (by rfl) T.g_chain_paper T.F_chain_paper.kp T.b_chain_paper .nil pass0 (pa_cons (pv 2) (pa_cons (pe_tup pa_nil) pa_nil))) (pa_cons (pe_tup pa_nil) pa_nil))))) (pw_or1 (pt_cmpR op_isnot_bl (pe_call (ok_chain_fits T) (hr.mono (by decide)) (by rfl) T.g_chain_fits T.F_chain_fits.kp T.b_chain_fits .nil pass0 (pa_cons (pv 2) (pa_cons (pe_tup pa_nil) (pa_cons (pe_tup pa_nil) pa_nil)))) pe_bl (nomark _))))) (pss_one (ps_ret pe_bl)) pss_nil)
        (pss_one (ps_ret (pe_and (pe_cmpR op_is_bl (pe_call (ok_chain_fits T) (hr.mono (by decide)) (by rfl) T.g_chain_fits T.F_chain_fits.kp T.b_chain_fits .nil pass0 (pa_cons (pv 2) (pa_cons (pe_tup (pa_cons (pe_tup (pa_cons pe_int (pa_cons pe_int pa_nil))) pa_nil)) (pa_cons (pe_tup pa_nil) pa_nil)))) pe_bl (nomark _)) (pe_one (pe_cmpR op_is_bl (pe_call (ok_chain_fits T) (hr.mono (by decide)) (by rfl) T.g_chain_fits T.F_chain_fits.kp T.b_chain_fits .nil pass0 (pa_cons (pv 2) (pa_cons (pe_tup (pa_cons (pe_tup (pa_cons pe_int (pa_cons pe_int pa_nil))) pa_nil)) (pa_cons (pe_tup (pa_cons (pe_tup pa_nil) pa_nil)) pa_nil)))) pe_bl (nomark _))))))))))))))))), ?_⟩
    walk_at "rd"
    refine ⟨a0, ns, rfl, hS, hns, fun b h H1 e1 hb hh st => ?_⟩
    have w1 : W2 b h H H1 := ⟨e1, hb, hh, st⟩
    have k0 := Wk.start w1
    walk_at "rd"
    refine ⟨b, h, H, rfl, w1, fun wd G2 H2 L R sz n k2 wr2 n30 => ?_⟩
    walk_at "rd"
    refine ⟨wd, L, R, sz, n, G2, rfl, k2.w.g, wr2, fun mk G3 H3 xs t3 _ hm3 hms3 => ?_⟩
    have k3 := k2.pure t3
    walk_at "rd"
    refine ⟨wd, L, R, sz, n, rfl, (wr2.up t3.gg).up k3.w.g, fun tb H4 U e4 ht0 ht4 tl => ?_⟩
    obtain ⟨G4, k4, g4, eG4⟩ := k3.know e4 ht0 ht4
    have wr4 := (wr2.up t3.gg).up eG4
    have wv : Wv L R sz n := by obtain ⟨_, _, br⟩ := wr4; exact br.wv
    have U1000 : U.length ≤ 1000 := by
      obtain ⟨ws, hws, br⟩ := id wr4
      have := br.off_le (Nat.le_refl n)
      have := tl.1
      omega
    have wt : Wtb H4 wd mk tb xs L R sz n U := ⟨wr4.up k4.w.g, k4.w.g _ _ (eG4 _ _ hm3), (hms3.up eG4).up k4.w.g, ht4, tl, U1000⟩
    have nt : Nt b h mk tb := ⟨(fun z => by have := eG4 _ _ hm3; rw [z, k4.w.nb] at this; cases this), (fun z => by have := eG4 _ _ hm3; rw [z, k4.w.nh] at this; cases this), (fun z => by rw [z, k4.w.nb] at g4; cases g4), (fun z => by rw [z, k4.w.nh] at g4; cases g4)⟩
    have st4 := k4.w.st
    have u1 := (tl.bh0 wv).2
    have xl := wt.len
    clear hb hh hS k0 k2 k3 k4 w1 g4 eG4 wr4 wr2 t3 hm3 hms3 e4 ht0 ht4 st e1
    walk_at "rd"
    refine l_R (by decide) (by decide) (fun i σ H' => ∃ y5, σ = [some (.ref a0), some (.ref b), some (.ref wd), some (.ref mk), some (.ref tb), y5, none, none, none, none] ∧ Dr2 b h H4 H') ⟨none, rfl, Dr2.refl st4⟩ (fun i σ H' hi hW => ?_) (fun σ H4' hW => ?_)
    · obtain ⟨y5, rfl, D⟩ := hW
      have wt' := wt.dr st4 D nt
      walk_at "rd"
      refine ⟨b, h, wd, mk, tb, xs, L, R, sz, n, U, rfl, D.st, wt', nt, fun pr H6 row D6 hrow oks l8 => ?_⟩
      walk_at "rd"
      refine ⟨b, h, wd, mk, tb, .ref pr, xs, L, R, sz, n, U, row, rfl, D6.st, wt'.dr D.st D6 nt, nt, hrow, oks, by omega, fun H7 D7 => ?_⟩
      walk_at "rd"
      exact ⟨_, rfl, (D.trans D6).trans D7⟩
    obtain ⟨y5, rfl, Dx⟩ := hW
    have wtx := wt.dr st4 Dx nt
    have stx := Dx.st
    clear wt st4 Dx
    rename_i oldH4
    revert wtx stx
    generalize H4' = H4
    intro wt st4
    walk_at "rd"
    refine r_small nsz fun cp1 cn1 => ?_
    obtain ⟨cH1, ck1, ce1, m0⟩ := nP (R := IntV) (S := IntV) (u := .int 0) (v := .int 0) (x := 0) (y := 0) cn1 rfl rfl
    rw [← ck1]
    walk_at "rd"
    refine r_small nsz fun cp2 cn2 => ?_
    obtain ⟨cH2, ck2, ce2, m1⟩ := nP (R := IntV) (S := IntV) (u := .int 1) (v := .int 1) (x := 1) (y := 1) cn2 rfl rfl
    rw [← ck2]
    walk_at "rd"
    refine r_small nsz fun cp3 cn3 => ?_
    obtain ⟨cH3, ck3, ce3, m2⟩ := nP (R := IntV) (S := IntV) (u := .int 0) (v := .int 1) (x := 0) (y := 1) cn3 rfl rfl
    rw [← ck3]
    walk_at "rd"
    refine r_small nsz fun cp4 cn4 => ?_
    obtain ⟨cH4, ck4, ce4, m3⟩ := nP (R := IntV) (S := IntV) (u := .int 1) (v := .int 0) (x := 1) (y := 0) cn4 rfl rfl
    rw [← ck4]
    walk_at "rd"
    refine r_small nsz fun p4 n4 => ?_
    obtain ⟨H5, k5, e5, h5⟩ := nL (.lst [.ref cp1, .ref cp2, .ref cp3, .ref cp4]) n4
    rw [← k5]
    obtain ⟨nl, hnl⟩ : ∃ l : List (Nat × Nat), l = [(0, 0), (1, 1), (0, 1), (1, 0)] := ⟨_, rfl⟩
    have hNL : P2 (PairV IntV IntV H5) [.ref cp1, .ref cp2, .ref cp3, .ref cp4] nl := by rw [hnl]; exact .cons (imm (.ex (((ce2.trans ce3).trans ce4).trans e5)) m0) (.cons (imm (.ex ((ce3.trans ce4).trans e5)) m1) (.cons (imm (.ex (ce4.trans e5)) m2) (.cons (imm (.ex e5) m3) .nil)))
    have nl2 : ∀ z ∈ nl, z.1 < 2 ∧ z.2 < 2 := by rw [hnl]; decide
    have e45 := (((ce1.trans ce2).trans ce3).trans ce4).trans e5
    walk_at "rd"
    refine l_L (sqL h5) (fun i σ H' => ∃ y6 y7, σ = [some (.ref a0), some (.ref b), some (.ref wd), some (.ref mk), some (.ref tb), y5, y6, y7, none, none] ∧ Ex H5 H') ⟨none, none, rfl, Same.refl H5⟩ (fun i σ H' hW => ?_) (fun i v σ H' hv hW => ?_) (fun σ H6 hW => ?_)
    · obtain ⟨_, _, _, e⟩ := hW
      exact sqL (e _ _ h5)
    · obtain ⟨y6, y7, rfl, e⟩ := hW
      obtain ⟨z, hz, sz'⟩ := hNL.get hv
      obtain ⟨z1, z2⟩ := nl2 z (List.mem_of_getElem? hz)
      have wt' := (wt.up e45).up e
      refine r_gP (imm (R := PairV IntV IntV) (.ex e) sz') fun va vb ha hb => ?_
      obtain rfl := ha
      obtain rfl := hb
      obtain ⟨x, vx, ox, _, hx, sx⟩ := wt'.at_ (j := z.1) (by omega)
      obtain ⟨y, vy, oy, _, hy, sy⟩ := wt'.at_ (j := z.2) (by omega)
      walk_at "rd"
      refine r_ixL (sqL wt'.hm) (atI_nat hx) ?_
      walk_at "rd"
      refine r_ixL (sqL wt'.hm) (atI_nat hy) ?_
      walk_at "rd"
      refine ⟨wd, mk, tb, vx, vy, xs, L, R, sz, n, U, x, y, rfl, wt'.wr, wt'.hm, wt'.hms, wt'.ht, wt'.tl, wt'.ul, sx, sy, ox, oy, fun H6 e6 => ?_⟩
      walk_at "rd"
      exact ⟨_, _, rfl, e.trans e6⟩
    obtain ⟨y6, y7, rfl, e6⟩ := hW
    have x46 := e45.trans e6
    have wt6 := wt.up x46
    have D6 := Dr2.ex st4 x46
    have st6 := D6.st
    clear hNL h5 e45 e6 hnl
    walk_at "rd"
    refine ⟨fun σ H' => ∃ y8, σ = [some (.ref a0), some (.ref b), some (.ref wd), some (.ref mk), some (.ref tb), y5, y6, y7, y8, none] ∧ Dr2 b h H6 H', ?_, ?_⟩
    · obtain ⟨ws, hws, br⟩ := id wt6.wr
      have wsl := br.len
      walk_at "rd"
      refine r_lenT (sqT hws) ?_
      walk_at "rd"
      refine r_ite (fun hgt => ?_) (fun _ => ?_)
      · have n10 : 10 < n := by omega
        have ok1 : Ok sz n (1, 0) := ⟨by omega, wv.s1 1 (by decide) (by omega)⟩
        have ps1 : ps sz (1, 0) = 2 := by
          show off sz 1 + 0 = 2
          have := wv.s0
          simp [off, this]
        have U2 : 2 < U.length := by have := ps_lt tl ok1; omega
        obtain ⟨x, vx, ox, _, hx, sx⟩ := wt6.at_ (j := 2) U2
        obtain ⟨y, vy, oy, _, hy, sy⟩ := wt6.at_ (j := U.length - 1) (by omega)
        have hy1 : atI xs (-1) = some vy := atI_m1 (by rw [xl]; exact hy)
        walk_at "rd"
        refine r_ixL (sqL wt6.hm) (atI_nat (j := 2) hx) ?_
        walk_at "rd"
        refine r_ixL (sqL wt6.hm) hy1 ?_
        walk_at "rd"
        refine r_small nsz fun p7 n7 => ?_
        obtain ⟨H7, k7, e7, h7⟩ := nT (R := SgV) (l := [x, y]) n7 (.cons sx (.cons sy .nil))
        rw [← k7]
        have wt7 := wt6.up e7
        walk_at "rd"
        refine ⟨fun σ H' => ∃ v8 row, σ = [some (.ref a0), some (.ref b), some (.ref wd), some (.ref mk), some (.ref tb), y5, y6, y7, some v8, none] ∧ Ex H6 H' ∧ TupV SgV H' v8 row ∧ (∀ t ∈ row, Ok sz n t) ∧ row.length ≤ 10, ?_, ?_⟩
        · walk_at "rd"
          refine r_ixL (sqL wt7.hm) (atI_nat (j := 2) hx) ?_
          walk_at "rd"
          refine r_ixL (sqL wt7.hm) hy1 ?_
          walk_at "rd"
          refine ⟨mk, tb, vx, vy, xs, L, R, sz, n, U, x, y, rfl, wt7.hm, wt7.hms, wt7.ht, wt7.tl, wt7.ul, sx.up e7, sy.up e7, ox, oy, fun cc hcc => ?_⟩
          cases cc with
          | true =>
            walk_at "rd"
            exact ⟨_, [x, y], rfl, e7, h7, oks2 ox oy, by simp⟩
          | false =>
            walk_at "rd"
            refine r_ixL (sqL wt7.hm) hy1 ?_
            walk_at "rd"
            refine r_ixL (sqL wt7.hm) (atI_nat (j := 2) hx) ?_
            walk_at "rd"
            refine r_small nsz fun p8 n8 => ?_
            obtain ⟨H8, k8, e8, h8⟩ := nT (R := SgV) (l := [y, x]) n8 (.cons (sy.up e7) (.cons (sx.up e7) .nil))
            rw [← k8]
            walk_at "rd"
            exact ⟨_, [y, x], rfl, e7.trans e8, h8, oks2 oy ox, by simp⟩
        · rintro σ H8 ⟨v8, row, rfl, e8, hrow, oks, r10⟩
          walk_at "rd"
          refine ⟨b, h, wd, mk, tb, v8, xs, L, R, sz, n, U, row, rfl, st6.up e8, wt6.up e8, nt, hrow, oks, r10, fun H9 D9 => ?_⟩
          walk_at "rd"
          exact ⟨_, rfl, (Dr2.ex st6 e8).trans D9⟩
      · walk_at "rd"
        exact ⟨_, rfl, Dr2.refl st6⟩
    rintro σ H9 ⟨y8, rfl, D9⟩
    have wt9 := wt6.dr st6 D9 nt
    have st9 := D9.st
    clear wt6 st6 D9 D6 x46 wt st4
    walk_at "rd"
    refine ⟨wd, mk, tb, xs, L, R, sz, n, U, rfl, wt9, fun pr Ha zs ls ea npr hpr hZ okz l3 => ?_⟩
    have zl := hZ.len
    have prb := st9.nb npr
    have prh := st9.nh npr
    have Da := Dr2.ex st9 ea
    have wta := wt9.up ea
    have sta := Da.st
    walk_at "rd"
    refine r_lenL (sqL hpr) ?_
    walk_at "rd"
    have hmin : ∃ m : Int, m = min (3 : Int) (zs.length : Nat) ∧ 0 ≤ m ∧ m ≤ 3 ∧ m ≤ zs.length := ⟨_, rfl, by omega, by omega, by omega⟩
    obtain ⟨m, hm, m0, m3, mz⟩ := hmin
    rw [← hm]
    refine l_R (by omega) (by omega) (fun i σ H' => ∃ y5 y6 y7, σ = [some (.ref a0), some (.ref b), some (.ref wd), some (.ref mk), some (.ref tb), y5, y6, y7, y8, some (.ref pr)] ∧ Dr2 b h Ha H') ⟨y5, y6, y7, rfl, Dr2.refl sta⟩ (fun i σ H' hi hW => ?_) (fun σ Hb hW => ?_)
    · obtain ⟨y5, y6, y7, rfl, D⟩ := hW
      have hpr' := D.hh _ _ prb prh hpr
      walk_at "rd"
      refine r_lenL (sqL hpr') ?_
      walk_at "rd"
      refine ⟨b, h, (zs.length : Nat), rfl, D.st, by omega, by omega, fun d Hc d0 d1 Dc => ?_⟩
      obtain ⟨d, rfl⟩ : ∃ y : Nat, d = (y : Nat) := ⟨d.toNat, by omega⟩
      have hprc := Dc.hh _ _ prb prh hpr'
      obtain ⟨v, hv⟩ : ∃ v, zs[d]? = some v := ⟨_, List.getElem?_eq_getElem (by omega)⟩
      obtain ⟨z, hz, sz'⟩ := hZ.get hv
      have Dac := D.trans Dc
      have wtc := wta.dr sta Dac nt
      obtain ⟨ox, oy⟩ := okz z (List.mem_of_getElem? hz)
      walk_at "rd"
      refine r_ixL (sqL hprc) (atI_nat hv) ?_
      refine r_gP (imm (R := SpV) (dr2_tk sta Dac) sz') fun vx vy sx sy => ?_
      walk_at "rd"
      refine r_small nsz fun p7 n7 => ?_
      obtain ⟨H7, k7, e7, h7⟩ := nT (R := SgV) (l := [z.1, z.2]) n7 (.cons sx (.cons sy .nil))
      rw [← k7]
      walk_at "rd"
      refine ⟨b, h, wd, mk, tb, .ref p7, xs, L, R, sz, n, U, [z.1, z.2], rfl, Dac.st.up e7, wtc.up e7, nt, h7, oks2 ox oy, by simp, fun H8 D8 => ?_⟩
      have D78 := (Dr2.ex Dac.st e7).trans D8
      have t78 := dr2_tk Dac.st D78
      have wt8 := wtc.dr Dac.st D78 nt
      walk_at "rd"
      refine ⟨wd, mk, tb, vx, vy, xs, L, R, sz, n, U, z.1, z.2, rfl, wt8.wr, wt8.hm, wt8.hms, wt8.ht, wt8.tl, wt8.ul, imm t78 sx, imm t78 sy, ox, oy, fun He ee => ?_⟩
      walk_at "rd"
      exact ⟨_, _, _, rfl, (Dac.trans D78).then ee⟩
    obtain ⟨y5, y6, y7, rfl, Db⟩ := hW
    have wtb := wta.dr sta Db nt
    have stb := Db.st
    clear hZ hpr npr ea Da wta sta Db wt9 st9
    walk_at "rd"
    refine l_R (by decide) (by decide) (fun i σ H' => ∃ y5 y6 y7, σ = [some (.ref a0), some (.ref b), some (.ref wd), some (.ref mk), some (.ref tb), y5, y6, y7, y8, some (.ref pr)] ∧ Dr2 b h Hb H') ⟨y5, y6, y7, rfl, Dr2.refl stb⟩ (fun i σ H' hi hW => ?_) (fun σ Hc hW => ?_)
    · obtain ⟨y5, y6, y7, rfl, D⟩ := hW
      have wt1 := wtb.dr stb D nt
      walk_at "rd"
      refine r_lenL (sqL wt1.hm) ?_
      walk_at "rd"
      refine ⟨b, h, (xs.length : Nat), rfl, D.st, by omega, by omega, fun d Hc d0 d1 Dc => ?_⟩
      obtain ⟨d, rfl⟩ : ∃ y : Nat, d = (y : Nat) := ⟨d.toNat, by omega⟩
      have Dac := D.trans Dc
      have wtc := wtb.dr stb Dac nt
      obtain ⟨x, vx, ox, _, hx, sx⟩ := wtc.at_ (j := d) (by omega)
      walk_at "rd"
      refine r_ixL (sqL wtc.hm) (atI_nat hx) ?_
      walk_at "rd"
      refine r_lenL (sqL wtc.hm) ?_
      walk_at "rd"
      refine ⟨b, h, (xs.length : Nat), rfl, Dac.st, by omega, by omega, fun d2 Hd d20 d21 Dd => ?_⟩
      obtain ⟨d2, rfl⟩ : ∃ y : Nat, d2 = (y : Nat) := ⟨d2.toNat, by omega⟩
      have Dad := Dac.trans Dd
      have wtd := wtb.dr stb Dad nt
      obtain ⟨y, vy, oy, _, hy, sy⟩ := wtd.at_ (j := d2) (by omega)
      have sx2 := imm (dr2_tk Dac.st Dd) sx
      walk_at "rd"
      refine r_ixL (sqL wtd.hm) (atI_nat hy) ?_
      walk_at "rd"
      refine ⟨wd, mk, tb, vx, vy, xs, L, R, sz, n, U, x, y, rfl, wtd.wr, wtd.hm, wtd.hms, wtd.ht, wtd.tl, wtd.ul, sx2, sy, ox, oy, fun He ee => ?_⟩
      have wte := wtd.up ee
      walk_at "rd"
      refine ⟨wd, mk, tb, vy, vy, xs, L, R, sz, n, U, y, y, rfl, wte.wr, wte.hm, wte.hms, wte.ht, wte.tl, wte.ul, sy.up ee, sy.up ee, oy, oy, fun Hf ef => ?_⟩
      walk_at "rd"
      exact ⟨_, _, _, rfl, (Dad.then ee).then ef⟩
    obtain ⟨y5, y6, y7, rfl, Dc⟩ := hW
    have wr := (wtb.dr stb Dc nt).wr
    clear wtb stb Dc
    have nok : ∀ t ∈ ([] : List Sg), Ok sz n t := fun t ht => absurd ht List.not_mem_nil
    have cf00 : CF L R [] [] := ⟨rfl, fun k x y e h1 => by cases h1⟩
    have cf10 : ∀ z : Sg, CF L R [z] [] := fun z => ⟨rfl, fun k x y e h1 h2 h3 => by cases h3⟩
    have cf11 : ∀ (z : Sg) e, ¬ CF L R [z] [e] := fun z e g => by have := g.len; exact absurd this (by simp)
    walk_at "rd"
    refine r_small nsz fun p1 n1 => ?_
    obtain ⟨I1, k1, f1, h1⟩ := nT (R := SgV) (l := []) n1 .nil
    rw [← k1]
    walk_at "rd"
    refine ⟨wd, _, L, R, sz, n, [], rfl, wr.up f1, h1, nok, by simp, fun w2 I2 ll f2 h2 hHP => ?_⟩
    have ll0 : ll = [] := by have := hHP.len; exact List.length_eq_zero_iff.mp this
    subst ll0
    walk_at "rd"
    refine r_small nsz fun p3 n3 => ?_
    obtain ⟨I3, k3, f3, h3⟩ := nT (R := EnV) (l := []) n3 .nil
    rw [← k3]
    walk_at "rd"
    refine ⟨_, _, rfl, sm_lf 0 (by simp) (fun t ht => absurd ht List.not_mem_nil) (imm (R := LfV) (.ex f3) h2) h3, fun I4 f4 => ?_⟩
    have f04 := ((f1.trans f2).trans f3).trans f4
    walk_at "rd"
    refine r_small nsz fun p5 n5 => ?_
    obtain ⟨I5, k5, f5, h5⟩ := nT (R := SgV) (l := []) n5 .nil
    rw [← k5]
    walk_at "rd"
    refine r_small nsz fun p6 n6 => ?_
    obtain ⟨I6, k6, f6, h6⟩ := nT (R := EnV) (l := []) n6 .nil
    rw [← k6]
    have f06 := (f04.trans f5).trans f6
    walk_at "rd"
    refine ⟨wd, _, _, L, R, sz, n, [], [], rfl, wr.up f06, imm (.ex f6) h5, h6, nok, by simp, by simp, (fun t ht => absurd ht List.not_mem_nil), fun c7 I7 f7 hc7 => ?_⟩
    obtain rfl : c7 = true := hc7.mpr cf00
    walk_at "rd"
    refine ⟨_, _, rfl, rfl, ?_⟩
    walk_at "rd"
    walk_at "rd"
    refine r_small nsz fun zp1 zn1 => ?_
    obtain ⟨zH1, zk1, ze1, g1⟩ := nS (a := 0) (b := 0) (i := 0) (j := 0) zn1 rfl rfl
    rw [← zk1]
    walk_at "rd"
    refine r_small nsz fun zp2 zn2 => ?_
    obtain ⟨zH2, zk2, ze2, g2⟩ := nT (R := SgV) (l := [(0, 0)]) zn2 (.cons g1 .nil)
    rw [← zk2]
    walk_at "rd"
    refine r_small nsz fun zp3 zn3 => ?_
    obtain ⟨zH3, zk3, ze3, g3⟩ := nT (R := EnV) (l := []) zn3 .nil
    rw [← zk3]
    have fz := f06.trans (f7.trans ((ze1.trans ze2).trans ze3))
    have ok0 : ∀ t ∈ ([(0, 0)] : List Sg), Ok sz n t := fun t ht => by
      rw [List.mem_singleton.mp ht]
      exact ⟨wv.n0, by show 0 < sz 0; rw [wv.s0]; decide⟩
    walk_at "rd"
    refine ⟨wd, _, _, L, R, sz, n, [(0, 0)], [], rfl, wr.up fz, (imm (.ex ze3) g2), g3, ok0, by simp, by simp, (fun t ht => absurd ht List.not_mem_nil), fun c8 I8 f8 hc8 => ?_⟩
    obtain rfl : c8 = true := hc8.mpr (cf10 _)
    walk_at "rd"
    refine ⟨_, _, rfl, rfl, ?_⟩
    walk_at "rd"
    refine r_small nsz fun yp1 yn1 => ?_
    obtain ⟨yH1, yk1, ye1, j1⟩ := nS (a := 0) (b := 0) (i := 0) (j := 0) yn1 rfl rfl
    rw [← yk1]
    walk_at "rd"
    refine r_small nsz fun yp2 yn2 => ?_
    obtain ⟨yH2, yk2, ye2, j2⟩ := nT (R := SgV) (l := [(0, 0)]) yn2 (.cons j1 .nil)
    rw [← yk2]
    walk_at "rd"
    refine r_small nsz fun yp3 yn3 => ?_
    obtain ⟨yH3, yk3, ye3, j3⟩ := nT (R := SpV) (l := []) yn3 .nil
    rw [← yk3]
    walk_at "rd"
    refine r_small nsz fun yp4 yn4 => ?_
    obtain ⟨yH4, yk4, ye4, j4⟩ := nT (R := EnV) (l := [[]]) yn4 (.cons j3 .nil)
    rw [← yk4]
    have fy := fz.trans (f8.trans (((ye1.trans ye2).trans ye3).trans ye4))
    walk_at "rd"
    refine ⟨wd, _, _, L, R, sz, n, [(0, 0)], [[]], rfl, wr.up fy, (imm (.ex (ye3.trans ye4)) j2), j4, ok0, by simp, by simp, (fun t ht => by rw [List.mem_singleton.mp ht]; simp), fun c9 I9 f9 hc9 => ?_⟩
    obtain rfl : c9 = false := by
      cases c9 with
      | false => rfl
      | true => exact absurd (hc9.mp rfl) (cf11 _ _)
    walk_at "rd"
    refine ⟨_, _, rfl, rfl, ?_⟩
    walk_at "rd"
    exact q _
end
/-- an error of the class at S is what «except S» names -/
theorem exm_self {K : PySem.W.Frag} {S : Addr} (h1 : PySem.W.subIn K (.ref S) (.type "BaseException") = some true) (h2 : PySem.W.isClsIn K S = true) (h3 : PySem.W.typeIn K (.ref S) = some (.type "type")) (h4 : PySem.W.subIn K (.ref S) (.ref S) = some true) :
    PySem.W.exmOne K (.ref S) (.ref S) = some true := by
  have e1 : (PySem.W.subIn K (.ref S) (.type "BaseException") == some true) = true := by rw [h1] <;> rfl
  have e2 : ((PySem.W.clsIn K S).isSome && PySem.W.typeIn K (.ref S) == some (.type "type")) = true := by
    have h2' : (PySem.W.clsIn K S).isSome = true := h2
    rw [h2', h3] <;> rfl
  show (if (PySem.W.subIn K (.ref S) (.type "BaseException") == some true) = true then (if ((PySem.W.clsIn K S).isSome && PySem.W.typeIn K (.ref S) == some (.type "type")) = true then PySem.W.subIn K (.ref S) (.ref S) else none) else none) = some true
  rw [if_pos e1, if_pos e2]
  exact h4
theorem all_mk {l : PySem.W.OpenLaw} {w : World} {K : PySem.W.Frag} {h : Heap} {mg : Str → Option Value} {fa : Addr} (X : K.In h) (G : h.Ns mainGlobals mg) (hfa : mg "law" = some (.ref fa))
    {f_hops_of : Addr} {od_hops_of an_hops_of : Option Addr} {sl_hops_of : Array (Option Value)} {oc_hops_of kV_hops_of dc_hops_of pm_hops_of cd_hops_of ct_hops_of : Value}
    {f_chain_paper : Addr} {od_chain_paper an_chain_paper : Option Addr} {sl_chain_paper : Array (Option Value)} {oc_chain_paper kV_chain_paper dc_chain_paper pm_chain_paper cd_chain_paper ct_chain_paper : Value}
    {f_is_hop : Addr} {od_is_hop an_is_hop : Option Addr} {sl_is_hop : Array (Option Value)} {oc_is_hop kV_is_hop dc_is_hop pm_is_hop cd_is_hop ct_is_hop : Value}
    {f_entry_fits : Addr} {od_entry_fits an_entry_fits : Option Addr} {sl_entry_fits : Array (Option Value)} {oc_entry_fits kV_entry_fits dc_entry_fits pm_entry_fits cd_entry_fits ct_entry_fits : Value}
    {f_chain_fits : Addr} {od_chain_fits an_chain_fits : Option Addr} {sl_chain_fits : Array (Option Value)} {oc_chain_fits kV_chain_fits dc_chain_fits pm_chain_fits cd_chain_fits ct_chain_fits : Value}
    {f_law_draws : Addr} {od_law_draws an_law_draws : Option Addr} {sl_law_draws : Array (Option Value)} {oc_law_draws kV_law_draws dc_law_draws pm_law_draws cd_law_draws ct_law_draws : Value}
    {f_law_pick : Addr} {od_law_pick an_law_pick : Option Addr} {sl_law_pick : Array (Option Value)} {oc_law_pick kV_law_pick dc_law_pick pm_law_pick cd_law_pick ct_law_pick : Value}
    {f_law_say : Addr} {od_law_say an_law_say : Option Addr} {sl_law_say : Array (Option Value)} {oc_law_say kV_law_say dc_law_say pm_law_say cd_law_say ct_law_say : Value}
    {f_law_all : Addr} {od_law_all an_law_all : Option Addr} {sl_law_all : Array (Option Value)} {oc_law_all kV_law_all dc_law_all pm_law_all cd_law_all ct_law_all : Value}
    {f_law_closed : Addr} {od_law_closed an_law_closed : Option Addr} {sl_law_closed : Array (Option Value)} {oc_law_closed kV_law_closed dc_law_closed pm_law_closed cd_law_closed ct_law_closed : Value}
    {f_law_behind : Addr} {od_law_behind an_law_behind : Option Addr} {sl_law_behind : Array (Option Value)} {oc_law_behind kV_law_behind dc_law_behind pm_law_behind cd_law_behind ct_law_behind : Value}
    {f_law_ahead : Addr} {od_law_ahead an_law_ahead : Option Addr} {sl_law_ahead : Array (Option Value)} {oc_law_ahead kV_law_ahead dc_law_ahead pm_law_ahead cd_law_ahead ct_law_ahead : Value}
    {f_law_close : Addr} {od_law_close an_law_close : Option Addr} {sl_law_close : Array (Option Value)} {oc_law_close kV_law_close dc_law_close pm_law_close cd_law_close ct_law_close : Value}
    {f_law_pair : Addr} {od_law_pair an_law_pair : Option Addr} {sl_law_pair : Array (Option Value)} {oc_law_pair kV_law_pair dc_law_pair pm_law_pair cd_law_pair ct_law_pair : Value}
    {f_law_same : Addr} {od_law_same an_law_same : Option Addr} {sl_law_same : Array (Option Value)} {oc_law_same kV_law_same dc_law_same pm_law_same cd_law_same ct_law_same : Value}
    {f_law_world : Addr} {od_law_world an_law_world : Option Addr} {sl_law_world : Array (Option Value)} {oc_law_world kV_law_world dc_law_world pm_law_world cd_law_world ct_law_world : Value}
    {f_law_hops : Addr} {od_law_hops an_law_hops : Option Addr} {sl_law_hops : Array (Option Value)} {oc_law_hops kV_law_hops dc_law_hops pm_law_hops cd_law_hops ct_law_hops : Value}
    {f_law_paper : Addr} {od_law_paper an_law_paper : Option Addr} {sl_law_paper : Array (Option Value)} {oc_law_paper kV_law_paper dc_law_paper pm_law_paper cd_law_paper ct_law_paper : Value}
    {f_law_next : Addr} {od_law_next an_law_next : Option Addr} {sl_law_next : Array (Option Value)} {oc_law_next kV_law_next dc_law_next pm_law_next cd_law_next ct_law_next : Value}
    {f_law_ends : Addr} {od_law_ends an_law_ends : Option Addr} {sl_law_ends : Array (Option Value)} {oc_law_ends kV_law_ends dc_law_ends pm_law_ends cd_law_ends ct_law_ends : Value}
    {f_law_entry_fits : Addr} {od_law_entry_fits an_law_entry_fits : Option Addr} {sl_law_entry_fits : Array (Option Value)} {oc_law_entry_fits kV_law_entry_fits dc_law_entry_fits pm_law_entry_fits cd_law_entry_fits ct_law_entry_fits : Value}
    {f_law_fits : Addr} {od_law_fits an_law_fits : Option Addr} {sl_law_fits : Array (Option Value)} {oc_law_fits kV_law_fits dc_law_fits pm_law_fits cd_law_fits ct_law_fits : Value}
    {f_law_told : Addr} {od_law_told an_law_told : Option Addr} {sl_law_told : Array (Option Value)} {oc_law_told kV_law_told dc_law_told pm_law_told cd_law_told ct_law_told : Value}
    {f_law_chained : Addr} {od_law_chained an_law_chained : Option Addr} {sl_law_chained : Array (Option Value)} {oc_law_chained kV_law_chained dc_law_chained pm_law_chained cd_law_chained ct_law_chained : Value}
    {f_law_row : Addr} {od_law_row an_law_row : Option Addr} {sl_law_row : Array (Option Value)} {oc_law_row kV_law_row dc_law_row pm_law_row cd_law_row ct_law_row : Value}
    {f_law_rich : Addr} {od_law_rich an_law_rich : Option Addr} {sl_law_rich : Array (Option Value)} {oc_law_rich kV_law_rich dc_law_rich pm_law_rich cd_law_rich ct_law_rich : Value}
    {f_law_walk : Addr} {od_law_walk an_law_walk : Option Addr} {sl_law_walk : Array (Option Value)} {oc_law_walk kV_law_walk dc_law_walk pm_law_walk cd_law_walk ct_law_walk : Value}
    {f_law_walks : Addr} {od_law_walks an_law_walks : Option Addr} {sl_law_walks : Array (Option Value)} {oc_law_walks kV_law_walks dc_law_walks pm_law_walks cd_law_walks ct_law_walks : Value}
    {f_law_bent : Addr} {od_law_bent an_law_bent : Option Addr} {sl_law_bent : Array (Option Value)} {oc_law_bent kV_law_bent dc_law_bent pm_law_bent cd_law_bent ct_law_bent : Value}
    {f_law_holds : Addr} {od_law_holds an_law_holds : Option Addr} {sl_law_holds : Array (Option Value)} {oc_law_holds kV_law_holds dc_law_holds pm_law_holds cd_law_holds ct_law_holds : Value}
    {f_law_pair_holds : Addr} {od_law_pair_holds an_law_pair_holds : Option Addr} {sl_law_pair_holds : Array (Option Value)} {oc_law_pair_holds kV_law_pair_holds dc_law_pair_holds pm_law_pair_holds cd_law_pair_holds ct_law_pair_holds : Value}
    {f_law : Addr} {od_law an_law : Option Addr} {sl_law : Array (Option Value)} {oc_law kV_law dc_law pm_law cd_law ct_law : Value}
    (a_hops_of : PySem.W.nsIn K mainGlobals "hops_of" = some (some (.ref f_hops_of)))
    (l_hops_of : K.lookup f_hops_of = some ⟨oc_hops_of, od_hops_of, .func (PySem.W.fnOf "hops_of" "hops_of" (defArgs s_hops_of) (defBody s_hops_of) (defScope s_hops_of) .none kV_hops_of dc_hops_of pm_hops_of an_hops_of cd_hops_of ct_hops_of), sl_hops_of⟩)
    (c_hops_of : PySem.W.codeIn K cd_hops_of "hops_of" = true)
    (k_hops_of : PySem.W.keepIn K (.ref f_hops_of) = true)
    (a_chain_paper : PySem.W.nsIn K mainGlobals "chain_paper" = some (some (.ref f_chain_paper)))
    (l_chain_paper : K.lookup f_chain_paper = some ⟨oc_chain_paper, od_chain_paper, .func (PySem.W.fnOf "chain_paper" "chain_paper" (defArgs s_chain_paper) (defBody s_chain_paper) (defScope s_chain_paper) .none kV_chain_paper dc_chain_paper pm_chain_paper an_chain_paper cd_chain_paper ct_chain_paper), sl_chain_paper⟩)
    (c_chain_paper : PySem.W.codeIn K cd_chain_paper "chain_paper" = true)
    (k_chain_paper : PySem.W.keepIn K (.ref f_chain_paper) = true)
    (a_is_hop : PySem.W.nsIn K mainGlobals "is_hop" = some (some (.ref f_is_hop)))
    (l_is_hop : K.lookup f_is_hop = some ⟨oc_is_hop, od_is_hop, .func (PySem.W.fnOf "is_hop" "is_hop" (defArgs s_is_hop) (defBody s_is_hop) (defScope s_is_hop) .none kV_is_hop dc_is_hop pm_is_hop an_is_hop cd_is_hop ct_is_hop), sl_is_hop⟩)
    (c_is_hop : PySem.W.codeIn K cd_is_hop "is_hop" = true)
    (k_is_hop : PySem.W.keepIn K (.ref f_is_hop) = true)
    (a_entry_fits : PySem.W.nsIn K mainGlobals "entry_fits" = some (some (.ref f_entry_fits)))
    (l_entry_fits : K.lookup f_entry_fits = some ⟨oc_entry_fits, od_entry_fits, .func (PySem.W.fnOf "entry_fits" "entry_fits" (defArgs s_entry_fits) (defBody s_entry_fits) (defScope s_entry_fits) .none kV_entry_fits dc_entry_fits pm_entry_fits an_entry_fits cd_entry_fits ct_entry_fits), sl_entry_fits⟩)
    (c_entry_fits : PySem.W.codeIn K cd_entry_fits "entry_fits" = true)
    (k_entry_fits : PySem.W.keepIn K (.ref f_entry_fits) = true)
    (a_chain_fits : PySem.W.nsIn K mainGlobals "chain_fits" = some (some (.ref f_chain_fits)))
    (l_chain_fits : K.lookup f_chain_fits = some ⟨oc_chain_fits, od_chain_fits, .func (PySem.W.fnOf "chain_fits" "chain_fits" (defArgs s_chain_fits) (defBody s_chain_fits) (defScope s_chain_fits) .none kV_chain_fits dc_chain_fits pm_chain_fits an_chain_fits cd_chain_fits ct_chain_fits), sl_chain_fits⟩)
    (c_chain_fits : PySem.W.codeIn K cd_chain_fits "chain_fits" = true)
    (k_chain_fits : PySem.W.keepIn K (.ref f_chain_fits) = true)
    (a_law_draws : PySem.W.nsIn K mainGlobals "_law_draws" = some (some (.ref f_law_draws)))
    (l_law_draws : K.lookup f_law_draws = some ⟨oc_law_draws, od_law_draws, .func (PySem.W.fnOf "_law_draws" "_law_draws" (defArgs s_law_draws) (defBody s_law_draws) (defScope s_law_draws) .none kV_law_draws dc_law_draws pm_law_draws an_law_draws cd_law_draws ct_law_draws), sl_law_draws⟩)
    (c_law_draws : PySem.W.codeIn K cd_law_draws "_law_draws" = true)
    (k_law_draws : PySem.W.keepIn K (.ref f_law_draws) = true)
    (a_law_pick : PySem.W.nsIn K mainGlobals "_law_pick" = some (some (.ref f_law_pick)))
    (l_law_pick : K.lookup f_law_pick = some ⟨oc_law_pick, od_law_pick, .func (PySem.W.fnOf "_law_pick" "_law_pick" (defArgs s_law_pick) (defBody s_law_pick) (defScope s_law_pick) .none kV_law_pick dc_law_pick pm_law_pick an_law_pick cd_law_pick ct_law_pick), sl_law_pick⟩)
    (c_law_pick : PySem.W.codeIn K cd_law_pick "_law_pick" = true)
    (k_law_pick : PySem.W.keepIn K (.ref f_law_pick) = true)
    (a_law_say : PySem.W.nsIn K mainGlobals "_law_say" = some (some (.ref f_law_say)))
    (l_law_say : K.lookup f_law_say = some ⟨oc_law_say, od_law_say, .func (PySem.W.fnOf "_law_say" "_law_say" (defArgs s_law_say) (defBody s_law_say) (defScope s_law_say) .none kV_law_say dc_law_say pm_law_say an_law_say cd_law_say ct_law_say), sl_law_say⟩)
    (c_law_say : PySem.W.codeIn K cd_law_say "_law_say" = true)
    (k_law_say : PySem.W.keepIn K (.ref f_law_say) = true)
    (a_law_all : PySem.W.nsIn K mainGlobals "_law_all" = some (some (.ref f_law_all)))
    (l_law_all : K.lookup f_law_all = some ⟨oc_law_all, od_law_all, .func (PySem.W.fnOf "_law_all" "_law_all" (defArgs s_law_all) (defBody s_law_all) (defScope s_law_all) .none kV_law_all dc_law_all pm_law_all an_law_all cd_law_all ct_law_all), sl_law_all⟩)
    (c_law_all : PySem.W.codeIn K cd_law_all "_law_all" = true)
    (k_law_all : PySem.W.keepIn K (.ref f_law_all) = true)
    (a_law_closed : PySem.W.nsIn K mainGlobals "_law_closed" = some (some (.ref f_law_closed)))
    (l_law_closed : K.lookup f_law_closed = some ⟨oc_law_closed, od_law_closed, .func (PySem.W.fnOf "_law_closed" "_law_closed" (defArgs s_law_closed) (defBody s_law_closed) (defScope s_law_closed) .none kV_law_closed dc_law_closed pm_law_closed an_law_closed cd_law_closed ct_law_closed), sl_law_closed⟩)
    (c_law_closed : PySem.W.codeIn K cd_law_closed "_law_closed" = true)
    (k_law_closed : PySem.W.keepIn K (.ref f_law_closed) = true)
    (a_law_behind : PySem.W.nsIn K mainGlobals "_law_behind" = some (some (.ref f_law_behind)))
    (l_law_behind : K.lookup f_law_behind = some ⟨oc_law_behind, od_law_behind, .func (PySem.W.fnOf "_law_behind" "_law_behind" (defArgs s_law_behind) (defBody s_law_behind) (defScope s_law_behind) .none kV_law_behind dc_law_behind pm_law_behind an_law_behind cd_law_behind ct_law_behind), sl_law_behind⟩)
    (c_law_behind : PySem.W.codeIn K cd_law_behind "_law_behind" = true)
    (k_law_behind : PySem.W.keepIn K (.ref f_law_behind) = true)
    (a_law_ahead : PySem.W.nsIn K mainGlobals "_law_ahead" = some (some (.ref f_law_ahead)))
    (l_law_ahead : K.lookup f_law_ahead = some ⟨oc_law_ahead, od_law_ahead, .func (PySem.W.fnOf "_law_ahead" "_law_ahead" (defArgs s_law_ahead) (defBody s_law_ahead) (defScope s_law_ahead) .none kV_law_ahead dc_law_ahead pm_law_ahead an_law_ahead cd_law_ahead ct_law_ahead), sl_law_ahead⟩)
    (c_law_ahead : PySem.W.codeIn K cd_law_ahead "_law_ahead" = true)
    (k_law_ahead : PySem.W.keepIn K (.ref f_law_ahead) = true)
    (a_law_close : PySem.W.nsIn K mainGlobals "_law_close" = some (some (.ref f_law_close)))
    (l_law_close : K.lookup f_law_close = some ⟨oc_law_close, od_law_close, .func (PySem.W.fnOf "_law_close" "_law_close" (defArgs s_law_close) (defBody s_law_close) (defScope s_law_close) .none kV_law_close dc_law_close pm_law_close an_law_close cd_law_close ct_law_close), sl_law_close⟩)
    (c_law_close : PySem.W.codeIn K cd_law_close "_law_close" = true)
    (k_law_close : PySem.W.keepIn K (.ref f_law_close) = true)
    (a_law_pair : PySem.W.nsIn K mainGlobals "_law_pair" = some (some (.ref f_law_pair)))
    (l_law_pair : K.lookup f_law_pair = some ⟨oc_law_pair, od_law_pair, .func (PySem.W.fnOf "_law_pair" "_law_pair" (defArgs s_law_pair) (defBody s_law_pair) (defScope s_law_pair) .none kV_law_pair dc_law_pair pm_law_pair an_law_pair cd_law_pair ct_law_pair), sl_law_pair⟩)
    (c_law_pair : PySem.W.codeIn K cd_law_pair "_law_pair" = true)
    (k_law_pair : PySem.W.keepIn K (.ref f_law_pair) = true)
    (a_law_same : PySem.W.nsIn K mainGlobals "_law_same" = some (some (.ref f_law_same)))
    (l_law_same : K.lookup f_law_same = some ⟨oc_law_same, od_law_same, .func (PySem.W.fnOf "_law_same" "_law_same" (defArgs s_law_same) (defBody s_law_same) (defScope s_law_same) .none kV_law_same dc_law_same pm_law_same an_law_same cd_law_same ct_law_same), sl_law_same⟩)
    (c_law_same : PySem.W.codeIn K cd_law_same "_law_same" = true)
    (k_law_same : PySem.W.keepIn K (.ref f_law_same) = true)
    (a_law_world : PySem.W.nsIn K mainGlobals "_law_world" = some (some (.ref f_law_world)))
    (l_law_world : K.lookup f_law_world = some ⟨oc_law_world, od_law_world, .func (PySem.W.fnOf "_law_world" "_law_world" (defArgs s_law_world) (defBody s_law_world) (defScope s_law_world) .none kV_law_world dc_law_world pm_law_world an_law_world cd_law_world ct_law_world), sl_law_world⟩)
    (c_law_world : PySem.W.codeIn K cd_law_world "_law_world" = true)
    (k_law_world : PySem.W.keepIn K (.ref f_law_world) = true)
    (a_law_hops : PySem.W.nsIn K mainGlobals "_law_hops" = some (some (.ref f_law_hops)))
    (l_law_hops : K.lookup f_law_hops = some ⟨oc_law_hops, od_law_hops, .func (PySem.W.fnOf "_law_hops" "_law_hops" (defArgs s_law_hops) (defBody s_law_hops) (defScope s_law_hops) .none kV_law_hops dc_law_hops pm_law_hops an_law_hops cd_law_hops ct_law_hops), sl_law_hops⟩)
    (c_law_hops : PySem.W.codeIn K cd_law_hops "_law_hops" = true)
    (k_law_hops : PySem.W.keepIn K (.ref f_law_hops) = true)
    (a_law_paper : PySem.W.nsIn K mainGlobals "_law_paper" = some (some (.ref f_law_paper)))
    (l_law_paper : K.lookup f_law_paper = some ⟨oc_law_paper, od_law_paper, .func (PySem.W.fnOf "_law_paper" "_law_paper" (defArgs s_law_paper) (defBody s_law_paper) (defScope s_law_paper) .none kV_law_paper dc_law_paper pm_law_paper an_law_paper cd_law_paper ct_law_paper), sl_law_paper⟩)
    (c_law_paper : PySem.W.codeIn K cd_law_paper "_law_paper" = true)
    (k_law_paper : PySem.W.keepIn K (.ref f_law_paper) = true)
    (a_law_next : PySem.W.nsIn K mainGlobals "_law_next" = some (some (.ref f_law_next)))
    (l_law_next : K.lookup f_law_next = some ⟨oc_law_next, od_law_next, .func (PySem.W.fnOf "_law_next" "_law_next" (defArgs s_law_next) (defBody s_law_next) (defScope s_law_next) .none kV_law_next dc_law_next pm_law_next an_law_next cd_law_next ct_law_next), sl_law_next⟩)
    (c_law_next : PySem.W.codeIn K cd_law_next "_law_next" = true)
    (k_law_next : PySem.W.keepIn K (.ref f_law_next) = true)
    (a_law_ends : PySem.W.nsIn K mainGlobals "_law_ends" = some (some (.ref f_law_ends)))
    (l_law_ends : K.lookup f_law_ends = some ⟨oc_law_ends, od_law_ends, .func (PySem.W.fnOf "_law_ends" "_law_ends" (defArgs s_law_ends) (defBody s_law_ends) (defScope s_law_ends) .none kV_law_ends dc_law_ends pm_law_ends an_law_ends cd_law_ends ct_law_ends), sl_law_ends⟩)
    (c_law_ends : PySem.W.codeIn K cd_law_ends "_law_ends" = true)
    (k_law_ends : PySem.W.keepIn K (.ref f_law_ends) = true)
    (a_law_entry_fits : PySem.W.nsIn K mainGlobals "_law_entry_fits" = some (some (.ref f_law_entry_fits)))
    (l_law_entry_fits : K.lookup f_law_entry_fits = some ⟨oc_law_entry_fits, od_law_entry_fits, .func (PySem.W.fnOf "_law_entry_fits" "_law_entry_fits" (defArgs s_law_entry_fits) (defBody s_law_entry_fits) (defScope s_law_entry_fits) .none kV_law_entry_fits dc_law_entry_fits pm_law_entry_fits an_law_entry_fits cd_law_entry_fits ct_law_entry_fits), sl_law_entry_fits⟩)
    (c_law_entry_fits : PySem.W.codeIn K cd_law_entry_fits "_law_entry_fits" = true)
    (k_law_entry_fits : PySem.W.keepIn K (.ref f_law_entry_fits) = true)
    (a_law_fits : PySem.W.nsIn K mainGlobals "_law_fits" = some (some (.ref f_law_fits)))
    (l_law_fits : K.lookup f_law_fits = some ⟨oc_law_fits, od_law_fits, .func (PySem.W.fnOf "_law_fits" "_law_fits" (defArgs s_law_fits) (defBody s_law_fits) (defScope s_law_fits) .none kV_law_fits dc_law_fits pm_law_fits an_law_fits cd_law_fits ct_law_fits), sl_law_fits⟩)
    (c_law_fits : PySem.W.codeIn K cd_law_fits "_law_fits" = true)
    (k_law_fits : PySem.W.keepIn K (.ref f_law_fits) = true)
    (a_law_told : PySem.W.nsIn K mainGlobals "_law_told" = some (some (.ref f_law_told)))
    (l_law_told : K.lookup f_law_told = some ⟨oc_law_told, od_law_told, .func (PySem.W.fnOf "_law_told" "_law_told" (defArgs s_law_told) (defBody s_law_told) (defScope s_law_told) .none kV_law_told dc_law_told pm_law_told an_law_told cd_law_told ct_law_told), sl_law_told⟩)
    (c_law_told : PySem.W.codeIn K cd_law_told "_law_told" = true)
    (k_law_told : PySem.W.keepIn K (.ref f_law_told) = true)
    (a_law_chained : PySem.W.nsIn K mainGlobals "_law_chained" = some (some (.ref f_law_chained)))
    (l_law_chained : K.lookup f_law_chained = some ⟨oc_law_chained, od_law_chained, .func (PySem.W.fnOf "_law_chained" "_law_chained" (defArgs s_law_chained) (defBody s_law_chained) (defScope s_law_chained) .none kV_law_chained dc_law_chained pm_law_chained an_law_chained cd_law_chained ct_law_chained), sl_law_chained⟩)
    (c_law_chained : PySem.W.codeIn K cd_law_chained "_law_chained" = true)
    (k_law_chained : PySem.W.keepIn K (.ref f_law_chained) = true)
    (a_law_row : PySem.W.nsIn K mainGlobals "_law_row" = some (some (.ref f_law_row)))
    (l_law_row : K.lookup f_law_row = some ⟨oc_law_row, od_law_row, .func (PySem.W.fnOf "_law_row" "_law_row" (defArgs s_law_row) (defBody s_law_row) (defScope s_law_row) .none kV_law_row dc_law_row pm_law_row an_law_row cd_law_row ct_law_row), sl_law_row⟩)
    (c_law_row : PySem.W.codeIn K cd_law_row "_law_row" = true)
    (k_law_row : PySem.W.keepIn K (.ref f_law_row) = true)
    (a_law_rich : PySem.W.nsIn K mainGlobals "_law_rich" = some (some (.ref f_law_rich)))
    (l_law_rich : K.lookup f_law_rich = some ⟨oc_law_rich, od_law_rich, .func (PySem.W.fnOf "_law_rich" "_law_rich" (defArgs s_law_rich) (defBody s_law_rich) (defScope s_law_rich) .none kV_law_rich dc_law_rich pm_law_rich an_law_rich cd_law_rich ct_law_rich), sl_law_rich⟩)
    (c_law_rich : PySem.W.codeIn K cd_law_rich "_law_rich" = true)
    (k_law_rich : PySem.W.keepIn K (.ref f_law_rich) = true)
    (a_law_walk : PySem.W.nsIn K mainGlobals "_law_walk" = some (some (.ref f_law_walk)))
    (l_law_walk : K.lookup f_law_walk = some ⟨oc_law_walk, od_law_walk, .func (PySem.W.fnOf "_law_walk" "_law_walk" (defArgs s_law_walk) (defBody s_law_walk) (defScope s_law_walk) .none kV_law_walk dc_law_walk pm_law_walk an_law_walk cd_law_walk ct_law_walk), sl_law_walk⟩)
    (c_law_walk : PySem.W.codeIn K cd_law_walk "_law_walk" = true)
    (k_law_walk : PySem.W.keepIn K (.ref f_law_walk) = true)
    (a_law_walks : PySem.W.nsIn K mainGlobals "_law_walks" = some (some (.ref f_law_walks)))
    (l_law_walks : K.lookup f_law_walks = some ⟨oc_law_walks, od_law_walks, .func (PySem.W.fnOf "_law_walks" "_law_walks" (defArgs s_law_walks) (defBody s_law_walks) (defScope s_law_walks) .none kV_law_walks dc_law_walks pm_law_walks an_law_walks cd_law_walks ct_law_walks), sl_law_walks⟩)
    (c_law_walks : PySem.W.codeIn K cd_law_walks "_law_walks" = true)
    (k_law_walks : PySem.W.keepIn K (.ref f_law_walks) = true)
    (a_law_bent : PySem.W.nsIn K mainGlobals "_law_bent" = some (some (.ref f_law_bent)))
    (l_law_bent : K.lookup f_law_bent = some ⟨oc_law_bent, od_law_bent, .func (PySem.W.fnOf "_law_bent" "_law_bent" (defArgs s_law_bent) (defBody s_law_bent) (defScope s_law_bent) .none kV_law_bent dc_law_bent pm_law_bent an_law_bent cd_law_bent ct_law_bent), sl_law_bent⟩)
    (c_law_bent : PySem.W.codeIn K cd_law_bent "_law_bent" = true)
    (k_law_bent : PySem.W.keepIn K (.ref f_law_bent) = true)
    (a_law_holds : PySem.W.nsIn K mainGlobals "_law_holds" = some (some (.ref f_law_holds)))
    (l_law_holds : K.lookup f_law_holds = some ⟨oc_law_holds, od_law_holds, .func (PySem.W.fnOf "_law_holds" "_law_holds" (defArgs s_law_holds) (defBody s_law_holds) (defScope s_law_holds) .none kV_law_holds dc_law_holds pm_law_holds an_law_holds cd_law_holds ct_law_holds), sl_law_holds⟩)
    (c_law_holds : PySem.W.codeIn K cd_law_holds "_law_holds" = true)
    (k_law_holds : PySem.W.keepIn K (.ref f_law_holds) = true)
    (a_law_pair_holds : PySem.W.nsIn K mainGlobals "_law_pair_holds" = some (some (.ref f_law_pair_holds)))
    (l_law_pair_holds : K.lookup f_law_pair_holds = some ⟨oc_law_pair_holds, od_law_pair_holds, .func (PySem.W.fnOf "_law_pair_holds" "_law_pair_holds" (defArgs s_law_pair_holds) (defBody s_law_pair_holds) (defScope s_law_pair_holds) .none kV_law_pair_holds dc_law_pair_holds pm_law_pair_holds an_law_pair_holds cd_law_pair_holds ct_law_pair_holds), sl_law_pair_holds⟩)
    (c_law_pair_holds : PySem.W.codeIn K cd_law_pair_holds "_law_pair_holds" = true)
    (k_law_pair_holds : PySem.W.keepIn K (.ref f_law_pair_holds) = true)
    (a_law : PySem.W.nsIn K mainGlobals "law" = some (some (.ref f_law)))
    (l_law : K.lookup f_law = some ⟨oc_law, od_law, .func (PySem.W.fnOf "law" "law" (defArgs s_law) (defBody s_law) (defScope s_law) .none kV_law dc_law pm_law an_law cd_law ct_law), sl_law⟩)
    (c_law : PySem.W.codeIn K cd_law "law" = true)
    (k_law : PySem.W.keepIn K (.ref f_law) = true)
    (z_abs : PySem.W.nsIn K mainGlobals "abs" = some none)
    (z_all : PySem.W.nsIn K mainGlobals "all" = some none)
    (z_bool : PySem.W.nsIn K mainGlobals "bool" = some none)
    (z_dict : PySem.W.nsIn K mainGlobals "dict" = some none)
    (z_int : PySem.W.nsIn K mainGlobals "int" = some none)
    (z_isinstance : PySem.W.nsIn K mainGlobals "isinstance" = some none)
    (z_len : PySem.W.nsIn K mainGlobals "len" = some none)
    (z_list : PySem.W.nsIn K mainGlobals "list" = some none)
    (z_max : PySem.W.nsIn K mainGlobals "max" = some none)
    (z_min : PySem.W.nsIn K mainGlobals "min" = some none)
    (z_range : PySem.W.nsIn K mainGlobals "range" = some none)
    (z_str : PySem.W.nsIn K mainGlobals "str" = some none)
    (z_tuple : PySem.W.nsIn K mainGlobals "tuple" = some none)
    (z_zip : PySem.W.nsIn K mainGlobals "zip" = some none) :
    ∃ fd : FuncData, (∀ (s : Shared) (v : Value), BindsTo s fd ⟨[v], []⟩ [("_law_script", v)]) ∧ ∀ base : Heap, K.In base → base.Ns mainGlobals mg → FnOk l.prog w K mg base CX0 7 fa fd ["_law_script"] (sp_law K) := by
  have e := hfa.symm.trans (PySem.W.mg_of X G a_law)
  cases e
  have F_hops_of := fun_mk (st := s_hops_of) l_hops_of c_hops_of k_hops_of
  have F_chain_paper := fun_mk (st := s_chain_paper) l_chain_paper c_chain_paper k_chain_paper
  have F_is_hop := fun_mk (st := s_is_hop) l_is_hop c_is_hop k_is_hop
  have F_entry_fits := fun_mk (st := s_entry_fits) l_entry_fits c_entry_fits k_entry_fits
  have F_chain_fits := fun_mk (st := s_chain_fits) l_chain_fits c_chain_fits k_chain_fits
  have F_law_draws := fun_mk (st := s_law_draws) l_law_draws c_law_draws k_law_draws
  have F_law_pick := fun_mk (st := s_law_pick) l_law_pick c_law_pick k_law_pick
  have F_law_say := fun_mk (st := s_law_say) l_law_say c_law_say k_law_say
  have F_law_all := fun_mk (st := s_law_all) l_law_all c_law_all k_law_all
  have F_law_closed := fun_mk (st := s_law_closed) l_law_closed c_law_closed k_law_closed
  have F_law_behind := fun_mk (st := s_law_behind) l_law_behind c_law_behind k_law_behind
  have F_law_ahead := fun_mk (st := s_law_ahead) l_law_ahead c_law_ahead k_law_ahead
  have F_law_close := fun_mk (st := s_law_close) l_law_close c_law_close k_law_close
  have F_law_pair := fun_mk (st := s_law_pair) l_law_pair c_law_pair k_law_pair
  have F_law_same := fun_mk (st := s_law_same) l_law_same c_law_same k_law_same
  have F_law_world := fun_mk (st := s_law_world) l_law_world c_law_world k_law_world
  have F_law_hops := fun_mk (st := s_law_hops) l_law_hops c_law_hops k_law_hops
  have F_law_paper := fun_mk (st := s_law_paper) l_law_paper c_law_paper k_law_paper
  have F_law_next := fun_mk (st := s_law_next) l_law_next c_law_next k_law_next
  have F_law_ends := fun_mk (st := s_law_ends) l_law_ends c_law_ends k_law_ends
  have F_law_entry_fits := fun_mk (st := s_law_entry_fits) l_law_entry_fits c_law_entry_fits k_law_entry_fits
  have F_law_fits := fun_mk (st := s_law_fits) l_law_fits c_law_fits k_law_fits
  have F_law_told := fun_mk (st := s_law_told) l_law_told c_law_told k_law_told
  have F_law_chained := fun_mk (st := s_law_chained) l_law_chained c_law_chained k_law_chained
  have F_law_row := fun_mk (st := s_law_row) l_law_row c_law_row k_law_row
  have F_law_rich := fun_mk (st := s_law_rich) l_law_rich c_law_rich k_law_rich
  have F_law_walk := fun_mk (st := s_law_walk) l_law_walk c_law_walk k_law_walk
  have F_law_walks := fun_mk (st := s_law_walks) l_law_walks c_law_walks k_law_walks
  have F_law_bent := fun_mk (st := s_law_bent) l_law_bent c_law_bent k_law_bent
  have F_law_holds := fun_mk (st := s_law_holds) l_law_holds c_law_holds k_law_holds
  have F_law_pair_holds := fun_mk (st := s_law_pair_holds) l_law_pair_holds c_law_pair_holds k_law_pair_holds
  have F_law := fun_mk (st := s_law) l_law c_law k_law
  let T : Txt K mg := {
    a_hops_of := _, d_hops_of := _, F_hops_of := F_hops_of, b_hops_of := F_hops_of.binds (ps := ["births", "one", "other"]) (fun _ _ _ _ _ _ us hl => match us, hl with | [_, _, _], _ => rfl), g_hops_of := PySem.W.mg_of X G a_hops_of,
    a_chain_paper := _, d_chain_paper := _, F_chain_paper := F_chain_paper, b_chain_paper := F_chain_paper.binds (ps := ["births", "row"]) (fun _ _ _ _ _ _ us hl => match us, hl with | [_, _], _ => rfl), g_chain_paper := PySem.W.mg_of X G a_chain_paper,
    a_is_hop := _, d_is_hop := _, F_is_hop := F_is_hop, b_is_hop := F_is_hop.binds (ps := ["births", "before", "after"]) (fun _ _ _ _ _ _ us hl => match us, hl with | [_, _, _], _ => rfl), g_is_hop := PySem.W.mg_of X G a_is_hop,
    a_entry_fits := _, d_entry_fits := _, F_entry_fits := F_entry_fits, b_entry_fits := F_entry_fits.binds (ps := ["births", "pair", "entry"]) (fun _ _ _ _ _ _ us hl => match us, hl with | [_, _, _], _ => rfl), g_entry_fits := PySem.W.mg_of X G a_entry_fits,
    a_chain_fits := _, d_chain_fits := _, F_chain_fits := F_chain_fits, b_chain_fits := F_chain_fits.binds (ps := ["births", "row", "paper"]) (fun _ _ _ _ _ _ us hl => match us, hl with | [_, _, _], _ => rfl), g_chain_fits := PySem.W.mg_of X G a_chain_fits,
    a_law_draws := _, d_law_draws := _, F_law_draws := F_law_draws, b_law_draws := F_law_draws.binds (ps := ["_law_script"]) (fun _ _ _ _ _ _ us hl => match us, hl with | [_], _ => rfl), g_law_draws := PySem.W.mg_of X G a_law_draws,
    a_law_pick := _, d_law_pick := _, F_law_pick := F_law_pick, b_law_pick := F_law_pick.binds (ps := ["_law_box", "_law_many"]) (fun _ _ _ _ _ _ us hl => match us, hl with | [_, _], _ => rfl), g_law_pick := PySem.W.mg_of X G a_law_pick,
    a_law_say := _, d_law_say := _, F_law_say := F_law_say, b_law_say := F_law_say.binds (ps := ["_law_box", "_law_most"]) (fun _ _ _ _ _ _ us hl => match us, hl with | [_, _], _ => rfl), g_law_say := PySem.W.mg_of X G a_law_say,
    a_law_all := _, d_law_all := _, F_law_all := F_law_all, b_law_all := F_law_all.binds (ps := ["_law_world_here"]) (fun _ _ _ _ _ _ us hl => match us, hl with | [_], _ => rfl), g_law_all := PySem.W.mg_of X G a_law_all,
    a_law_closed := _, d_law_closed := _, F_law_closed := F_law_closed, b_law_closed := F_law_closed.binds (ps := ["_law_world_here"]) (fun _ _ _ _ _ _ us hl => match us, hl with | [_], _ => rfl), g_law_closed := PySem.W.mg_of X G a_law_closed,
    a_law_behind := _, d_law_behind := _, F_law_behind := F_law_behind, b_law_behind := F_law_behind.binds (ps := ["_law_table", "_law_j"]) (fun _ _ _ _ _ _ us hl => match us, hl with | [_, _], _ => rfl), g_law_behind := PySem.W.mg_of X G a_law_behind,
    a_law_ahead := _, d_law_ahead := _, F_law_ahead := F_law_ahead, b_law_ahead := F_law_ahead.binds (ps := ["_law_table", "_law_j"]) (fun _ _ _ _ _ _ us hl => match us, hl with | [_, _], _ => rfl), g_law_ahead := PySem.W.mg_of X G a_law_ahead,
    a_law_close := _, d_law_close := _, F_law_close := F_law_close, b_law_close := F_law_close.binds (ps := ["_law_table", "_law_j"]) (fun _ _ _ _ _ _ us hl => match us, hl with | [_, _], _ => rfl), g_law_close := PySem.W.mg_of X G a_law_close,
    a_law_pair := _, d_law_pair := _, F_law_pair := F_law_pair, b_law_pair := F_law_pair.binds (ps := ["_law_box", "_law_table", "_law_mode"]) (fun _ _ _ _ _ _ us hl => match us, hl with | [_, _, _], _ => rfl), g_law_pair := PySem.W.mg_of X G a_law_pair,
    a_law_same := _, d_law_same := _, F_law_same := F_law_same, b_law_same := F_law_same.binds (ps := ["_law_a", "_law_b"]) (fun _ _ _ _ _ _ us hl => match us, hl with | [_, _], _ => rfl), g_law_same := PySem.W.mg_of X G a_law_same,
    a_law_world := _, d_law_world := _, F_law_world := F_law_world, b_law_world := F_law_world.binds (ps := ["_law_box"]) (fun _ _ _ _ _ _ us hl => match us, hl with | [_], _ => rfl), g_law_world := PySem.W.mg_of X G a_law_world,
    a_law_hops := _, d_law_hops := _, F_law_hops := F_law_hops, b_law_hops := F_law_hops.binds (ps := ["_law_world_here", "_law_a", "_law_b"]) (fun _ _ _ _ _ _ us hl => match us, hl with | [_, _, _], _ => rfl), g_law_hops := PySem.W.mg_of X G a_law_hops,
    a_law_paper := _, d_law_paper := _, F_law_paper := F_law_paper, b_law_paper := F_law_paper.binds (ps := ["_law_world_here", "_law_line"]) (fun _ _ _ _ _ _ us hl => match us, hl with | [_, _], _ => rfl), g_law_paper := PySem.W.mg_of X G a_law_paper,
    a_law_next := _, d_law_next := _, F_law_next := F_law_next, b_law_next := F_law_next.binds (ps := ["_law_world_here", "_law_pair_here"]) (fun _ _ _ _ _ _ us hl => match us, hl with | [_, _], _ => rfl), g_law_next := PySem.W.mg_of X G a_law_next,
    a_law_ends := _, d_law_ends := _, F_law_ends := F_law_ends, b_law_ends := F_law_ends.binds (ps := ["_law_pair_here", "_law_many"]) (fun _ _ _ _ _ _ us hl => match us, hl with | [_, _], _ => rfl), g_law_ends := PySem.W.mg_of X G a_law_ends,
    a_law_entry_fits := _, d_law_entry_fits := _, F_law_entry_fits := F_law_entry_fits, b_law_entry_fits := F_law_entry_fits.binds (ps := ["_law_world_here", "_law_a", "_law_b", "_law_entry"]) (fun _ _ _ _ _ _ us hl => match us, hl with | [_, _, _, _], _ => rfl), g_law_entry_fits := PySem.W.mg_of X G a_law_entry_fits,
    a_law_fits := _, d_law_fits := _, F_law_fits := F_law_fits, b_law_fits := F_law_fits.binds (ps := ["_law_world_here", "_law_line", "_law_leaf"]) (fun _ _ _ _ _ _ us hl => match us, hl with | [_, _, _], _ => rfl), g_law_fits := PySem.W.mg_of X G a_law_fits,
    a_law_told := _, d_law_told := _, F_law_told := F_law_told, b_law_told := F_law_told.binds (ps := ["_law_marks", "_law_table", "_law_a", "_law_b"]) (fun _ _ _ _ _ _ us hl => match us, hl with | [_, _, _, _], _ => rfl), g_law_told := PySem.W.mg_of X G a_law_told,
    a_law_chained := _, d_law_chained := _, F_law_chained := F_law_chained, b_law_chained := F_law_chained.binds (ps := ["_law_marks", "_law_table", "_law_line"]) (fun _ _ _ _ _ _ us hl => match us, hl with | [_, _, _], _ => rfl), g_law_chained := PySem.W.mg_of X G a_law_chained,
    a_law_row := _, d_law_row := _, F_law_row := F_law_row, b_law_row := F_law_row.binds (ps := ["_law_box", "_law_marks", "_law_table"]) (fun _ _ _ _ _ _ us hl => match us, hl with | [_, _, _], _ => rfl), g_law_row := PySem.W.mg_of X G a_law_row,
    a_law_rich := _, d_law_rich := _, F_law_rich := F_law_rich, b_law_rich := F_law_rich.binds (ps := ["_law_world_here", "_law_marks", "_law_table"]) (fun _ _ _ _ _ _ us hl => match us, hl with | [_, _, _], _ => rfl), g_law_rich := PySem.W.mg_of X G a_law_rich,
    a_law_walk := _, d_law_walk := _, F_law_walk := F_law_walk, b_law_walk := F_law_walk.binds (ps := ["_law_box", "_law_world_here", "_law_marks", "_law_table", "_law_a", "_law_b"]) (fun _ _ _ _ _ _ us hl => match us, hl with | [_, _, _, _, _, _], _ => rfl), g_law_walk := PySem.W.mg_of X G a_law_walk,
    a_law_walks := _, d_law_walks := _, F_law_walks := F_law_walks, b_law_walks := F_law_walks.binds (ps := ["_law_world_here", "_law_a", "_law_b"]) (fun _ _ _ _ _ _ us hl => match us, hl with | [_, _, _], _ => rfl), g_law_walks := PySem.W.mg_of X G a_law_walks,
    a_law_bent := _, d_law_bent := _, F_law_bent := F_law_bent, b_law_bent := F_law_bent.binds (ps := ["_law_box", "_law_world_here", "_law_marks", "_law_leaf"]) (fun _ _ _ _ _ _ us hl => match us, hl with | [_, _, _, _], _ => rfl), g_law_bent := PySem.W.mg_of X G a_law_bent,
    a_law_holds := _, d_law_holds := _, F_law_holds := F_law_holds, b_law_holds := F_law_holds.binds (ps := ["_law_box", "_law_world_here", "_law_marks", "_law_table", "_law_line"]) (fun _ _ _ _ _ _ us hl => match us, hl with | [_, _, _, _, _], _ => rfl), g_law_holds := PySem.W.mg_of X G a_law_holds,
    a_law_pair_holds := _, d_law_pair_holds := _, F_law_pair_holds := F_law_pair_holds, b_law_pair_holds := F_law_pair_holds.binds (ps := ["_law_world_here", "_law_marks", "_law_table", "_law_a", "_law_b"]) (fun _ _ _ _ _ _ us hl => match us, hl with | [_, _, _, _, _], _ => rfl), g_law_pair_holds := PySem.W.mg_of X G a_law_pair_holds,
    a_law := _, d_law := _, F_law := F_law, b_law := F_law.binds (ps := ["_law_script"]) (fun _ _ _ _ _ _ us hl => match us, hl with | [_], _ => rfl), g_law := PySem.W.mg_of X G a_law,
    kb_chain_fits := ⟨fun _ us ws _ hl => match us, ws, hl with | [], [_, _, _], _ => .of_eq rfl, p210_rel⟩,
    kb_chain_paper := ⟨fun _ us ws _ hl => match us, ws, hl with | [], [_, _], _ => .of_eq rfl, q10_rel⟩,
    n_abs := PySem.W.mg_none_of X G z_abs,
    n_all := PySem.W.mg_none_of X G z_all,
    n_bool := PySem.W.mg_none_of X G z_bool,
    n_dict := PySem.W.mg_none_of X G z_dict,
    n_int := PySem.W.mg_none_of X G z_int,
    n_isinstance := PySem.W.mg_none_of X G z_isinstance,
    n_len := PySem.W.mg_none_of X G z_len,
    n_list := PySem.W.mg_none_of X G z_list,
    n_max := PySem.W.mg_none_of X G z_max,
    n_min := PySem.W.mg_none_of X G z_min,
    n_range := PySem.W.mg_none_of X G z_range,
    n_str := PySem.W.mg_none_of X G z_str,
    n_tuple := PySem.W.mg_none_of X G z_tuple,
    n_zip := PySem.W.mg_none_of X G z_zip }
  exact ⟨PySem.W.fnOf "law" "law" (defArgs s_law) (defBody s_law) (defScope s_law) .none kV_law dc_law pm_law an_law cd_law ct_law, fun s v => .of_eq rfl, fun base _ _ => ok_law T⟩
end K26
open PySem PySem.W PyProof.Rows
set_option maxHeartbeats 0 in
theorem PySem.Challenge.cw_deedstand_k26_whole_chain_papers_holds : PySem.Challenge.rw_deedstand_k26_whole_chain_papers.Holds := by
  w_on; o_law; k_head; (case hw => w_witness2)
  k_fill
  refine L2.walk_of (l := PySem.Challenge.rw_deedstand_k26_whole_chain_papers) (n := 63) (k := 7) (x := "_law_script") (CX := fun _ => L2.CX0) (sp := fun w => K26.sp_law _) rfl (by decide) rfl ⟨rfl, by decide, by decide⟩ (fun w h Y => PySem.W.kIn_of Y) ?F (fun _ _ a ns hl _ hS => ⟨a, ns, rfl, hS, hl, fun _ => rfl⟩) (fun _ _ _ _ _ h => h)
  case F =>
    intro w mg fa h KX G hmg
    refine' K26.all_mk KX G hmg ?a_hops_of ?l_hops_of ?c_hops_of ?k_hops_of ?a_chain_paper ?l_chain_paper ?c_chain_paper ?k_chain_paper ?a_is_hop ?l_is_hop ?c_is_hop ?k_is_hop ?a_entry_fits ?l_entry_fits ?c_entry_fits ?k_entry_fits ?a_chain_fits ?l_chain_fits ?c_chain_fits ?k_chain_fits ?a_law_draws ?l_law_draws ?c_law_draws ?k_law_draws ?a_law_pick ?l_law_pick ?c_law_pick ?k_law_pick ?a_law_say ?l_law_say ?c_law_say ?k_law_say ?a_law_all ?l_law_all ?c_law_all ?k_law_all ?a_law_closed ?l_law_closed ?c_law_closed ?k_law_closed ?a_law_behind ?l_law_behind ?c_law_behind ?k_law_behind ?a_law_ahead ?l_law_ahead ?c_law_ahead ?k_law_ahead ?a_law_close ?l_law_close ?c_law_close ?k_law_close ?a_law_pair ?l_law_pair ?c_law_pair ?k_law_pair ?a_law_same ?l_law_same ?c_law_same ?k_law_same ?a_law_world ?l_law_world ?c_law_world ?k_law_world ?a_law_hops ?l_law_hops ?c_law_hops ?k_law_hops ?a_law_paper ?l_law_paper ?c_law_paper ?k_law_paper ?a_law_next ?l_law_next ?c_law_next ?k_law_next ?a_law_ends ?l_law_ends ?c_law_ends ?k_law_ends ?a_law_entry_fits ?l_law_entry_fits ?c_law_entry_fits ?k_law_entry_fits ?a_law_fits ?l_law_fits ?c_law_fits ?k_law_fits ?a_law_told ?l_law_told ?c_law_told ?k_law_told ?a_law_chained ?l_law_chained ?c_law_chained ?k_law_chained ?a_law_row ?l_law_row ?c_law_row ?k_law_row ?a_law_rich ?l_law_rich ?c_law_rich ?k_law_rich ?a_law_walk ?l_law_walk ?c_law_walk ?k_law_walk ?a_law_walks ?l_law_walks ?c_law_walks ?k_law_walks ?a_law_bent ?l_law_bent ?c_law_bent ?k_law_bent ?a_law_holds ?l_law_holds ?c_law_holds ?k_law_holds ?a_law_pair_holds ?l_law_pair_holds ?c_law_pair_holds ?k_law_pair_holds ?a_law ?l_law ?c_law ?k_law ?z_abs ?z_all ?z_bool ?z_dict ?z_int ?z_isinstance ?z_len ?z_list ?z_max ?z_min ?z_range ?z_str ?z_tuple ?z_zip
    (case a_hops_of => k_is)
    (case l_hops_of => k_is)
    (case c_hops_of => k_is)
    (case k_hops_of => k_is)
    (case a_chain_paper => k_is)
    (case l_chain_paper => k_is)
    (case c_chain_paper => k_is)
    (case k_chain_paper => k_is)
    (case a_is_hop => k_is)
    (case l_is_hop => k_is)
    (case c_is_hop => k_is)
    (case k_is_hop => k_is)
    (case a_entry_fits => k_is)
    (case l_entry_fits => k_is)
    (case c_entry_fits => k_is)
    (case k_entry_fits => k_is)
    (case a_chain_fits => k_is)
    (case l_chain_fits => k_is)
    (case c_chain_fits => k_is)
    (case k_chain_fits => k_is)
    (case a_law_draws => k_is)
    (case l_law_draws => k_is)
    (case c_law_draws => k_is)
    (case k_law_draws => k_is)
    (case a_law_pick => k_is)
    (case l_law_pick => k_is)
    (case c_law_pick => k_is)
    (case k_law_pick => k_is)
    (case a_law_say => k_is)
    (case l_law_say => k_is)
    (case c_law_say => k_is)
    (case k_law_say => k_is)
    (case a_law_all => k_is)
    (case l_law_all => k_is)
    (case c_law_all => k_is)
    (case k_law_all => k_is)
    (case a_law_closed => k_is)
    (case l_law_closed => k_is)
    (case c_law_closed => k_is)
    (case k_law_closed => k_is)
    (case a_law_behind => k_is)
    (case l_law_behind => k_is)
    (case c_law_behind => k_is)
    (case k_law_behind => k_is)
    (case a_law_ahead => k_is)
    (case l_law_ahead => k_is)
    (case c_law_ahead => k_is)
    (case k_law_ahead => k_is)
    (case a_law_close => k_is)
    (case l_law_close => k_is)
    (case c_law_close => k_is)
    (case k_law_close => k_is)
    (case a_law_pair => k_is)
    (case l_law_pair => k_is)
    (case c_law_pair => k_is)
    (case k_law_pair => k_is)
    (case a_law_same => k_is)
    (case l_law_same => k_is)
    (case c_law_same => k_is)
    (case k_law_same => k_is)
    (case a_law_world => k_is)
    (case l_law_world => k_is)
    (case c_law_world => k_is)
    (case k_law_world => k_is)
    (case a_law_hops => k_is)
    (case l_law_hops => k_is)
    (case c_law_hops => k_is)
    (case k_law_hops => k_is)
    (case a_law_paper => k_is)
    (case l_law_paper => k_is)
    (case c_law_paper => k_is)
    (case k_law_paper => k_is)
    (case a_law_next => k_is)
    (case l_law_next => k_is)
    (case c_law_next => k_is)
    (case k_law_next => k_is)
    (case a_law_ends => k_is)
    (case l_law_ends => k_is)
    (case c_law_ends => k_is)
    (case k_law_ends => k_is)
    (case a_law_entry_fits => k_is)
    (case l_law_entry_fits => k_is)
    (case c_law_entry_fits => k_is)
    (case k_law_entry_fits => k_is)
    (case a_law_fits => k_is)
    (case l_law_fits => k_is)
    (case c_law_fits => k_is)
    (case k_law_fits => k_is)
    (case a_law_told => k_is)
    (case l_law_told => k_is)
    (case c_law_told => k_is)
    (case k_law_told => k_is)
    (case a_law_chained => k_is)
    (case l_law_chained => k_is)
    (case c_law_chained => k_is)
    (case k_law_chained => k_is)
    (case a_law_row => k_is)
    (case l_law_row => k_is)
    (case c_law_row => k_is)
    (case k_law_row => k_is)
    (case a_law_rich => k_is)
    (case l_law_rich => k_is)
    (case c_law_rich => k_is)
    (case k_law_rich => k_is)
    (case a_law_walk => k_is)
    (case l_law_walk => k_is)
    (case c_law_walk => k_is)
    (case k_law_walk => k_is)
    (case a_law_walks => k_is)
    (case l_law_walks => k_is)
    (case c_law_walks => k_is)
    (case k_law_walks => k_is)
    (case a_law_bent => k_is)
    (case l_law_bent => k_is)
    (case c_law_bent => k_is)
    (case k_law_bent => k_is)
    (case a_law_holds => k_is)
    (case l_law_holds => k_is)
    (case c_law_holds => k_is)
    (case k_law_holds => k_is)
    (case a_law_pair_holds => k_is)
    (case l_law_pair_holds => k_is)
    (case c_law_pair_holds => k_is)
    (case k_law_pair_holds => k_is)
    (case a_law => k_is)
    (case l_law => k_is)
    (case c_law => k_is)
    (case k_law => k_is)
    (case z_abs => k_is)
    (case z_all => k_is)
    (case z_bool => k_is)
    (case z_dict => k_is)
    (case z_int => k_is)
    (case z_isinstance => k_is)
    (case z_len => k_is)
    (case z_list => k_is)
    (case z_max => k_is)
    (case z_min => k_is)
    (case z_range => k_is)
    (case z_str => k_is)
    (case z_tuple => k_is)
    (case z_zip => k_is)
